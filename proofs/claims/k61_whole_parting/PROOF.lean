import PyProof.Rows.All
import Wide.All
import OpenK.AllK
import Wide.FinOn
import PyProof.EqAt
import PyProof.EqKinds
import PyProof.TupleCall
import Open.Tree
import Wide.Once
import KE.KLam
import KE.KNestM
import KE.KIsAll
import OpenK.KMore
import KE.KSortTup
import PyProof.Rows.SetFrom
import PyProof.IsiH_list
import PyProof.Rows.Exc
import KE.KDictOf
import PySem.Syntax
import PySem.Builtin.Str.Common
import PyProof.SliceList
import PyProof.StrCalls2
import KE.KIntText
import PyProof.NeData
import PyProof.ExcAttrAll.ValueError
import PyProof.ZipIter
import KE.KRevIter
import KE.KItemsList
import KE.KDictSum
import PyProof.DictWalks
import KE.KPairComp
import KE.KEqDict
import PyProof.StrBlock2
import PyProof.StrBlockL
import PyProof.ConsumeWalk
import PyProof.ListRange
import PyProof.EnumFor
import PyProof.EnumMake
import PyProof.EnumStmt
import PyProof.CompFree
import PyProof.PlainList
import PyProof.Draws
import PyProof.StrWalks
import PyProof.StrLawsTight
import Lean
import PySem.Challenge.RW_backtape_k61_whole_parting
set_option autoImplicit true
set_option Elab.async false
set_option linter.all false
set_option maxRecDepth 100000
set_option maxHeartbeats 8000000
set_option genSizeOf false
set_option compiler.extract_closed false
set_option bootstrap.genMatcherCode false
noncomputable section
open PySem renaming Value->aC,Str->aB,wpAny->aA,wpAny_pure->az,Heap->ay,Obj->av,codeAny->au,sizeLine->ao
open Option renaming some->aa,none->af
open Bool renaming true->ah,false->ai
open PySem.W renaming Frag->PP,findIn->Qp,nsIn->QI,emptyDict->Q0,keepIn->Q3,tabIn->Ri,fnOf->Rj,kitOne->Rm,instObj->Rt,specialIn->RM,hasDictIn->RN,mg_of->Se,kia_one->Sf,plainGet->Sw,callWith_K->SN,takesIn->Te,methodCall_KW->Tf,isFn->Tg,tabObj->TF,lookIn->TH,codeIn->TJ,plainGet_of->TV,callWith_K0->TX,mroIn->T3,plainOver->Ue,methodObj->Ug,codeHdIn->Uj,takerIn->Ut,readsIn->Uu,makesIn->Uv,byRow2->UD,absHeap->UR,SharedT->US,recOk->UT,cellsFrom_some->U1,xlAt->U9,envX->Va,codeHd_of_K->Vq,wideGood->VM,handedIn->VN,clsGoodW->VO,openSeen->VX,findCls->V5
open PySem renaming wpAny_bind->PR,Shared->PX,Expr->P1,Addr->P4,Program->Qg,mainGlobals->Qh,model->Qq,sliceBounds->Qz,World->QA,starEach->QC,Stmt->QN,Around->QO,wpAny_field->QV,Scope->QX,wpAny_callSpecial?_slot->QY,compareOp->QZ,wpAny_truthy_bool->Rh,wpAny_holding->Ru,binaryOp->Rv,wpAny_seqItems->Rx,FuncData->Ry,wpAny_newObj_type->RB,wpAny_call_entry->RL,wpAny_Call_Name_kw->RT,wpAny_passesOwn->RY,assignEach->R8,mem_of_lookup->Sa,wpAny_mono->Ss,builtinsNs->Su,wpAny_loadPart'->Sv,NameKind->Sy,IsPair->SG,sysModules->SH,call_meets->SI,Expr->SK,backTo->SL,wpAny_updateSeq->SV,swapsWith->SW,wpAny_setField_rec->S7,bootBuiltins->S9,Operator->Tc,sliceRange->Tw,keywordEach->TQ,holding->TR,attributeBase->TU,wpAny_execs_nil->T8,rawInt->T9,letOwnedTupleGo->Ua,importedModules->Ub,Keyword->Ui,Stmt->Us,Builtin->Ux,wpAny_standAt->UB,wpAny_pyIter_tuple->UC,DictEntry->UH,Arguments->UJ,getItem->UQ,wpAny_typeOf->UX,pyNext->UY,codeAny_mono->UZ,assign->U0,IsPart->U7,noFill_tuple_add->U8,backToKw->Vd,wpAny_in_of->Vk,standAt->Vl,getMethod->Vm,Within->Vp,wpAny_binaryOp_repeat_ref->VA,bltViewBooted->VB,IsZip->VG,wpAny_rule->VJ,wpAny_getItem_list_slice->VL,wpAny_attempt->VT,seq_tuple_add->VW,evalPart_none->VY,compEnvC->VZ,callerA->V0,bindArgs->V1,behindInMarks->V2,ZipApart->V3,call->V4
open PySem.Heap renaming get?_push_of_some->PU,lt_size->P7,get?_push_size->Qf,size_push->Q8,get?_update_other->Rg,get?_update_self->Rr,SameBut->Si
open List renaming getElem?_append_left->PV,size_toArray->PY,getElem?_eq_getElem->P0,mem_of_getElem?->P8,length_cons->P9,map_cons->Qa,getElem?_eq_none->Qc,mem_cons_of_mem->Qe,replicate->Qi,getElem?_map->Qj,length_append->Qk,getElem?_set_ne->Ql,range->Qm,mem_cons_self->Qn,length_map->Qt,filterMap_cons->Qv,getElem?_set_self->Qw,getElem?_append_right->QB,mem_append_right->QH,length_nil->QJ,map_nil->QL,length_set->QS,append_assoc->QU,getD_eq_getElem?_getD->Q2,replicate_succ->Rc,map_congr_left->Re,append_nil->Rf,lookup_cons->Rn,singleton_append->Rq,all_eq_true->RG,zip_cons_cons->RJ,nil_append->RO,map_append->RP,flatten_cons->RU,getElem?_of_mem->RX,mem_or_eq_of_mem_set->R6,lookup->Sb,getElem?_take_of_lt->Sh,getElem?_replicate->Sk,find?_cons->Sn,length_singleton->SA,length_replicate->SB,mem_append_left->SJ,not_mem_nil->Ti,length_take->Tj,filter_cons->Tn,reverse_singleton->Tt,range_succ_eq_map->Tu,find?_cons_of_neg->Tv,map_set->TL,map_map->TM,forIn_cons->TN,getElem?_range->T4,getElem_inj->Uz,eq_nil_of_length_eq_zero->UA,of_mem_zip->UM,length->UN,getElem?_zip_eq_some->U3,getElem?_eq_none_iff->U4,forIn_nil->U5,drop_eq_getElem_cons->U6,foldl->Vb,sum_cons->Ve,mem_cons->Vf,head_eq_of_cons_eq->Vg,getElem?_cons_succ->Vh,set_set->Vv,set_getElem_self->Vw,set_append_right->Vx,length_filter_le->Vy,range'->VQ,set_cons_succ->V8,contains_cons->V9
open Bool renaming and_eq_true->PZ,false_ne_true->QM,or_eq_true->So,false_eq_true->Sq,or_false->Td,not_eq_true'->Uq,or_eq_false_iff->VH
open Option.some renaming inj->P5,injEq->SM
open Nat renaming le_refl->P6,lt_of_lt_of_le->Qo,lt_or_ge->Qs,ne_of_lt->Qu,le_trans->QD,lt_irrefl->QG,ne_of_gt->Q5,eq_zero_or_pos->Q6,le_add_right->Rp,zero_le->RC,lt_succ_self->RI,mul_comm->Sj,le_succ->Sx,le_of_lt->SC,lt_trans->TY,add_lt_add_left->Uh,mul_div_cancel->Uk,zero_add->Uy,div_add_mod->UV,succ_pos->VD,sub_self->VE,le_of_ble_eq_true->VF,div_le_div_right->VP
open PySem.Str renaming ofString->Qd,ofString_eq_toList->Vu
open PySem.Builtin.SmallTypes renaming nextOf->Qx,ownedTupleIsFree->QE,ownedTupleHandOut->SQ
open PySem.Value renaming ref->QF,none->RE,bool->SX,type->Tz,isStrOf->Uc,int->Ud,str->Vo
open Option renaming bind_some->QK,map_some->To,getD_some->V6,getD_none->V7
open PyProof.Rows renaming callWith_type1->QT,slot_tuple_getitem->Rk,plainGoodE->Um,plainGoodD->Uo,expectedOf->Up,drecsOf->UF,envOfC->Vn,AllBare->Vt,tail_any->VU,subscriptTail->VV,IntsAre->Wa
open Ne renaming symm->QW
open PySem.Builtin.List renaming listTooLong->Q4,listExtendWith->Rz,listSameRef->Ul,listItems->Uw
open PySem.NameKind renaming free->Q7,cell->TZ
open Array renaming length_toList->Q9,getElem?_eq_getElem->SS,eq_empty_of_size_eq_zero->Ur,getElem?_toList->Vr,forIn_toList->VS
open False renaming elim->Rl
open PySem.Obj renaming mapSeq->Ro
open PySem.Builtin.Slice renaming slicePlaces->RK,sliceAdjust->SE,sliceApplied->T7
open PySem.Builtin.Tuple renaming tupleExact->RQ,tupleTooMany->T5,tupleItemsOf->T6
open PySem.F renaming plain_extend_loop->RV,plainAttrs_list->Sg,args_tuple_add_2->SR,entry_tuple_add->SY,slot_tuple_add->SZ,entry_extend_loop->UE,type_list_append->UK,slot_list_append->UL
open PySem.Builtin.Str renaming occurrences->RZ
open True renaming intro->Sd
open Int renaming toNat_natCast->Sz,natCast_add->SO
open List.cons renaming injEq->SD
open ForInStep renaming yield->S6
open PySem.Heap.IsSliceOf renaming new->UG
open Classical renaming axiomOfChoice->UI
open PySem.Heap.SameBut renaming update->UO
open PySem.Calls renaming Name_function_global->UP,callWith_builtin->Vi,spliced_cons->VR,spliced_nil->Wb
open Prod.mk renaming injEq->UU
open List.Pairwise renaming nil->UW
open Char renaming toNat->Vc
open PySem.Around renaming under->Vj,under_plainId->Vs
open PySem.Code renaming isFrame->Vz
open PySem.PassesOwn renaming never->VC
open PySem.AutoSeq1 renaming idx_int->VI
section
namespace L2
open PySem PySem.Spec PyProof.Rows
def fK (s:Us):UJ:=match s with
 | .FunctionDef _ a _ _ _ _ _ _ _ _=>a| _=>{ posonlyargs:=[],args:=[],vararg:=af,kwonlyargs:=[],kw_defaults:=[],kwarg:=af,defaults:=[] }
def dR (s:Us):List Us:=match s with
 | .FunctionDef _ _ b _ _ _ _ _ _ _=>b| _=>[]
def dh (s:Us):QX:=match s with
 | .FunctionDef _ _ _ _ _ _ sc _ _ _=>sc| _=>{ kind:=.function,names:=[],isGenerator:=ai,isCoroutine:=ai }
end L2
end
section
namespace BR
open PySem PySem.W PyProof.Rows
noncomputable def rM:List av->BT->Nat->Option (BT×Nat)
 | [],T,n=>aa (T,n)
 | o::r,T,n=>match ((T.ins n o).get n).isSome with
  | true=>rM r (T.ins n o) (n+1)| false=>af
theorem o9 (life:Life):∀ {l:List av}{T T':BT}{n n':Nat},rM l T n=aa (T',n')->(UR T' n' life).objs.toList=(UR T n life).objs.toList++l
 | [],T,T',n,n',h=>by cases h;simp
 | o::r,T,T',n,n',h=>by
  unfold rM at h;cases g:((T.ins n o).get n).isSome with
  | false=>rw[g] at h;cases h
  | true =>
   rw[g] at h;rw[o9 life h,absHeap_ins g];show ((UR T n life).objs.push o).toList++r=_;simp
noncomputable def toT (s:PX):Option US:=match rM s.heap.objs.toList .nil 0 with
 | some (T,n)=>aa ⟨T,n,s.heap.life,s.gens,s.drawn,s.toks,s.os⟩| none=>af
theorem B0 (h:toT s=aa t):t.abs=s:=by
 unfold toT at h;cases e:rM s.heap.objs.toList .nil 0 with
 | none=>rw[e] at h;cases h
 | some r =>
  obtain ⟨T,n⟩:=r;rw[e] at h;cases h;have:=o9 s.heap.life e;obtain ⟨⟨objs,life⟩,g,d,k,o⟩:=s;show Shared.mk (UR T n life) g d k o=Shared.mk ⟨objs,life⟩ g d k o;have e2:(UR T n life).objs.toList=objs.toList:=by rw[this];simp[UR,BT.list]
  have e3:(UR T n life).objs=objs:=Array.toList_inj.mp e2;have e4:UR T n life=⟨objs,life⟩:=by show Heap.mk _ _=Heap.mk _ _;exact congrArg (Heap.mk · life) e3
  rw[e4]
noncomputable def mE (tb:String->Option Ux) (p:Qg) (w:QA) (n₀:Nat) (ann:Option aC):Nat->US->Thread->Option US
 | 0,_,_=>af
 | n+1,s,t=>match through t with
  | true=>aa s
  | false=>match stepOk n₀ ann t with
   | false=>af
   | true=>match stepT (denote tb) p w s t with
    | some (s',t')=>mE tb p w n₀ ann n s' t'| none=>af
section
variable {tb:String->Option Ux}{p:Qg}{w:QA}{n₀:Nat}{ann:Option aC}
theorem pq:∀ {n:Nat}{s s':US}{t:Thread},mE tb p w n₀ ann n s t=aa s'->topRun tb p w n₀ ann n s.abs t=aa s'.abs
 | 0,_,_,_,h=>by cases h
 | n+1,s,s',t,h=>by
  unfold mE at h;unfold topRun;cases he:through t with
  | true=>rw[he] at h;cases h;rfl
  | false =>
   rw[he] at h;cases hk:stepOk n₀ ann t with
   | false=>rw[hk] at h;cases h
   | true =>
    rw[hk] at h;cases hs:stepT (denote tb) p w s t with
    | none=>rw[hs] at h;cases h| some r=>obtain ⟨s₂,t₂⟩:=r;rw[hs] at h;dsimp only;rw[stepT_spec hs];exact pq h
end
noncomputable def mS (tb:String->Option Ux) (p:Qg) (w:QA) (N:Nat) (s₀:PX):Option US :=
 match s₀.heap.isNs Qh&&s₀.gens.size==0 with
 | true=>(toT s₀).bind λt₀=>(mE tb p w s₀.heap.objs.size (s₀.heap.nsMap Qh "__annotations__") N t₀ (topStub p)).bind λt₁ =>
  match staticsOk (Ub p.main.body) s₀.heap t₁.abs.heap&&namesBound p t₁.abs.heap&&gensDone t₁.abs&&laidKept s₀.heap t₁.abs.heap with
   | true=>aa t₁| false=>af
 | false=>af
theorem tW (h:mS tb p w N s₀=aa t):topFrom tb p w N s₀=aa t.abs:=by
 unfold mS at h;unfold topFrom;cases e:(s₀.heap.isNs Qh&&s₀.gens.size==0) with
 | false=>rw[e] at h;cases h
 | true =>
  rw[e] at h;obtain ⟨t₀,h0,h⟩:=Option.bind_eq_some_iff.mp h;obtain ⟨t₁,h1,h⟩:=Option.bind_eq_some_iff.mp h;have h2:=pq h1;rw[B0 h0] at h2;dsimp only;rw[h2];show (match _ with|true=>aa t₁.abs|false=>af)=_;cases e2:(staticsOk (Ub p.main.body) s₀.heap t₁.abs.heap&&namesBound p t₁.abs.heap&&gensDone t₁.abs&&laidKept s₀.heap t₁.abs.heap) with
  | false=>rw[e2] at h;cases h| true=>rw[e2] at h;cases h;rfl
noncomputable def jO (tb:String->Option Ux) (p:Qg) (w:QA) (N:Nat):Option US:=(fencedOpening tb p w N).bind (mS tb p w N)
theorem B6 {tb:String->Option Ux}{p:Qg}{w:QA}{N:Nat}{α:Type}{f:PX->α}{x:α} (h:(jO tb p w N).map (λt=>f t.abs)=aa x):(openEnds tb p w N).map f=aa x:=by obtain ⟨t,ht,e⟩:=Option.map_eq_some_iff.mp h;obtain ⟨s₀,h0,h1⟩:=Option.bind_eq_some_iff.mp ht;unfold openEnds;rw[h0];show (topFrom tb p w N s₀).map f=aa x;rw[tW h1];exact congrArg aa e
theorem yx {α β γ δ:Type}{o:Option α}{f:α->β×γ}{g:α->δ}{x:β}{y:γ}{z:δ} (h1:o.map (λt=>(f t).1)=aa x) (h2:o.map (λt=>(f t).2)=aa y) (h3:o.map g=aa z):o.map (λt=>(f t,g t))=aa ((x,y),z):=by
 cases o with
 | none=>cases h2
 | some t =>
  have e1:(f t).1=x:=P5 h1;have e2:(f t).2=y:=P5 h2;have e3:g t=z:=P5 h3;show aa (f t,g t)=_;rw[← e1,← e2,← e3]
theorem good (q:Qg) (loose:List aB):openGood q loose=(Up q,VB,ah,ah,PySem.pinGoodD (UF q),Um q (PySem.W.looseW q loose),Uo q loose,VM q,VO q loose):=rfl
def LA (tb:String->Option Ux) (p q:Qg) (loose mods:List aB) (Xt:PX->Bool) (g0:Bool) (N:Nat) (w:QA):Prop :=
 (jO tb p w N).map (λt=>(VX q loose mods Xt g0 t.abs).1)=aa (Up q)
def LB (tb:String->Option Ux) (p q:Qg) (loose mods:List aB) (Xt:PX->Bool) (g0:Bool) (N:Nat) (w:QA):Prop :=
 (jO tb p w N).map (λt=>(VX q loose mods Xt g0 t.abs).2)=aa (VB,ah,ah,PySem.pinGoodD (UF q),Um q (PySem.W.looseW q loose),Uo q loose,VM q,VO q loose)
def LO (tb:String->Option Ux) (p:Qg) (N:Nat) {α:Type} (Yf:PX->α) (Ya:QA->α) (w:QA):Prop:=(jO tb p w N).map (λt=>Yf t.abs)=aa (Ya w)
theorem B7 {tb:String->Option Ux}{p q:Qg}{loose mods:List aB}{Xt:PX->Bool}{g0:Bool}{N:Nat}{α:Type}{Yf:PX->α}{Ya:QA->α}{w:QA} (h1:LA tb p q loose mods Xt g0 N w) (h2:LB tb p q loose mods Xt g0 N w) (h3:LO tb p N Yf Ya w) :
 (openEnds tb p w N).map (λs=>(VX q loose mods Xt g0 s,Yf s))=aa (openGood q loose,Ya w):=by
 rw[good];have h:=yx (f:=λt:US=>VX q loose mods Xt g0 t.abs) (g:=λt:US=>Yf t.abs) h1 h2 h3;exact B6 (f:=λs=>(VX q loose mods Xt g0 s,Yf s)) h
end BR
end
section
namespace BG
open PySem PySem.Spec PySem.Calls PyProof.Rows L2
structure FS where
 name:aB
 qual:aB
 params:UJ
 body:FuncBody
 scope:QX
 globals:P4
 closure:List (aB×P4)
 defaults:aC
 builtins:P4
 code:Bool
noncomputable def B8 (K:PP) (f:P4):Option FS:=match K.lookup f with
 | some ⟨_,_,.func fd,_⟩=>aa ⟨fd.name,fd.qualname,fd.params,fd.body,fd.scope,fd.globals,fd.closure,fd.defaults,fd.builtins,TJ K fd.code fd.qualname⟩| _=>af
noncomputable def u6 (x qual:aB) (st:Us):FS:=⟨x,qual,fK st,.stmts (dR st),dh st,Qh,[],.none,Su,ah⟩
noncomputable def strOf:aC->Option aB
 | .str x _=>aa x| _=>af
noncomputable def intOf:aC->Option Int
 | .int i _=>aa i| _=>af
noncomputable def refOf:Option (Option aC)->Option P4
 | some (aa (.ref a))=>aa a| _=>af
inductive Qy where
 | fn (x:aB) (f:P4) (st:Us)|int (x:aB) (n:Int)|tup (x:aB) (f:P4) (xs:List aB)|dct (x:aB) (f:P4) (kvs:List (aB×Int))|no (x:aB)|cls (c:aB) (C:P4)|me (C:P4) (m x qual:aB) (f:P4) (st:Us)|mk (C:P4)
 | tab (x:aB) (c P:P4)|bm (b:P4)|fv (x:aB) (f:P4)|exc (D:P4) (xs:List (aB×P4))
 | str (x s:aB)|stp (f:P4) (xs:List aB)|dtp (x:aB) (f:P4) (kvs:List (aB×P4))
inductive Ov where
 | fn (a:Option P4) (o:Option FS)|int (n:Option Int)|seq (a:Option P4) (c:Option (aC×Option P4×Nat)) (xs:Option (List (Option aB)))|dct (a:Option P4) (c:Option (aC×Option P4×Nat)) (xs:Option (List (Int×Option aB×Option Int)))|b (x:Bool)
noncomputable def shp (o:av):aC×Option P4×Nat:=(o.cls,o.dict,o.slots.size)
noncomputable def yy (o:av):Option (List (Option aB)):=match o.data with
 | .seq its _=>aa (its.toList.map strOf)| _=>af
noncomputable def ET (o:av):Option (List (Int×Option aB×Option Int)):=match o.data with
 | .dict es _=>aa (es.toList.map λe=>(e.hash,strOf e.key,intOf e.val))| _=>af
noncomputable def Jp:aC->Option Int
 | .ref a=>aa (a:Int)| _=>af
noncomputable def Jq (o:av):Option (List (Int×Option aB×Option Int)):=match o.data with
 | .dict es _=>aa (es.toList.map λe=>(e.hash,strOf e.key,Jp e.val))| _=>af
noncomputable def attrs:List aB:=["program","asked","gap","most","kept","farthest","front","now","origins","branches","tape","named"]
noncomputable def Jr (K:PP) (c:aB) (C:P4):Bool:=decide (QI K Qh c=aa (aa (.ref C)))&&Sw K C Str.empty&&RN K C&&Ue K C&&decide (Qp K (.ref C) "__setattr__"=aa (aa (.builtin "object.__setattr__"))) &&
 (attrs.all λf=>decide (Qp K (.ref C) f=aa af))&&Uu K C (.type "type")
noncomputable def meB (K:PP) (C:P4) (m:aB) (f:P4):Bool:=decide (Qp K (.ref C) m=aa (aa (.ref f)))&&Tg K (.ref f)
noncomputable def mkB (K:PP) (C:P4):Bool:=Uv K C&&Q3 K (.ref C)
noncomputable def bmB (K:PP) (b:P4):Bool:=decide (QI K Qh "__builtins__"=aa (aa (.ref b)))&&decide (b≠Su)&&(match K.lookup b with
 | some ⟨.type "module",aa d,.plain,_⟩=>d==Su
 | _=>ai)
noncomputable def MT (K:PP) (C D:P4):Bool:=match K.lookup C with
 | some ⟨_,_,.cls cd,_⟩=>cd.mro.contains (.ref D)| _=>ai
noncomputable def Js (K:PP) (c:aB) (C:P4):Bool:=decide (QI K Qh c=aa (aa (.ref C)))&&PySem.W.excIn K C [.type "ValueError",.type "Exception",.type "BaseException",.type "object"] "ValueError.__new__"
noncomputable def MU (K:PP) (D:P4) (xs:List (aB×P4)) (c:aB) (C:P4):Bool:=Js K c C&&MT K C D&&decide (Qp K (.ref C) "__getattribute__"=aa (aa (.builtin "BaseException.__getattribute__")))&&decide (Qp K (.ref C) "__getattr__"=aa af) &&
 decide (T3 K C (.type "BaseException")=aa ah)&&RN K C&&decide (Qp K (.ref C) "__class__"=aa (aa (.builtin "object.__class__")))&&decide (RM K (.builtin "object.__class__") "__get__"=aa (aa (.builtin "getset_descriptor.__get__"))) &&
 decide (Te K (.builtin "object.__class__")=aa ah)&&decide (T3 K C (.type "object")=aa ah)&&decide (Rm K (.ref C) (.type "ValueError")=aa ah)&&xs.all λq=>decide (Rm K (.ref C) (.ref q.2)=aa (q.1==c))
noncomputable def MV (K:PP) (D:P4) (xs:List (aB×P4)):Bool:=Js K "TapeError" D&&xs.all λq=>MU K D xs q.1 q.2
noncomputable def fy (K:PP):Qy->Ov
 | .fn x f _=>.fn (refOf (QI K Qh x)) (B8 K f)| .int x _=>.int (match QI K Qh x with|some (aa v)=>intOf v|_=>af)| .tup x f _=>.seq (refOf (QI K Qh x)) ((K.lookup f).map shp) ((K.lookup f).bind yy)| .dct x f _=>.dct (refOf (QI K Qh x)) ((K.lookup f).map shp) ((K.lookup f).bind ET)| .no x=>.b (decide (QI K Qh x=aa af))| .cls c C=>.b (Jr K c C)| .me C m _ _ f _=>.fn (if meB K C m f then aa f else af) (B8 K f)| .mk C=>.b (mkB K C)| .tab x c P=>.b (decide (Ri K x=aa (c,P))&&Uj K c P)| .bm b=>.b (bmB K b)| .fv x f=>.b (decide (QI K Qh x=aa (aa (.ref f)))&&Q3 K (.ref f))| .exc D xs=>.b (MV K D xs)| .str x _=>.seq af af (match QI K Qh x with|some (aa v)=>aa [strOf v]|_=>af)| .stp f _=>.seq af ((K.lookup f).map shp) ((K.lookup f).bind yy)| .dtp x f _=>.dct (refOf (QI K Qh x)) ((K.lookup f).map shp) ((K.lookup f).bind Jq)
noncomputable def fz (w:QA):Qy->Ov
 | .fn x f st=>.fn (aa f) (aa (u6 x x st))| .int _ n=>.int (aa n)| .tup _ f xs=>.seq (aa f) (aa (.type "tuple",af,0)) (aa (xs.map aa))| .dct _ f kvs=>.dct (aa f) (aa (.type "dict",af,0)) (aa (kvs.map λq=>(PyData.keyHash w.params q.1,aa q.1,aa q.2)))| .no _=>.b ah| .cls _ _=>.b ah| .me _ _ x qual f st=>.fn (aa f) (aa (u6 x qual st))| .mk _=>.b ah| .tab _ _ _=>.b ah| .bm _=>.b ah| .fv _ _=>.b ah| .exc _ _=>.b ah| .str _ s=>.seq af af (aa [aa s])| .stp f xs=>.seq af (aa (.type "tuple",af,0)) (aa (xs.map aa))| .dtp _ f kvs=>.dct (aa f) (aa (.type "dict",af,0)) (aa (kvs.map λq=>(PyData.keyHash w.params q.1,aa q.1,aa (q.2:Int))))
noncomputable def KOf (as:List P4) (h:ay):PP:=as.map λa=>(a,(h.get? a).getD default)
noncomputable def sees (as:List P4) (qs:List Qy) (ts:List P4):PySem.W.Hook where
 α:=Bool×List Ov×List (Option av)
 obs:=λs=>(as.all λa=>(s.heap.get? a).isSome,qs.map (fy (KOf as s.heap)),ts.map s.heap.get?)
 val:=λw=>(ah,qs.map (fz w),ts.map λ_=>aa (TF #[]))
 says:=λw h=>∃ K:PP,K.map (·.1)=as/\(∀ p∈K,h.get? p.1=aa p.2)/\(∀ q∈qs,fy K q=fz w q)/\∀ P∈ts,h.get? P=aa (TF #[])
 of:=λw s e=>by have e1:=congrArg Prod.fst e;have e2:=congrArg (λp=>p.2.1) e;have e3:=congrArg (λp=>p.2.2) e;refine ⟨KOf as s.heap,by simp[KOf,Function.comp_def],λp hp=>?_,λq hq=>List.map_inj_left.mp e2 q hq,λP hP=>List.map_inj_left.mp e3 P hP⟩;obtain ⟨a,ha,rfl⟩:=List.mem_map.mp hp;have h1:=List.all_eq_true.mp e1 a ha;obtain ⟨o,ho⟩:=Option.isSome_iff_exists.mp h1;show s.heap.get? a=aa ((s.heap.get? a).getD default);rw[ho];rfl
 keeps:=λw h h' ⟨K,m,n,k,t⟩ hk=>⟨K,m,λp hp=>hk _ _ (n p hp),k,λP hP=>hk _ _ (t P hP)⟩
end BG
end
section
namespace BL
open PySem PySem.Spec PyProof.Rows L2 BG
noncomputable abbrev pg:Qg:=PySem.Challenge.pw_backtape_k61_whole_parting
noncomputable def qg:Qg:=PySem.W.view pg [0,2,3,4,5,7,8,9,10,11,12,13,14,16,17,18,19,20,21,22,23,24,25,26,27,28,29,30,31,32,33,34,35,36,37,38,40,41,43,44,46,47,48,49,50,51,52,53,54,55,56,57]
noncomputable abbrev loo:List aB:=["INNER_COUNTS"]
noncomputable def top (i:Nat):Us:=pg.main.body.getD i (.Pass ⟨0,0,0,0⟩)
noncomputable def Jt:Us->List Us
 | .ClassDef _ _ _ b _ _ _ _ _ _ _=>b| _=>[]
noncomputable def eB (i j:Nat):Us:=(Jt (top i)).getD j (.Pass ⟨0,0,0,0⟩)
noncomputable def MW:Us->Pos
 | .FunctionDef _ _ _ _ _ _ _ _ _ p=>p| _=>⟨0,0,0,0⟩
noncomputable abbrev adr:List P4:=[2,3,71,72,78,79,85,86,92,93,99,100,106,107,113,114,120,121,127,128,134,135,141,142,148,149,155,156,162,163,169,170,176,177,183,184,190,191,197,198,204,205,211,212,225,226,232,233,239,240,293,294,300,301,307,308,314,315,321,322,328,329,366,367,384,385,387,388,403,404,410,411,417,418,424,425,431,432,438,439,443,444,471,472,478,479,485,486,495,496,506,507,513,514,520,521,527,528,532,533,537,538,544,545,551,552,558,559,563,564,570,571,575,576]
noncomputable def qys:List Qy:=[.fn "is_whole" 79 (top 11),
 .fn "is_name" 86 (top 12),
 .fn "is_cell" 93 (top 13),
 .fn "inner_sums" 100 (top 14),
 .fn "begun" 107 (top 23),
 .fn "check_thing" 114 (top 24),
 .fn "worth_in" 121 (top 25),
 .fn "laid_out" 128 (top 26),
 .fn "of_two" 135 (top 27),
 .fn "worth_of" 142 (top 28),
 .fn "reckoned" 149 (top 29),
 .fn "cell_by" 156 (top 30),
 .fn "is_over" 163 (top 31),
 .fn "place_behind" 170 (top 32),
 .fn "with_worth" 177 (top 33),
 .fn "with_name" 184 (top 34),
 .fn "with_thing" 191 (top 35),
 .fn "brought" 198 (top 36),
 .fn "stepped" 205 (top 37),
 .fn "states" 212 (top 38),
 .fn "_law_cell" 507 (top 46),
 .fn "_law_drawn" 514 (top 47),
 .fn "_law_sum" 521 (top 48),
 .fn "_law_row" 528 (top 49),
 .fn "_law_program" 533 (top 50),
 .fn "_law_asked" 538 (top 51),
 .fn "_law_thing" 545 (top 52),
 .fn "_law_of" 552 (top 53),
 .fn "_law_tree" 559 (top 54),
 .fn "_law_all" 564 (top 55),
 .fn "_law_goes_on" 571 (top 56),
 .fn "law" 576 (top 57),
 .int "CELL_COUNT" 4,
 .int "WORTH_COUNT" 10007,
 .int "ROW" 0,
 .int "NAMES" 1,
 .int "CELLS" 2,
 .int "CALLS" 3,
 .int "ASKED" 4,
 .int "SAID" 5,
 .int "MOST_CALLS" 6,
 .int "MOST_MARKS" 8,
 .tup "LETTERS" 71 ["a","b","c","d","e","f"],
 .dct "INNER_COUNTS" 72 [("num",0),("name",0),("cell",1),("add",2),("sub",2),("mul",2),("less",2)],
 .no "len",
 .no "abs",
 .no "int",
 .no "list",
 .no "tuple",
 .no "isinstance",
 .no "str",
 .no "bool",
 .no "range",
 .no "reversed",
 .no "enumerate",
 .no "zip",
 .no "min",
 .no "max",
 .no "sorted",
 .no "sum",
 .no "all",
 .no "any",
 .no "set",
 .no "ValueError",
 .no "dict",
 .no "worths_of",
 .no "last_change",
 .no "next_change",
 .no "moments_so",
 .no "last_so",
 .no "next_so",
 .no "visits",
 .no "last_visit",
 .no "when_said",
 .no "next_within",
 .no "last_within",
 .no "first_other",
 .no "writer_of",
 .no "judged",
 .no "remade",
 .cls "Tape" 367,
 .mk 367,
 .cls "Branch" 388,
 .mk 388,
 .cls "Tree" 496,
 .mk 496,
 .me 367 "__init__" "__init__" "Tape.__init__" 226 (eB 41 0),
 .me 388 "at" "at" "Tape.at" 233 (eB 41 1),
 .me 388 "end" "end" "Tape.end" 240 (eB 41 2),
 .me 388 "behind" "behind" "Tape.behind" 294 (eB 41 10),
 .me 388 "is_last" "is_last" "Tape.is_last" 301 (eB 41 11),
 .me 388 "keep" "keep" "Tape.keep" 308 (eB 41 12),
 .me 388 "reach" "reach" "Tape.reach" 315 (eB 41 13),
 .me 388 "has" "has" "Tape.has" 322 (eB 41 14),
 .me 388 "check" "check" "Tape.check" 329 (eB 41 15),
 .me 388 "__init__" "__init__" "Branch.__init__" 385 (eB 43 0),
 .me 496 "__init__" "__init__" "Tree.__init__" 404 (eB 44 0),
 .me 496 "part" "part" "Tree.part" 411 (eB 44 1),
 .me 496 "at" "at" "Tree.at" 418 (eB 44 2),
 .me 496 "end" "end" "Tree.end" 425 (eB 44 3),
 .me 496 "parent" "parent" "Tree.parent" 432 (eB 44 4),
 .me 496 "path" "path" "Tree.path" 439 (eB 44 5),
 .me 496 "children" "children" "Tree.children" 444 (eB 44 6),
 .me 496 "check_run" "check_run" "Tree.check_run" 472 (eB 44 10),
 .me 496 "first" "first" "Tree.first" 479 (eB 44 11),
 .me 496 "holder" "holder" "Tree.holder" 486 (eB 44 12)]
noncomputable abbrev tl:List (aB×P4×P4):=[]
noncomputable abbrev tas:List P4:=[]
abbrev LA:QA->Prop:=BR.LA treeTable pg qg loo (Ub pg.main.body) (λs=>U9 qg [] s&&UT [] s) ah 7892
theorem la0 (w:QA):LA (w.withFollow "special-get-raises" ai):=by unfold LA BR.LA;kernel_rfl
theorem la1 (w:QA):LA (w.withFollow "special-get-raises" ah):=by unfold LA BR.LA;kernel_rfl
abbrev LB:QA->Prop:=BR.LB treeTable pg qg loo (Ub pg.main.body) (λs=>U9 qg [] s&&UT [] s) ah 7892
theorem lb0 (w:QA):LB (w.withFollow "special-get-raises" ai):=by unfold LB BR.LB;kernel_rfl
theorem lb1 (w:QA):LB (w.withFollow "special-get-raises" ah):=by unfold LB BR.LB;kernel_rfl
abbrev LO:QA->Prop:=BR.LO treeTable pg 7892 (sees adr qys tas).obs (sees adr qys tas).val
theorem lo0 (w:QA):LO (w.withFollow "special-get-raises" ai):=by unfold LO BR.LO;kernel_rfl
theorem lo1 (w:QA):LO (w.withFollow "special-get-raises" ah):=by unfold LO BR.LO;kernel_rfl
theorem left:PySem.W.LeftO pg qg loo (λs=>U9 qg [] s&&UT [] s) (sees adr qys tas).obs (sees adr qys tas).val 7892:=λw=>BR.B7 (UD (P:=LA) "special-get-raises" la0 la1 w) (UD (P:=LB) "special-get-raises" lb0 lb1 w) (UD (P:=LO) "special-get-raises" lo0 lo1 w)
end BL
end
section
namespace L2
open PySem PySem.Spec PyProof.Rows
noncomputable abbrev Key:=Sum Int aB
noncomputable def jk:Key->aC->Bool
 | .inl k,v=>Value.isInt k v| .inr x,v=>Uc x v
noncomputable def Ju (w:QA):Key->Int
 | .inl k=>hashInt k| .inr x=>hashStr w x
theorem dJ:∀ {k:Key}{v:aC},jk k v=ah->(∃ i t,k=Sum.inl i/\v=Ud i t)\/(∃ x t,k=Sum.inr x/\v=Vo x t)
 | .inl i,v,h=>by obtain ⟨t,e⟩:=Value.isInt_shape (k:=i) (v:=v) h;exact .inl ⟨i,t,rfl,e⟩
 | .inr x,v,h=>by obtain ⟨t,e⟩:=Value.isStrOf_shape (x:=x) (v:=v) h;exact .inr ⟨x,t,rfl,e⟩
theorem wX (i:Int) (t:Tok):jk (.inl i) (.int i t)=ah:=by simp[jk,Value.isInt]
theorem wY (x:aB) (t:Tok):jk (.inr x) (.str x t)=ah:=by simp[jk,Uc]
theorem Fw (a b:Int):decide ((Sum.inl a:Key)=Sum.inl b)=(a==b):=by
 by_cases e:a=b
 subst e;simp
 ·have h:¬ (Sum.inl a:Key)=Sum.inl b:=λq=>e (Sum.inl.inj q);rw[decide_eq_false h];exact (beq_eq_false_iff_ne.mpr e).symm
theorem Fx (a b:aB):decide ((Sum.inr a:Key)=Sum.inr b)=decide (a=b):=by
 by_cases e:a=b
 subst e;simp
 ·have h:¬ (Sum.inr a:Key)=Sum.inr b:=λq=>e (Sum.inr.inj q);rw[decide_eq_false h,decide_eq_false e]
theorem Fy (a:Int) (b:aB):decide ((Sum.inl a:Key)=Sum.inr b)=ai:=decide_eq_false (λq=>nomatch q)
theorem Fz (a:aB) (b:Int):decide ((Sum.inr a:Key)=Sum.inl b)=ai:=decide_eq_false (λq=>nomatch q)
noncomputable def dM (prog:Qg) (w:QA):PySem.KeyKind prog w Key where
 is:=jk
 hash:=Ju w
 inj:=λv a b ha hb=>by
  rcases dJ ha with ⟨i,t,rfl,rfl⟩|⟨x,t,rfl,rfl⟩
  ·rcases dJ hb with ⟨j,u,rfl,e⟩|⟨y,u,rfl,e⟩
   ·injection e with e1 _;rw[e1]
   exact nomatch e
  ·rcases dJ hb with ⟨j,u,rfl,e⟩|⟨y,u,rfl,e⟩
   exact nomatch e
   ·injection e with e1 _;rw[e1]
 byValue:=λk v h=>by rcases dJ h with ⟨i,t,rfl,rfl⟩|⟨x,t,rfl,rfl⟩<;>rfl
 pyHash:=λhv h=>by
  rcases dJ hv with ⟨i,t,rfl,rfl⟩|⟨x,t,rfl,rfl⟩
  exact wpAny_pyHash_int h;exact wpAny_pyHash_str h
 eqBool:=λhu hv h=>by
  rcases dJ hu with ⟨i,t,rfl,rfl⟩|⟨x,t,rfl,rfl⟩
  ·rcases dJ hv with ⟨j,u,rfl,rfl⟩|⟨y,u,rfl,rfl⟩
   rw[Fw] at h;exact wpAny_eqBool_int h;rw[Fy] at h;exact SeqAt.EqAt.int_str i t y u _ _ _ _ h
  ·rcases dJ hv with ⟨j,u,rfl,rfl⟩|⟨y,u,rfl,rfl⟩
   rw[Fz] at h;exact SeqAt.EqAt.str_int x t j u _ _ _ _ h;rw[Fx] at h;exact wpAny_eqBool_str h
 «strs»:=λk x t v h=>by
  rcases dJ h with ⟨i,u,rfl,e⟩|⟨y,u,rfl,e⟩
  exact nomatch e
  ·injection e with e1 _
   subst e1;cases v<;>rfl
theorem rN (prog:Qg) (w:QA) (i:Int) (t:Tok):(dM prog w).is (.inl i) (.int i t)=ah:=wX i t
theorem jn (prog:Qg) (w:QA) (x:aB) (t:Tok):(dM prog w).is (.inr x) (.str x t)=ah:=wY x t
end L2
namespace L2
open PySem PySem.Spec PyProof.Rows
inductive V where
 | non|bl (b:Bool)|int (i:Int)|str (x:aB)|byt (b:Array UInt8)|flt (b:UInt64)|ref (a:P4)|ty (n:String)
 deriving DecidableEq
noncomputable def RelV:V->aC->Prop
 | .non,u=>u=RE| .bl b,u=>u=SX b| .int i,u=>∃ t,u=Ud i t| .str x,u=>∃ t,u=Vo x t| .byt b,u=>∃ t,u=Value.bytes b t| .flt b,u=>∃ t,u=Value.float b t| .ref a,u=>u=QF a| .ty n,u=>u=Tz n
abbrev dw:List V->List aC->Prop:=Paired RelV
theorem dw.length {xs:List V}{us:List aC} (r:dw xs us):xs.length=us.length:=Paired.length r
theorem dw.get:∀ {xs:List V}{us:List aC}{i:Nat}{x:V},dw xs us->xs[i]?=aa x->∃ u,us[i]?=aa u/\RelV x u
 | _,_,_,_,.nil,e=>by simp at e
 | _,_,0,_,.cons r _,e=>by simp at e;subst e;exact ⟨_,rfl,r⟩
 | _,_,i+1,x,.cons _ t,e=>by obtain ⟨u,h1,h2⟩:=dw.get (i:=i) (x:=x) t (by simpa using e);exact ⟨u,by simpa using h1,h2⟩
theorem dw.set {x:V}{u:aC} (r:RelV x u):∀ {xs:List V}{us:List aC} (i:Nat),dw xs us->dw (xs.set i x) (us.set i u)
 | _,_,_,.nil=>.nil| _,_,0,.cons _ t=>.cons r t| _,_,i+1,.cons q t=>.cons q (dw.set r i t)
theorem dw.append:∀ {xs ys:List V}{us ws:List aC},dw xs us->dw ys ws->dw (xs++ys) (us++ws)
 | _,_,_,_,.nil,s=>s| _,_,_,_,.cons r t,s=>.cons r (dw.append t s)
theorem dw.take:∀ {xs:List V}{us:List aC} (n:Nat),dw xs us->dw (xs.take n) (us.take n)
 | _,_,0,_=>.nil| _,_,_+1,.nil=>.nil| _,_,n+1,.cons r t=>.cons r (dw.take n t)
theorem dw.drop:∀ {xs:List V}{us:List aC} (n:Nat),dw xs us->dw (xs.drop n) (us.drop n)
 | _,_,0,r=>r| _,_,_+1,.nil=>.nil| _,_,n+1,.cons _ t=>dw.drop n t
noncomputable def mT:Option V->Option aC->Prop
 | some v,aa u=>RelV v u| none,af=>True| _,_=>False
noncomputable def KV {κ:Type}:List (κ×V)->List (κ×aC)->Prop:=Paired λ(p:κ×V) (q:κ×aC)=>p.1=q.1/\RelV p.2 q.2
noncomputable def kV:Key->V
 | .inl i=>.int i| .inr x=>.str x
inductive HO where
 | lst (xs:List V)
 | tup (xs:List V)
 | dK (kvs:List (Key×V))|dT (kvs:List (List Key×V))
 | set (S:Int->Bool) (n:Nat)
 | ins (C dx:P4) (fs:List (aB×V))
 | own (x:P4)
 | xd (fs:List (aB×V))
 | met (f x:P4)
 | rng (lo hi:Int)
 | frz (o:av) (u:HO)
 | tbl (ps:Array aC)
 | ext (φ:ay->Prop)
noncomputable abbrev Hp:=P4->Option HO
noncomputable def upd (H:Hp) (a:P4) (o:HO):Hp:=λb=>if b=a then aa o else H b
theorem ef {H:Hp}{a:P4}{o:HO}:upd H a o a=aa o:=by unfold upd;rw[if_pos rfl]
theorem dD {H:Hp}{a b:P4}{o:HO} (h:b≠a):upd H a o b=H b:=by unfold upd;rw[if_neg h]
theorem dS {H:Hp}{a b:P4}{o:HO} (h:H a=aa o) (h':H b=af):a≠b:=by intro e;subst e;rw[h] at h';cases h'
section
variable (P:Qg) (w:QA)
noncomputable def gi (H:Hp) (h:ay) (a:P4):HO->Prop
 | .lst xs=>xs.length<=ao/\∃ (its:List aC) (n:Nat),dw xs its/\h.get? a=aa { cls:=.type "list",data:=.seq its.toArray n }| .tup xs=>xs.length<=ao/\∃ its:List aC,dw xs its/\IsTup h a its.toArray| .dK kvs=>kvs.length<=ao/\(a==SH)=ai/\∃ vs,KV kvs vs/\h.DictOf (dM P w) a vs
 | .dT kvs=>kvs.length<=ao/\(a==SH)=ai/\∃ xs:List (List Key×P4×aC),
  Paired (λ(p:List Key×V) (q:List Key×P4×aC)=>p.1=q.1/\H q.2.1=aa (.tup (p.1.map kV))/\RelV p.2 q.2.2) kvs xs ∧
  ∃ o es ep,h.get? a=aa o/\o.ExactDict/\o.data=.dict es ep/\es.toList=xs.map (entryOfKey (tupleKind (dM P w)))/\(xs.map (·.1)).Nodup
 | .set S n=>h.SetOf (intKind P w) a S n| .ins C dx fs=>H dx=aa (.own a)/\fs.length<=1000/\dx≠a/\h.get? a=aa (Rt C dx) ∧
  ∃ mA,h.Ns1 dx mA/\(∀ f,mT (fs.lookup f) (mA f))/\Vp mA (fs.map (·.1))
 | .own _=>∃ o,h.get? a=aa o| .xd fs=>∃ mA,h.Ns1 a mA/\∀ f,mT (fs.lookup f) (mA f)| .rng lo hi=>∃ t u v,h.get? a=aa { cls:=.type "range",data:=.fields #[.int lo t,.int hi u,.int 1 v] }| .frz o u=>h.get? a=aa o/\gi H h a u| .tbl ps=>h.get? a=aa { cls:=.none,data:=.fields ps }| .met f x=>h.get? a=aa (Ug (.ref f) (.ref x))| .ext φ=>φ h/\(∃ o,h.get? a=aa o)/\∀ h1 h2:ay,φ h1->(∀ o,h1.get? a=aa o->h2.get? a=aa o)->φ h2
def HOk (H:Hp) (h:ay):Prop:=∀ a o,H a=aa o->gi P w H h a o
end
section
variable {P:Qg}{w:QA}{H H':Hp}{h h':ay}{a:P4}{o:HO}
theorem gi.lt (x:gi P w H h a o):a < h.objs.size:=by
 cases o with
 | lst xs=>obtain ⟨_,_,_,_,e⟩:=x;exact P7 e| tup xs=>obtain ⟨_,_,_,p⟩:=x;exact p.lt| set S n=>obtain ⟨o,_,_,_,e,_⟩:=x;exact P7 e| ins C dx fs=>obtain ⟨_,_,_,e,_⟩:=x;exact P7 e| own y=>obtain ⟨_,e⟩:=x;exact P7 e| xd fs=>obtain ⟨_,⟨_,_,_,e,_⟩,_⟩:=x;exact P7 e| rng lo hi=>obtain ⟨_,_,_,e⟩:=x;exact P7 e| frz ob u=>obtain ⟨e,_⟩:=x;exact P7 e| tbl ps=>exact P7 (show h.get? a=aa _ from x)| met f y=>exact P7 (show h.get? a=aa _ from x)| ext φ=>obtain ⟨_,⟨_,e⟩,_⟩:=x;exact P7 e| _=>obtain ⟨_,_,_,_,o,_,_,e,_⟩:=x;exact P7 e
theorem Paired.Jv {α β:Type}{F G:α->β->Prop}:∀ {l₁:List α}{l₂:List β},Paired F l₁ l₂->(∀ a b,F a b->G a b)->Paired G l₁ l₂
 | _,_,.nil,_=>.nil| _,_,.cons r t,f=>.cons (f _ _ r) (Paired.Jv t f)
theorem gi.stay (x:gi P w H h a o) (k:∀ b u,(b=a\/H b=aa (.own a))->h.get? b=aa u->h'.get? b=aa u)
 (ho:∀ b,H b=aa (.own a)->H' b=aa (.own a)) (ht:∀ b xs,H b=aa (.tup xs)->H' b=aa (.tup xs)):gi P w H' h' a o:=by
 induction o with
 | lst xs=>obtain ⟨z,its,n,r,e⟩:=x;exact ⟨z,its,n,r,k _ _ (.inl rfl) e⟩| tup xs=>obtain ⟨z,its,r,ob,e,c⟩:=x;exact ⟨z,its,r,ob,k _ _ (.inl rfl) e,c⟩| dK kvs=>obtain ⟨z,y,vs,r,ob,es,ep,e,c⟩:=x;exact ⟨z,y,vs,r,ob,es,ep,k _ _ (.inl rfl) e,c⟩
 | dT kvs =>
  obtain ⟨z,y,xs,r,ob,es,ep,e,c⟩:=x;exact ⟨z,y,xs,Paired.Jv r λp q z=>⟨z.1,ht _ _ z.2.1,z.2.2⟩,ob,es,ep,k _ _ (.inl rfl) e,c⟩
 | set S n=>obtain ⟨ob,es,ep,t,e,c⟩:=x;exact ⟨ob,es,ep,t,k _ _ (.inl rfl) e,c⟩
 | ins C dx fs =>
  obtain ⟨d,z,ne,e,mA,⟨od,es,ep,e2,c⟩,r⟩:=x;exact ⟨ho _ d,z,ne,k _ _ (.inl rfl) e,mA,⟨od,es,ep,k _ _ (.inr d) e2,c⟩,r⟩
 | own y=>obtain ⟨ob,e⟩:=x;exact ⟨ob,k _ _ (.inl rfl) e⟩| xd fs=>obtain ⟨mA,⟨od,es,ep,e,c⟩,r⟩:=x;exact ⟨mA,⟨od,es,ep,k _ _ (.inl rfl) e,c⟩,r⟩| rng lo hi=>obtain ⟨t,u,v,e⟩:=x;exact ⟨t,u,v,k _ _ (.inl rfl) e⟩| frz ob u ih=>obtain ⟨e,q⟩:=x;exact ⟨k _ _ (.inl rfl) e,ih q⟩
 | tbl ps =>
  have e:h.get? a=aa { cls:=.none,data:=.fields ps }:=x;show h'.get? a=aa { cls:=.none,data:=.fields ps };exact k a _ (.inl rfl) e
 | met f y =>
  have e:h.get? a=aa (Ug (.ref f) (.ref y)):=x;show h'.get? a=aa (Ug (.ref f) (.ref y));exact k a _ (.inl rfl) e
 | ext φ=>obtain ⟨p,⟨o,e⟩,st⟩:=x;exact ⟨st _ _ p λo q=>k _ _ (.inl rfl) q,⟨o,k _ _ (.inl rfl) e⟩,st⟩
theorem HOk.lt (x:HOk P w H h) (e:H a=aa o):a < h.objs.size:=(x a o e).lt
theorem HOk.fresh (x:HOk P w H h) (e:h.objs.size<=a):H a=af:=by
 cases q:H a with
 | none=>rfl| some u=>exact absurd (Qo (x.lt q) e) (QG _)
theorem HOk.kept (x:HOk P w H h) (k:∀ b u,h.get? b=aa u->h'.get? b=aa u):HOk P w H h':=λa o e =>
 (x a o e).stay (λb u _ q=>k b u q) (λ_ q=>q) λ_ _ q=>q
theorem HOk.laid (x:HOk P w H h) (k:∀ b u,h.get? b=aa u->h'.get? b=aa u) (hp:h.objs.size<=a) (new:gi P w (upd H a o) h' a o):HOk P w (upd H a o) h':=λb u e=>by
 have hn:=x.fresh hp
 by_cases hb:b=a
 subst hb;rw[ef] at e;cases e;exact new
 ·rw[dD hb] at e;exact (x b u e).stay (λc v _ q=>k c v q) (λc q=>by rw[dD (dS q hn)];exact q) λc xs q=>by rw[dD (dS q hn)];exact q
end
def Rd (H:Hp) (a:P4) (u:HO):Prop:=H a=aa u\/∃ o,H a=aa (.frz o u)
theorem Rd.ok {P:Qg}{w:QA}{H:Hp}{h:ay}{a:P4}{u:HO} (r:Rd H a u) (x:HOk P w H h):gi P w H h a u:=by
 rcases r with r|⟨o,r⟩
 exact x a u r
 ·obtain ⟨_,q⟩:=x a _ r;exact q
noncomputable def Mut:Option HO->Prop
 | some (.lst _)=>True| some (.dK _)=>True| some (.dT _)=>True| some (.set _ _)=>True| some (.ins _ _ _)=>True| some (.ext _)=>True| _=>False
section
variable {P:Qg}{w:QA}{H:Hp}{h h':ay}{x e:P4}{o':HO}
theorem HOk.write (ok:HOk P w H h) (mu:Mut (H x)) (he:e=x\/H e=aa (.own x)) (k:∀ b u,b≠e->h.get? b=aa u->h'.get? b=aa u) (heo:∃ u,h'.get? e=aa u)
 (new:gi P w (upd H x o') h' x o'):HOk P w (upd H x o') h':=λb u q=>by
 have nown:∀ c y,H c=aa (.own y)->c≠x:=λc y r z=>by subst z;rw[r] at mu;exact mu
 have ntup:∀ c xs,H c=aa (.tup xs)->c≠x:=λc xs r z=>by subst z;rw[r] at mu;exact mu
 by_cases hb:b=x
 subst hb;rw[ef] at q;cases q;exact new
 ·rw[dD hb] at q
  by_cases hbe:b=e
  ·have q':H b=aa (.own x):=by
    rcases he with z|z
    exact absurd (hbe.trans z) hb;rw[hbe];exact z
   rw[q] at q';cases q';obtain ⟨v,hv⟩:=heo;exact ⟨v,by rw[hbe];exact hv⟩
  ·refine (ok b u q).stay (λc v hc r=>k c v ?_ r) (λc r=>by rw[dD (nown c b r)];exact r) λc xs r=>by rw[dD (ntup c xs r)];exact r
   rcases hc with rfl|hc
   exact hbe
   ·rintro rfl
    rcases he with z|z
    exact nown c b hc z;rw[hc] at z;cases z;exact hb rfl
end
structure Un (fs ex:List P4) (H H':Hp) (h h':ay):Prop where
 keep:∀ b o,h.get? b=aa o->H b=af->b∉fs->b∉ex->h'.get? b=aa o
 slot:∀ b o,h.get? b=aa o->H b=af->b∈fs->b∉ex->∃ sl,h'.get? b=aa { o with slots:=sl }
 free:∀ b o,h.get? b=aa o->H b=af->b∉ex->H' b=af
 there:∀ b o,h.get? b=aa o->b∉ex->∃ o',h'.get? b=aa o'
 tups:∀ b xs,H b=aa (.tup xs)->H' b=aa (.tup xs)
 frzs:∀ b o u,H b=aa (.frz o u)->H' b=aa (.frz o u)
 tbls:∀ b ps,H b=aa (.tbl ps)->∃ more,H' b=aa (.tbl (ps++more))
section
variable {fs fs' ex ex':List P4}{H H1 H2:Hp}{h h1 h2 h':ay}{a x e:P4}{o:HO}
theorem Un.any (u:Un fs ex H H1 h h1) {b:P4}{ob:av} (q:h.get? b=aa ob) (n:H b=af) (hx:b∉ex):∃ sl,h1.get? b=aa { ob with slots:=sl }:=by
 by_cases hb:b∈fs
 exact u.slot b ob q n hb hx;exact ⟨ob.slots,u.keep b ob q n hb hx⟩
theorem Un.kept (k:∀ b u,h.get? b=aa u->h'.get? b=aa u):Un fs ex H H h h' :=
 ⟨λb ob q _ _ _=>k b ob q,λb ob q _ _ _=>⟨ob.slots,k b ob q⟩,λ_ _ _ n _=>n,λb ob q _=>⟨ob,k b ob q⟩,λ_ _ q=>q,λ_ _ _ q=>q,λ_ ps q=>⟨#[],by rw[q];simp⟩⟩
theorem Un.refl:Un fs ex H H h h:=Un.kept λ_ _ q=>q
theorem Un.laid (k:∀ b u,h.get? b=aa u->h'.get? b=aa u) (hp:h.objs.size<=a) (hn:H a=af):Un fs ex H (upd H a o) h h' where
 keep:=λb u q _ _ _=>k b u q
 slot:=λb u q _ _ _=>⟨u.slots,k b u q⟩
 free:=λb u q n _=>by rw[dD (Qu (Qo (P7 q) hp))];exact n
 there:=λb u q _=>⟨u,k b u q⟩
 tups:=λb xs q=>by rw[dD (dS q hn)];exact q
 frzs:=λb u xs q=>by rw[dD (dS q hn)];exact q
 tbls:=λb ps q=>⟨#[],by rw[dD (dS q hn),q];simp⟩
theorem Un.write (mu:Mut (H x)) (he:e=x\/H e=aa (.own x)) (k:∀ b u,b≠e->h.get? b=aa u->h'.get? b=aa u) (heo:∃ u,h'.get? e=aa u):Un fs ex H (upd H x o) h h':=by
 have hx:∀ b,H b=af->b≠x:=λb n z=>by subst z;rw[n] at mu;exact mu
 have hb:∀ b,H b=af->b≠e:=λb n z=>by
  subst z;rcases he with r|r
  exact hx b n r;rw[n] at r;cases r
 have hm:∀ b u,H b=aa u->¬ Mut (aa u)->b≠x:=λb u q nm z=>by subst z;rw[q] at mu;exact nm mu
 refine ⟨λb u q n _ _=>k b u (hb b n) q,λb u q n _ _=>⟨u.slots,k b u (hb b n) q⟩,λb u q n _=>by rw[dD (hx b n)];exact n,λb u q _=>?_,
  λb xs q=>by rw[dD (hm b _ q λz=>z)];exact q,λb u xs q=>by rw[dD (hm b _ q λz=>z)];exact q,λb ps q=>⟨#[],by rw[dD (hm b _ q λz=>z),q];simp⟩⟩
 by_cases hbe:b=e
 subst hbe;exact heo;exact ⟨u,k b u hbe q⟩
end
noncomputable def trk (h:ay) (H:Hp):List P4:=(Qm h.objs.size).filter λa=>(H a).isSome
noncomputable def rO (h:ay) (H:Hp):ay:=PySem.W.hideAll h (trk h H)
theorem wZ (h:ay) (H:Hp):(rO h H).objs.size=h.objs.size:=PySem.W.hideAll_size _ _
theorem rP {h:ay}{H:Hp}{b:P4}{o:av} (e:h.get? b=aa o) (n:H b=af):(rO h H).get? b=aa o :=
 PySem.W.hideAll_get _ e λhm=>by have q:(H b).isSome=ah:=(List.mem_filter.mp hm).2;rw[n] at q;simp at q
theorem B9 {h:ay}{H:Hp}{b:P4}{o:av} (e:(rO h H).get? b=aa o):h.get? b=aa o/\H b=af:=by
 have e':h.get? b=aa o:=PySem.W.of_hideAll (trk h H) e;refine ⟨e',?_⟩;cases q:H b with
 | none=>rfl
 | some x =>
  have hm:b∈trk h H:=List.mem_filter.mpr ⟨List.mem_range.mpr (P7 e'),by simp[q]⟩;have z:(rO h H).get? b=af:=PySem.W.hideAll_none (trk h H) hm;rw[z] at e;cases e
noncomputable def Ca (g h:ay) (L:P4):List (P4×av):=(Qm h.objs.size).filterMap λa=>if a=L\/(g.get? a).isSome=ah then af else (h.get? a).map λo=>(a,o)
noncomputable def rest (g h:ay) (L d:P4):List (P4×av):=(Ca g h L).filter λp=>decide (p.1≠d)
end L2
namespace L2
open PySem PySem.Spec PyProof.Rows
structure Mod (K:PP) (mg:aB->Option aC) (base:ay):Prop where
 kin:K.In base
 glob:base.Ns Qh mg
 blt:∃ mb,base.Ns Su mb/\∀ x:aB,x≠"__name__"->mb x=S9 x
 nolimit:base.NoLimit
structure Cx where
 prog:Qg
 w:QA
 K:PP
 mg:aB->Option aC
 base:ay
 A:QO
 N:List aB
 s₀:PX
 H₀:Hp
 env:Env
 outer:List Env
 stack:List Env
 ex:List P4
 fn:aB->Bool
 calm:Bool
 pn:List (P4×av)
 xe:aC->PX->Prop
noncomputable def frs (l:List Env):List P4:=l.filterMap (·.frame)
noncomputable abbrev Cx.fs (X:Cx):List P4:=frs X.outer
def Vis (sc:QX) (x:aB):Prop:=sc.names.lookup x=aa .local\/sc.names.lookup x=aa .cell\/sc.names.lookup x=aa .free
def Loc (sc:QX) (x:aB):Prop:=sc.names.lookup x=aa .local\/sc.names.lookup x=aa .cell
def Look (env:Env) (h:ay) (m:aB->Option aC) (x:aB) (u:aC):Prop :=
 (env.kindOf x=aa .local/\m x=aa u)\/((env.kindOf x=aa .cell\/env.kindOf x=aa .free)/\∃ c,env.cells.lookup x=aa c/\h.IsCell c (aa u))
structure Cx.Ok (X:Cx):Prop where
 mod:Mod X.K X.mg X.base
 kind:X.env.scope.kind=.function
 glob:X.env.globals=Qh
 blt:X.env.builtins=Su
 above:X.s₀.heap.objs.size<=X.env.locals
 inj:∀ x y c,X.env.cells.lookup x=aa c->X.env.cells.lookup y=aa c->x=y
 has:∀ x,(X.env.kindOf x=aa .cell\/X.env.kindOf x=aa .free)->∃ c,X.env.cells.lookup x=aa c
 cab:∀ x c,X.fn x=ah->X.env.cells.lookup x=aa c->X.s₀.heap.objs.size<=c
 hd:X.calm=ah->X.A.handled=af
 frames:X.A.frames=aa X.stack
 stk:X.stack=X.outer\/(X.stack=X.env::X.outer/\X.env.frame=aa X.env.locals)
 exf:∀ b∈X.ex,b≠X.env.locals/\∀ x c,X.env.cells.lookup x=aa c->c≠b
 bs:∀ b o,X.base.get? b=aa o->X.s₀.heap.get? b=aa o/\X.H₀ b=af
 bsz:X.base.objs.size<=X.s₀.heap.objs.size
 noex:∀ b o,X.base.get? b=aa o->b∉X.ex
 exfs:∀ b∈X.ex,b∉X.fs
 lA:X.s₀.heap.FunFrames X.base X.outer
 frf:∀ b∈X.fs,X.H₀ b=af
structure Inv (X:Cx) (zt:List (P4×av)) (σ:List (Option V)) (H:Hp) (s:PX):Prop where
 ok:X.Ok
 os:s.os=X.s₀.os
 bare:Vt s.gens
 base:Un X.fs X.ex X.H₀ H X.s₀.heap s.heap
 loc:∃ m,s.heap.Ns X.env.locals m/\∀ (i:Nat) (x:aB) (v:V),X.N[i]?=aa x->σ[i]?=aa (aa v)->Vis X.env.scope x->∃ u,RelV v u/\Look X.env s.heap m x u
 cell:∀ x c,X.env.cells.lookup x=aa c->∃ v,s.heap.IsCell c v
 free:H X.env.locals=af
 freeC:∀ x c,X.env.cells.lookup x=aa c->H c=af
 pin:∀ p∈X.pn++zt,s.heap.get? p.1=aa p.2/\H p.1=af/\p.1≠X.env.locals/\p.1∉X.fs/\∀ v,p.2.data≠.cell v
 hok:HOk X.prog X.w H s.heap
 len:σ.length=X.N.length
section
variable {X:Cx}{zt:List (P4×av)}{σ:List (Option V)}{H H':Hp}{s:PX}{h':ay}
theorem Cx.Ok.MY (ok:X.Ok) {b:P4}{o:av} (e:X.base.get? b=aa o):b∉X.fs:=λhb=>by have:=(ok.lA.mem hb).1;rw[e] at this;cases this
theorem Inv.bs (I:Inv X zt σ H s):∀ b o,X.base.get? b=aa o->s.heap.get? b=aa o/\H b=af:=λb o e =>
 ⟨I.base.keep b o (I.ok.bs b o e).1 (I.ok.bs b o e).2 (I.ok.MY e) (I.ok.noex b o e),I.base.free b o (I.ok.bs b o e).1 (I.ok.bs b o e).2 (I.ok.noex b o e)⟩
theorem Inv.bk (I:Inv X zt σ H s):∀ b o,X.base.get? b=aa o->s.heap.get? b=aa o:=λb o e=>(I.bs b o e).1
theorem Inv.mod (I:Inv X zt σ H s):Mod X.K X.mg X.base:=I.ok.mod
theorem Inv.kIn (I:Inv X zt σ H s):X.K.In s.heap:=I.ok.mod.kin.keeps I.bk
theorem Inv.lt (I:Inv X zt σ H s):X.env.locals < s.heap.objs.size:=let ⟨_,hn,_⟩:=I.loc;hn.lt
theorem Inv.sz (I:Inv X zt σ H s):X.s₀.heap.objs.size<=s.heap.objs.size:=QD I.ok.above (SC I.lt)
theorem Inv.MZ (I:Inv X zt σ H s) {a:P4} (h:s.heap.objs.size<=a):a∉X.fs:=λhb=>by obtain ⟨_,o,ho,_⟩:=I.ok.lA.mem hb;exact absurd (Qo (P7 ho) (QD I.sz h)) (QG _)
theorem Inv.cne (I:Inv X zt σ H s):∀ x c,X.env.cells.lookup x=aa c->c≠X.env.locals:=λx c e z=>by obtain ⟨v,o,ho,hd⟩:=I.cell x c e;obtain ⟨m,⟨o',es,ep,ho',hd',_⟩,_⟩:=I.loc;rw[z,ho'] at ho;cases ho;rw[hd'] at hd;cases hd
theorem Inv.lA (I:Inv X zt σ H s):s.heap.FunFrames X.base X.outer:=by
 have all:∀ (l:List Env),(∀ b∈frs l,b∈X.fs)->X.s₀.heap.FunFrames X.base l->s.heap.FunFrames X.base l:=by
  intro l
  induction l with
  | nil=>intro _ _;trivial
  | cons env r ih =>
   intro hs hl;obtain ⟨hk,⟨L,o,hf,hn,ho,hd⟩,hr⟩:=hl;have hL:L∈X.fs:=hs L (by unfold frs;rw[Qv,hf];exact Qn);obtain ⟨sl,e⟩:=I.base.slot L o ho (I.ok.frf L hL) hL λz=>I.ok.exfs L z hL;exact ⟨hk,⟨L,_,hf,hn,e,hd⟩,ih (λb hb=>hs b (by unfold frs;rw[Qv,hf];exact Qe _ hb)) hr⟩
 exact all X.outer (λ_ hb=>hb) I.ok.lA
theorem Inv.stack (I:Inv X zt σ H s):s.heap.FunFrames X.base X.stack:=by
 rcases I.ok.stk with e|⟨e,hf⟩
 rw[e];exact I.lA
 ·rw[e];obtain ⟨m,hn,_⟩:=I.loc;refine .cons (by rw[I.ok.kind];decide) hf hn ?_ I.lA;exact Heap.get?_none_of_le (QD I.ok.bsz I.ok.above)
theorem Inv.qc (I:Inv X zt σ H s):∀ b∈frs X.stack,b∈X.env.locals::X.fs:=λb hb=>by
 rcases I.ok.stk with e|⟨e,hf⟩
 rw[e] at hb;exact Qe _ hb
 ·rw[e] at hb;unfold frs at hb;rw[Qv,hf] at hb;exact hb
theorem Inv.u9 (I:Inv X zt σ H s):∀ b∈frs X.stack,H b=af:=λb hb=>by
 rcases List.mem_cons.mp (I.qc b hb) with e|hb
 rw[e];exact I.free
 ·obtain ⟨_,o,ho,_⟩:=I.ok.lA.mem hb;exact I.base.free b o ho (I.ok.frf b hb) λz=>I.ok.exfs b z hb
theorem Inv.step {g':Array GenState}{t':Nat}{d':Drawn}{ch:List P4} (I:Inv X zt σ H s)
 (hch:∀ b∈ch,(b∈X.ex\/X.s₀.heap.objs.size<=b)/\b≠X.env.locals/\(∀ x c,X.env.cells.lookup x=aa c->c≠b)/\∀ p∈X.pn++zt,p.1≠b)
 (keep:∀ b o,b≠X.env.locals->b∉X.fs->b∉ch->s.heap.get? b=aa o->H b=af->h'.get? b=aa o)
 (slot:∀ b o,b≠X.env.locals->b∈X.fs->b∉ch->s.heap.get? b=aa o->H b=af->∃ sl,h'.get? b=aa { o with slots:=sl }) (free:∀ b o,b∉ch->s.heap.get? b=aa o->H b=af->H' b=af)
 (there:∀ b o,b∉ch->s.heap.get? b=aa o->∃ o',h'.get? b=aa o')
 (tups:∀ b xs,H b=aa (.tup xs)->H' b=aa (.tup xs)) (frzs:∀ b o u,H b=aa (.frz o u)->H' b=aa (.frz o u)) (tbls:∀ b ps,H b=aa (.tbl ps)->∃ more,H' b=aa (.tbl (ps++more)))
 (ns:∀ m,s.heap.Ns X.env.locals m->h'.Ns X.env.locals m) (hok:HOk X.prog X.w H' h') (hg:Vt g') :
 Inv X zt σ H' { s with heap:=h',gens:=g',drawn:=d',toks:=t' }:=by
 have neL:∀ b o,X.s₀.heap.get? b=aa o->b≠X.env.locals:=λb o e=>Qu (Qo (P7 e) I.ok.above);have neC:∀ b o,X.s₀.heap.get? b=aa o->b∉X.ex->b∉ch:=λb o e hx hb=>by
  rcases (hch b hb).1 with z|z
  exact hx z;exact absurd (Qo (P7 e) z) (QG _)
 have cellK:∀ x c,X.env.cells.lookup x=aa c->∀ v,s.heap.IsCell c v->h'.IsCell c v:=λx c e v ⟨o,ho,hd⟩=>by
  have nch:c∉ch:=λz=>(hch c z).2.2.1 x c e rfl
  by_cases hc:c∈X.fs
  ·obtain ⟨sl,q⟩:=slot c o (I.cne x c e) hc nch ho (I.freeC x c e);exact ⟨_,q,hd⟩
  exact ⟨o,keep c o (I.cne x c e) hc nch ho (I.freeC x c e),hd⟩
 refine ⟨I.ok,I.os,hg,⟨λb o e n hb hx=>?_,λb o e n hb hx=>?_,λb o e n hx=>?_,λb o e hx=>?_,λb xs e=>tups b xs (I.base.tups b xs e),λb o xs e=>frzs b o xs (I.base.frzs b o xs e),λb ps e=>?_⟩,?_,λx c e=>?_,?_,λx c e=>?_,λp hp=>?_,hok,I.len⟩;exact keep b o (neL b o e) hb (neC b o e hx) (I.base.keep b o e n hb hx) (I.base.free b o e n hx)
 ·obtain ⟨sl,e1⟩:=I.base.slot b o e n hb hx;obtain ⟨sl',e2⟩:=slot b _ (neL b o e) hb (neC b o e hx) e1 (I.base.free b o e n hx);exact ⟨sl',e2⟩
 ·obtain ⟨o',e1⟩:=I.base.there b o e hx;exact free b o' (neC b o e hx) e1 (I.base.free b o e n hx)
 ·obtain ⟨o',e1⟩:=I.base.there b o e hx;exact there b o' (neC b o e hx) e1
 ·obtain ⟨m1,e1⟩:=I.base.tbls b ps e;obtain ⟨m2,e2⟩:=tbls b _ e1;exact ⟨m1++m2,by rw[e2,Array.append_assoc]⟩
 ·obtain ⟨m,hn,hl⟩:=I.loc;refine ⟨m,ns m hn,λi x v e1 e2 e3=>?_⟩;obtain ⟨u,r,l⟩:=hl i x v e1 e2 e3;refine ⟨u,r,?_⟩;rcases l with l|⟨k,c,e,z⟩
  exact .inl l;exact .inr ⟨k,c,e,cellK x c e _ z⟩
 ·obtain ⟨v,z⟩:=I.cell x c e;exact ⟨v,cellK x c e v z⟩
 ·obtain ⟨m,⟨o,_,_,ho,_⟩,_⟩:=I.loc;exact free _ o (λz=>(hch _ z).2.1 rfl) ho I.free
 ·obtain ⟨v,o,ho,hd⟩:=I.cell x c e;exact free c o (λz=>(hch c z).2.2.1 x c e rfl) ho (I.freeC x c e)
 ·obtain ⟨e,n,ne,nf,d⟩:=I.pin p hp;have nch:p.1∉ch:=λz=>(hch p.1 z).2.2.2 p hp rfl;exact ⟨keep p.1 p.2 ne nf nch e n,free p.1 p.2 nch e n,ne,nf,d⟩
theorem Inv.un {t':Nat} (I:Inv X zt σ H s) (u:Un X.fs [] H H' s.heap h') (hok:HOk X.prog X.w H' h'):Inv X zt σ H' { s with heap:=h',toks:=t' }:=by
 obtain ⟨m,⟨o,es,ep,ho,r⟩,_⟩:=id I.loc;obtain ⟨sl,hL⟩:=u.any ho I.free (by simp);exact I.step (g':=s.gens) (d':=s.drawn) (ch:=[]) (λ_ z=>nomatch z) (λb o _ hb _ e n=>u.keep b o e n hb (by simp)) (λb o _ hb _ e n=>u.slot b o e n hb (by simp)) (λb o _ e n=>u.free b o e n (by simp)) (λb o _ e=>u.there b o e (by simp)) u.tups u.frzs u.tbls (λm' hm=>by obtain ⟨o',es',ep',ho',r'⟩:=hm;rw[ho] at ho';cases ho';exact ⟨_,es',ep',hL,r'⟩) hok I.bare
theorem Inv.call {g':Array GenState}{t':Nat}{d':Drawn}{ch:List P4} (I:Inv X zt σ H s) (u:Un (frs X.stack) ch H H' s.heap h') (hok:HOk X.prog X.w H' h') (hg:Vt g')
 (hch:∀ b∈ch,(b∈X.ex\/X.s₀.heap.objs.size<=b)/\b≠X.env.locals/\(∀ x c,X.env.cells.lookup x=aa c->c≠b)/\∀ p∈X.pn++zt,p.1≠b) :
 Inv X zt σ H' { s with heap:=h',gens:=g',drawn:=d',toks:=t' }:=by
 obtain ⟨m,⟨o,es,ep,ho,r⟩,_⟩:=id I.loc;obtain ⟨sl,hL⟩:=u.any ho I.free λz=>(hch _ z).2.1 rfl;exact I.step (ch:=ch) hch (λb o hL hb hc e n=>u.keep b o e n (λz=>(List.mem_cons.mp (I.qc b z)).elim hL hb) hc) (λb o _ _ hc e n=>u.any e n hc) (λb o hc e n=>u.free b o e n hc) (λb o hc e=>u.there b o e hc) u.tups u.frzs u.tbls (λm' hm=>by obtain ⟨o',es',ep',ho',r'⟩:=hm;rw[ho] at ho';cases ho';exact ⟨_,es',ep',hL,r'⟩) hok hg
theorem Inv.turned {t':Nat}{it:P4} (I:Inv X zt σ H s) (k:∀ b o,b≠it->s.heap.get? b=aa o->h'.get? b=aa o) (hn:H it=af) (hL:it≠X.env.locals)
 (h1:it∈X.ex\/X.s₀.heap.objs.size<=it) (h2:∀ x c,X.env.cells.lookup x=aa c->c≠it) (h3:∀ p∈X.pn++zt,p.1≠it):Inv X zt σ H { s with heap:=h',toks:=t' }:=by
 have nit:∀ b u,H b=aa u->b≠it:=λb u e z=>by rw[z,hn] at e;cases e
 refine I.step (g':=s.gens) (d':=s.drawn) (ch:=[it]) (λb hb=>?_) (λb o _ _ hc e _=>k b o (λz=>hc (by simp[z])) e) (λb o _ _ hc e _=>⟨o.slots,k b o (λz=>hc (by simp[z])) e⟩) (λ_ _ _ _ n=>n)
  (λb o hc e=>⟨o,k b o (λz=>hc (by simp[z])) e⟩) (λ_ _ e=>e) (λ_ _ _ e=>e) (λb ps e=>⟨#[],by rw[e];simp⟩) (λm hm=>?_) (λb u e=>?_) I.bare
 ·have e:b=it:=by simpa using hb
  subst e;exact ⟨h1,hL,h2,h3⟩
 ·obtain ⟨o,es,ep,ho,r⟩:=hm;exact ⟨o,es,ep,k _ o (QW hL) ho,r⟩
 ·refine (I.hok b u e).stay (λc v hc q=>k c v ?_ q) (λ_ q=>q) λ_ _ q=>q;rcases hc with z|z
  rw[z];exact nit b u e;exact nit c _ z
theorem Inv.tok (I:Inv X zt σ H s) (t:Nat):Inv X zt σ H { s with toks:=t }:=I.un (h':=s.heap) (t':=t) Un.refl I.hok
theorem Inv.kept {t':Nat} (I:Inv X zt σ H s) (k:∀ b u,s.heap.get? b=aa u->h'.get? b=aa u):Inv X zt σ H { s with heap:=h',toks:=t' }:=I.un (Un.kept k) (I.hok.kept k)
theorem Inv.laid {a:P4}{o:HO}{t':Nat} (I:Inv X zt σ H s) (k:∀ b u,s.heap.get? b=aa u->h'.get? b=aa u) (hp:s.heap.objs.size<=a) (new:gi X.prog X.w (upd H a o) h' a o) :
 Inv X zt σ (upd H a o) { s with heap:=h',toks:=t' }:=I.un (Un.laid k hp (I.hok.fresh hp)) (I.hok.laid k hp new)
theorem Inv.write {x e:P4}{o:HO}{t':Nat} (I:Inv X zt σ H s) (mu:Mut (H x)) (he:e=x\/H e=aa (.own x)) (k:∀ b u,b≠e->s.heap.get? b=aa u->h'.get? b=aa u) (heo:∃ u,h'.get? e=aa u)
 (new:gi X.prog X.w (upd H x o) h' x o):Inv X zt σ (upd H x o) { s with heap:=h',toks:=t' }:=I.un (Un.write mu he k heo) (I.hok.write mu he k heo new)
theorem Inv.mF {pins':List (P4×av)} (I:Inv X zt σ H s) (h:∀ p∈pins',s.heap.get? p.1=aa p.2/\H p.1=af/\p.1≠X.env.locals/\p.1∉X.fs/\∀ v,p.2.data≠.cell v):Inv X pins' σ H s :=
 ⟨I.ok,I.os,I.bare,I.base,I.loc,I.cell,I.free,I.freeC,λp hp=>(List.mem_append.mp hp).elim (λz=>I.pin p (SJ _ z)) (h p),I.hok,I.len⟩
theorem rQ {N:List aB} (hN:N.Nodup) {i j:Nat}{x:aB} (a:N[i]?=aa x) (b:N[j]?=aa x):i=j:=by obtain ⟨h1,e1⟩:=List.getElem?_eq_some_iff.mp a;obtain ⟨h2,e2⟩:=List.getElem?_eq_some_iff.mp b;exact (Uz hN).mp (e1.trans e2.symm)
theorem pA {M:Model}{A:QO}{E:aC->PX->Prop}{i:Nat}{x:aB}{v:V}{u:aC}{Q:Unit->PX->Prop} (I:Inv X zt σ H s) (hN:X.N.Nodup) (hi:X.N[i]?=aa x) (hx:Loc X.env.scope x) (r:RelV v u)
 (h:∀ s',Inv X zt (σ.set i (aa v)) H s'->(∃ a,Si a s.heap s'.heap/\(a=X.env.locals\/X.env.cells.lookup x=aa a))->Q () s') (hf:X.fn x=ah\/X.env.scope.names.lookup x=aa .local:=by first|exact .inl rfl|exact .inr rfl|assumption):aA M A (storeName X.env x u) Q E s:=by
 obtain ⟨m,hn,hl⟩:=id I.loc;have hcls:(X.env.scope.kind==.class||(X.env.scope.kind==.module&&X.env.locals != X.env.globals))=ai:=by rw[I.ok.kind];rfl
 have hiσ:i < σ.length:=by rw[I.len];exact (List.getElem?_eq_some_iff.mp hi).1
 have cne:=I.cne;have tracked:∀ {a:P4}{h':ay},(∃ o,s.heap.get? a=aa o/\H a=af)->Si a s.heap h'->HOk X.prog X.w H h':=λ{a h'} ha hs b ob e=>by
  obtain ⟨_,_,hfree⟩:=ha;refine (I.hok b ob e).stay (λc w' hc q=>(hs.2 c ?_).trans q) (λ_ q=>q) λ_ _ q=>q
  rintro rfl
  rcases hc with rfl|hc
  rw[hfree] at e;cases e;rw[hfree] at hc;cases hc
 rcases hx with hk|hk
 ·refine wpAny_storeName_local hk hn (λh' hn' hs=>?_) hcls;obtain ⟨oL,_,_,hoL,_⟩:=id hn;refine h _ ⟨I.ok,I.os,I.bare,⟨λb o e n hb hx=>?_,λb o e n hb hx=>?_,I.base.free,λb o e hx=>?_,I.base.tups,I.base.frzs,I.base.tbls⟩,⟨_,hn',λj y v' e1 e2 e3=>?_⟩,λy c e=>?_,I.free,I.freeC,λp hp=>?_,tracked ⟨oL,hoL,I.free⟩ hs,by simpa using I.len⟩ ⟨_,hs,.inl rfl⟩;exact (hs.2 b (Qu (Qo (P7 e) I.ok.above))).trans (I.base.keep b o e n hb hx)
  ·obtain ⟨sl,e1⟩:=I.base.slot b o e n hb hx;exact ⟨sl,(hs.2 b (Qu (Qo (P7 e) I.ok.above))).trans e1⟩
  ·obtain ⟨o',e1⟩:=I.base.there b o e hx;exact ⟨o',(hs.2 b (Qu (Qo (P7 e) I.ok.above))).trans e1⟩
  ·by_cases hj:j=i
   ·subst hj;rw[hi] at e1;cases e1;rw[Qw hiσ] at e2;cases e2;exact ⟨u,r,.inl ⟨hk,by simp⟩⟩
   ·rw[Ql (QW hj)] at e2;obtain ⟨u',r',q⟩:=hl j y v' e1 e2 e3;refine ⟨u',r',?_⟩;rcases q with ⟨k,e⟩|⟨k,c,e,z⟩
    ·refine .inl ⟨k,?_⟩;have:y≠x:=λe=>hj (rQ hN e1 (e ▸ hi));simp[this,e]
    exact .inr ⟨k,c,e,z.sameBut hs (cne y c e)⟩
  ·obtain ⟨w',z⟩:=I.cell y c e;exact ⟨w',z.sameBut hs (cne y c e)⟩
  ·obtain ⟨e,n,ne,nf,d⟩:=I.pin p hp;exact ⟨(hs.2 p.1 ne).trans e,n,ne,nf,d⟩
 ·have hfn:X.fn x=ah:=by
   rcases hf with z|z
   exact z;rw[z] at hk;cases hk
  obtain ⟨c,hc⟩:=I.ok.has x (.inl hk);obtain ⟨w',z⟩:=I.cell x c hc;refine wpAny_storeName_cell I.ok.kind hk hc z (λh' hc' hs=>?_);obtain ⟨oc,hoc,hocd⟩:=id z;refine h { s with heap:=h' } ⟨I.ok,I.os,I.bare,⟨λb o e n hb hx=>?_,λb o e n hb hx=>?_,I.base.free,λb o e hx=>?_,I.base.tups,I.base.frzs,I.base.tbls⟩,⟨m,hn.sameBut hs (QW (cne x c hc)),λj y v' e1 e2 e3=>?_⟩,λy c' e=>?_,I.free,I.freeC,λp hp=>?_,tracked ⟨oc,hoc,I.freeC x c hc⟩ hs,by simpa using I.len⟩ ⟨c,hs,.inr hc⟩;exact (hs.2 b (Qu (Qo (P7 e) (I.ok.cab x c hfn hc)))).trans (I.base.keep b o e n hb hx)
  ·obtain ⟨sl,e1⟩:=I.base.slot b o e n hb hx;exact ⟨sl,(hs.2 b (Qu (Qo (P7 e) (I.ok.cab x c hfn hc)))).trans e1⟩
  ·obtain ⟨o',e1⟩:=I.base.there b o e hx;exact ⟨o',(hs.2 b (Qu (Qo (P7 e) (I.ok.cab x c hfn hc)))).trans e1⟩
  ·by_cases hj:j=i
   ·subst hj;rw[hi] at e1;cases e1;rw[Qw hiσ] at e2;cases e2;exact ⟨u,r,.inr ⟨.inl hk,c,hc,hc'⟩⟩
   ·rw[Ql (QW hj)] at e2;obtain ⟨u',r',q⟩:=hl j y v' e1 e2 e3;refine ⟨u',r',?_⟩;rcases q with q|⟨k,c',e,z'⟩
    exact .inl q
    ·refine .inr ⟨k,c',e,z'.sameBut hs ?_⟩
     rintro rfl
     exact hj (rQ hN e1 (I.ok.inj _ _ _ e hc ▸ hi))
  ·by_cases hcc:c'=c
   subst hcc;exact ⟨_,hc'⟩
   ·obtain ⟨w2,z2⟩:=I.cell y c' e;exact ⟨w2,z2.sameBut hs hcc⟩
  ·obtain ⟨e,n,ne,nf,d⟩:=I.pin p hp;refine ⟨(hs.2 p.1 ?_).trans e,n,ne,nf,d⟩;intro q;rw[q,hoc] at e;have q':oc=p.2:=P5 e;exact d w' (by rw[← q'];exact hocd)
theorem mU {M:Model}{A:QO}{E:aC->PX->Prop}{i:Nat}{x:aB}{v:V}{u:aC}{Q:Unit->PX->Prop} (I:Inv X zt σ H s) (hN:X.N.Nodup) (hi:X.N[i]?=aa x) (hx:Loc X.env.scope x) (r:RelV v u)
 (h:∀ s',Inv X zt (σ.set i (aa v)) H s'->Q () s') (hf:X.fn x=ah\/X.env.scope.names.lookup x=aa .local:=by first|exact .inl rfl|exact .inr rfl|assumption):aA M A (storeName X.env x u) Q E s :=
 pA I hN hi hx r (λs' I' _=>h s' I') hf
end
abbrev XK:=aC->Option P4->Hp->Prop
noncomputable abbrev St:=List (Option V)
abbrev VK:=V->Hp->Prop
abbrev TE:=St->Hp->VK->Prop
abbrev TT:=St->Hp->(Bool->Hp->Prop)->Prop
abbrev TA:=St->Hp->(List V->Hp->Prop)->Prop
structure Ends where
 nx:St->Hp->Prop
 rt:VK
 bk:St->Hp->Prop:=λ_ _=>False
 ct:St->Hp->Prop:=λ_ _=>False
abbrev TS:=Ends->St->Hp->Prop
inductive EP (X:Cx) (zt:List (P4×av)) (σ:St) (Q:VK) (u:aC) (s':PX):Prop where
 | mk (v:V) (H':Hp) (I:Inv X zt σ H' s') (r:RelV v u) (q:Q v H'):EP X zt σ Q u s'
inductive TP (X:Cx) (zt:List (P4×av)) (σ:St) (Q:Bool->Hp->Prop) (b:Bool) (s':PX):Prop where
 | mk (H':Hp) (I:Inv X zt σ H' s') (q:Q b H'):TP X zt σ Q b s'
inductive AP (X:Cx) (zt:List (P4×av)) (σ:St) (Q:List V->Hp->Prop) (us:List aC) (s':PX):Prop where
 | mk (vs:List V) (H':Hp) (I:Inv X zt σ H' s') (r:dw vs us) (q:Q vs H'):AP X zt σ Q us s'
def SP (X:Cx) (zt:List (P4×av)) (D:Ends) (f:Flow) (s':PX):Prop :=
 match f with
 | .next=>∃ σ' H',Inv X zt σ' H' s'/\D.nx σ' H'| .brk=>∃ σ' H',Inv X zt σ' H' s'/\D.bk σ' H'| .cont=>∃ σ' H',Inv X zt σ' H' s'/\D.ct σ' H'| .ret u=>∃ v σ' H',Inv X zt σ' H' s'/\RelV v u/\D.rt v H'
def PE (X:Cx) (e:SK) (t:TE):Prop :=
 ∀ (zt:List (P4×av)) (s:PX) (σ:St) (H:Hp) (Q:VK),Inv X zt σ H s->t σ H Q->aA (Qq X.prog X.w) X.A (eval e X.env) (EP X zt σ Q) X.xe s
def PT (X:Cx) (e:SK) (t:TT):Prop :=
 ∀ (zt:List (P4×av)) (s:PX) (σ:St) (H:Hp) (Q:Bool->Hp->Prop),Inv X zt σ H s->t σ H Q->aA (Qq X.prog X.w) X.A (isTrue e X.env (eval e X.env)) (TP X zt σ Q) X.xe s
def PW (X:Cx) (e:SK) (t:TT):Prop :=
 ∀ (whole:Sem aC) (zt:List (P4×av)) (s:PX) (σ:St) (H:Hp) (Q:Bool->Hp->Prop),Inv X zt σ H s->t σ H Q->aA (Qq X.prog X.w) X.A (isTrue e X.env whole) (TP X zt σ Q) X.xe s
theorem PW.pt {X:Cx}{e:SK}{t:TT} (h:PW X e t):PT X e t:=h _
def PA (X:Cx) (es:List SK) (t:TA):Prop :=
 ∀ (pos:Pos) (zt:List (P4×av)) (s:PX) (σ:St) (H:Hp) (Q:List V->Hp->Prop),Inv X zt σ H s->t σ H Q->aA (Qq X.prog X.w) X.A (spliced (SL pos (QC es X.env))) (AP X zt σ Q) X.xe s
def PS (X:Cx) (st:Us) (t:TS):Prop :=
 ∀ (zt:List (P4×av)) (s:PX) (σ:St) (H:Hp) (D:Ends),Inv X zt σ H s->t D σ H->aA (Qq X.prog X.w) X.A (exec st X.env) (SP X zt D) X.xe s
def PSs (X:Cx) (st:List Us) (t:TS):Prop :=
 ∀ (zt:List (P4×av)) (s:PX) (σ:St) (H:Hp) (D:Ends),Inv X zt σ H s->t D σ H->aA (Qq X.prog X.w) X.A (execs st X.env) (SP X zt D) X.xe s
theorem thn {α:Type}{t:Sem α}{Q Q':α->PX->Prop}{M:Model}{A:QO}{E:aC->PX->Prop}{s:PX} (h:aA M A t Q E s) (hQ:∀ a s,Q a s->Q' a s):aA M A t Q' E s:=Ss h hQ λ_ _ x=>x
end L2
namespace L2
open PySem PySem.Spec PyProof.Rows
section
variable {X:Cx}
theorem bin {a b:SK}{ta tb:TE} (ha:PE X a ta) (hb:PE X b tb) {zt:List (P4×av)}{s:PX}{σ:St}{H:Hp}{R:V->V->Hp->Prop} (I:Inv X zt σ H s) (h:ta σ H λx H1=>tb σ H1 λy H2=>R x y H2)
 {α:Type}{Q:α->PX->Prop}{f:aC->aC->Sem α}
 (hf:∀ v u s2 x y H2,Inv X zt σ H2 s2->RelV x v->RelV y u->R x y H2->aA (Qq X.prog X.w) X.A (f v u) Q X.xe s2) :
 aA (Qq X.prog X.w) X.A (eval a X.env) (λv s₁=>aA (Qq X.prog X.w) X.A (eval b X.env) (λu s₂=>aA (Qq X.prog X.w) X.A (f v u) Q X.xe s₂) X.xe s₁) X.xe s:=by
 refine thn (ha zt s σ H _ I h) λv s1 zq=>?_;obtain ⟨x,H1,I1,r1,q1⟩:=zq;refine thn (hb zt s1 σ H1 _ I1 q1) λu s2 zq=>?_;obtain ⟨y,H2,I2,r2,q2⟩:=zq;exact hf v u s2 x y H2 I2 r1 r2 q2
def M0 (i:Nat):TE:=fun σ H Q=>∃ v,σ[i]?=aa (aa v)/\Q v H
def tC (v:V):TE:=λ_ H Q=>Q v H
theorem FA {i:Nat}{x:aB}{pos:Pos} (hN:X.N[i]?=aa x) (hv:Vis X.env.scope x) (hd:(x==("__debug__":aB))=ai:=by decide) (hcd:(x==("__classdict__":aB))=ai:=by decide):PE X (.Name x pos) (M0 i):=by
 intro zt s σ H Q I h;obtain ⟨v,e,h⟩:=h;obtain ⟨m,hn,hl⟩:=I.loc;obtain ⟨u,r,l⟩:=hl i x v hN e hv;have fin:EP X zt σ Q u s:=⟨v,H,I,r,h⟩;rcases l with ⟨hk,hm⟩|⟨hk,c,hc,hcell⟩
 exact wpAny_Name (wpAny_loadName_local I.ok.kind hk hn hm fin) hd
 ·rcases hk with hk|hk
  exact wpAny_Name (wpAny_loadName_cell I.ok.kind hk hc hcell fin) hd;exact wpAny_Name (wpAny_loadName_free I.ok.kind hk hc hcell fin hcd) hd
theorem tX {i j pos}:PE X (.Constant (.int i) j pos) (tC (.int i)):=λ_ _ _ H _ I h=>wpAny_Constant_int ⟨.int i,H,I.tok _,⟨_,rfl⟩,h⟩
theorem Jw {b j pos}:PE X (.Constant (.bool b) j pos) (tC (.bl b)):=λ_ _ _ H _ I h=>Constant_bool ⟨.bl b,H,I,rfl,h⟩
theorem FD {j pos}:PE X (.Constant .none j pos) (tC .non):=λ_ _ _ H _ I h=>Constant_none ⟨.non,H,I,rfl,h⟩
theorem FE {x j pos}:PE X (.Constant (.str x) j pos) (tC (.str x)):=λ_ _ _ H _ I h=>Calls.Constant_str ⟨.str x,H,I.tok _,⟨_,rfl⟩,h⟩
def Gl (X:Cx) (x:aB):Prop:=X.env.kindOf x=aa .globalImplicit
theorem kF {E:aC->PX->Prop}{zt:List (P4×av)}{s:PX}{σ:St}{H:Hp}{x:aB}{u:aC}{pos:Pos}{Q:aC->PX->Prop} (I:Inv X zt σ H s) (hg:Gl X x) (hm:X.mg x=aa u) (h:Q u s)
 (hd:(x==("__debug__":aB))=ai:=by decide):aA (Qq X.prog X.w) X.A (eval (.Name x pos) X.env) Q E s :=
 UP I.ok.kind hg (Calls.loadGlobal_global (by rw[I.ok.glob];exact I.mod.glob.keeps I.bk) hm h) hd
theorem jo {E:aC->PX->Prop}{zt:List (P4×av)}{s:PX}{σ:St}{H:Hp}{x:aB}{u:aC}{pos:Pos}{Q:aC->PX->Prop} (I:Inv X zt σ H s) (hg:Gl X x) (hm:X.mg x=af) (hv:S9 x=aa u) (h:Q u s)
 (hn:x≠"__name__":=by decide) (hd:(x==("__debug__":aB))=ai:=by decide):aA (Qq X.prog X.w) X.A (eval (.Name x pos) X.env) Q E s:=by
 obtain ⟨mb,h1,h2⟩:=I.mod.blt;exact UP I.ok.kind hg (Calls.loadGlobal_builtin (by rw[I.ok.glob];exact I.mod.glob.keeps I.bk) hm (by rw[I.ok.blt];exact h1.keeps I.bk) ((h2 x hn).trans hv) h) hd
theorem qd {x:aB}{v:V}{u:aC}{pos:Pos} (hg:Gl X x) (hm:X.mg x=aa u) (r:RelV v u) (hd:(x==("__debug__":aB))=ai:=by decide):PE X (.Name x pos) (tC v) :=
 λ_ _ _ H _ I h=>kF I hg hm ⟨v,H,I,r,h⟩ hd
theorem mG {x:aB}{v:V}{u:aC}{pos:Pos} (hg:Gl X x) (hm:X.mg x=af) (hv:S9 x=aa u) (r:RelV v u) (hn:x≠"__name__":=by decide) (hd:(x==("__debug__":aB))=ai:=by decide):PE X (.Name x pos) (tC v) :=
 λ_ _ _ H _ I h=>jo I hg hm hv ⟨v,H,I,r,h⟩ hn hd
variable {a b:SK}{ta tb:TE}{pos:Pos}
def tB (t:TE):TT:=fun σ H Q=>t σ H λx H1=>∃ c,x=.bl c/\Q c H1
theorem FF {e:SK}{t:TE} (h:PE X e t) (he:∀ whole,isTrue e X.env whole=(do let v ← whole;Vl e.pos;TR [v] (truthy v)):=by intro _;rfl):PT X e (tB t):=by intro zt s σ H Q I hw;refine isTrue_plain (thn (h zt s σ H _ I hw) λv s1 ⟨x,H1,I1,r1,q1⟩=>?_) (he _);obtain ⟨d,rfl,q⟩:=q1;cases r1;exact Rh ⟨H1,I1,q⟩
variable {tA tB':TT}{rest:List SK}
def Jx (t u:TT):TT:=fun σ H Q=>t σ H λc H1=>if c=ah then u σ H1 Q else Q ai H1
def tOr (t u:TT):TT:=fun σ H Q=>t σ H λc H1=>if c=ah then Q ah H1 else u σ H1 Q
def Jy (t:TT):TT:=fun σ H Q=>t σ H λc H1=>Q (!c) H1
theorem Cb (ha:PT X a tA):PW X (.BoolOp .And [a] pos) tA:=by
 intro wh zt s σ H Q I h;refine isTrue_and (thn (ha zt s σ H Q I h) λc s1 e=>?_);cases c with
 | true=>exact isTrue_and_nil e| false=>exact e
theorem FG (ha:PT X a tA):PW X (.BoolOp .Or [a] pos) tA:=by
 intro wh zt s σ H Q I h;refine isTrue_or (thn (ha zt s σ H Q I h) λc s1 e=>?_);cases c with
 | false=>exact isTrue_or_nil e| true=>exact e
theorem yz (ha:PT X a tA) (hb:PW X (.BoolOp .And (b::rest) pos) tB'):PW X (.BoolOp .And (a::b::rest) pos) (Jx tA tB'):=by
 intro wh zt s σ H Q I h;refine isTrue_and (thn (ha zt s σ H _ I h) λc s1 zq=>?_);obtain ⟨H1,I1,q1⟩:=zq;cases c with
 | true=>exact hb wh zt s1 σ H1 Q I1 q1| false=>exact ⟨H1,I1,q1⟩
theorem EU (ha:PT X a tA) (hb:PW X (.BoolOp .Or (b::rest) pos) tB'):PW X (.BoolOp .Or (a::b::rest) pos) (tOr tA tB'):=by
 intro wh zt s σ H Q I h;refine isTrue_or (thn (ha zt s σ H _ I h) λc s1 zq=>?_);obtain ⟨H1,I1,q1⟩:=zq;cases c with
 | true=>exact ⟨H1,I1,q1⟩| false=>exact hb wh zt s1 σ H1 Q I1 q1
theorem FH (ha:PT X a tA):PT X (.UnaryOp .Not a pos) (Jy tA):=by intro zt s σ H Q I h;exact isTrue_not (thn (ha zt s σ H (λc H1=>Q (!c) H1) I h) λc s' z=>by obtain ⟨H1,I1,q⟩:=z;exact ⟨H1,I1,q⟩)
def EV (ta tb:TE):TE:=fun σ H Q=>ta σ H λx H1=>∃ c,x=.bl c/\if c=ah then tb σ H1 Q else Q (.bl ai) H1
def Jz (ta tb:TE):TE:=fun σ H Q=>ta σ H λx H1=>∃ c,x=.bl c/\if c=ah then Q (.bl ah) H1 else tb σ H1 Q
def EW (ta:TE):TE:=fun σ H Q=>ta σ H λx H1=>∃ c,x=.bl c/\Q (.bl (!c)) H1
theorem yC {op}{t:TE} (h:PE X a t):PE X (.BoolOp op [a] pos) t:=λzt s σ H Q I hw=>BoolOp_one (h zt s σ H Q I hw)
theorem yD (ha:PE X a ta) (hb:PE X (.BoolOp .And (b::rest) pos) tb):PE X (.BoolOp .And (a::b::rest) pos) (EV ta tb):=by
 intro zt s σ H Q I h;refine BoolOp_and (thn (ha zt s σ H _ I h) λv s1 zq=>?_);obtain ⟨x,H1,I1,r1,q1⟩:=zq;obtain ⟨c,rfl,q1⟩:=q1;cases r1;refine Rh ?_;cases c with
 | true=>exact hb zt s1 σ H1 Q I1 q1| false=>exact ⟨.bl ai,H1,I1,rfl,q1⟩
theorem EX (ha:PE X a ta) (hb:PE X (.BoolOp .Or (b::rest) pos) tb):PE X (.BoolOp .Or (a::b::rest) pos) (Jz ta tb):=by
 intro zt s σ H Q I h;refine BoolOp_or (thn (ha zt s σ H _ I h) λv s1 zq=>?_);obtain ⟨x,H1,I1,r1,q1⟩:=zq;obtain ⟨c,rfl,q1⟩:=q1;cases r1;refine Rh ?_;cases c with
 | false=>exact hb zt s1 σ H1 Q I1 q1| true=>exact ⟨.bl ah,H1,I1,rfl,q1⟩
theorem FI (ha:PE X a ta):PE X (.UnaryOp .Not a pos) (EW ta):=by intro zt s σ H Q I h;refine UnaryOp_ (thn (ha zt s σ H _ I h) λv s1 zq=>?_);obtain ⟨x,H1,I1,r1,q1⟩:=zq;obtain ⟨c,rfl,q1⟩:=q1;cases r1;exact not_of (Rh ⟨.bl (!c),H1,I1,rfl,q1⟩)
def tIf (t:TT) (ta tb:TE):TE:=fun σ H Q=>t σ H λc H1=>if c=ah then ta σ H1 Q else tb σ H1 Q
theorem yE {c:SK} (hc:PT X c tA) (ha:PE X a ta) (hb:PE X b tb):PE X (.IfExp c a b pos) (tIf tA ta tb):=by
 intro zt s σ H Q I h;refine wpAny_IfExp (thn (hc zt s σ H _ I h) λd s1 zq=>?_);obtain ⟨H1,I1,q1⟩:=zq;cases d with
 | true=>exact ha zt s1 σ H1 Q I1 q1| false=>exact hb zt s1 σ H1 Q I1 q1
end
end L2
namespace L2
open PySem PySem.Spec PyProof.Rows
def SqL (K:PP) (H:Hp) (a:P4) (xs:List V):Prop :=
 Rd H a (.lst xs) ∨
  ∃ (o:av) (its:Array aC) (n:Nat),K.lookup a=aa o/\o.cls=.type "list"/\o.dict=af/\o.data=.seq its n/\its.size<=ao/\dw xs its.toList
def SqT (K:PP) (H:Hp) (a:P4) (xs:List V):Prop :=
 Rd H a (.tup xs) ∨
  ∃ (o:av) (its:Array aC) (n:Nat),K.lookup a=aa o/\o.cls=.type "tuple"/\o.data=.seq its n/\its.size<=ao/\dw xs its.toList
noncomputable def M1:aC->Option V
 | .none=>aa .non| .bool b=>aa (.bl b)| .int i _=>aa (.int i)| .str x _=>aa (.str x)| .bytes b _=>aa (.byt b)| .float b _=>aa (.flt b)| .ref a=>aa (.ref a)| .type n=>aa (.ty n)| _=>af
theorem RelV.abs {x:V}{u:aC} (r:RelV x u):M1 u=aa x:=by
 cases x with
 | non=>cases r;rfl| bl _=>cases r;rfl| ref _=>cases r;rfl| ty _=>cases r;rfl| _=>obtain ⟨t,rfl⟩:=r;rfl
theorem RelV.inj {x y:V}{u:aC} (r:RelV x u) (q:RelV y u):x=y:=P5 (r.abs.symm.trans q.abs)
theorem dw.inj:∀ {xs ys:List V}{us:List aC},dw xs us->dw ys us->xs=ys
 | _,_,_,.nil,.nil=>rfl
 | _,_,_,.cons r t,.cons r' t'=>by rw[r.inj r',dw.inj t t']
section
variable {X:Cx}{zt:List (P4×av)}{σ:St}{H:Hp}{s:PX}{a:P4}{xs ys:List V}
theorem Inv.list (I:Inv X zt σ H s) (h:SqL X.K H a xs):∃ its:List aC,dw xs its/\PlainL s.heap a its.toArray/\xs.length<=ao:=by
 rcases h with h|⟨o,its,n,hk,hc,hd,hs,hz,r⟩
 ·obtain ⟨z,its,n,r,e⟩:=h.ok I.hok;exact ⟨its,r,⟨_,n,e,rfl,rfl,rfl⟩,z⟩
 ·refine ⟨its.toList,r,⟨o,n,I.kIn a o hk,hc,hd,by simpa using hs⟩,?_⟩;have e:=r.length;simp only[Q9] at e;lia
theorem Inv.tuple (I:Inv X zt σ H s) (h:SqT X.K H a xs):∃ its:List aC,dw xs its/\IsTup s.heap a its.toArray/\xs.length<=ao:=by
 rcases h with h|⟨o,its,n,hk,hc,hs,hz,r⟩
 ·obtain ⟨z,its,r,p⟩:=h.ok I.hok;exact ⟨its,r,p,z⟩
 ·refine ⟨its.toList,r,⟨o,I.kIn a o hk,hc,n,by simpa using hs⟩,?_⟩;have e:=r.length;simp only[Q9] at e;lia
theorem Inv.rR (I:Inv X zt σ H s) (h:SqL X.K H a xs) (h':SqL X.K H a ys):xs=ys:=by
 obtain ⟨its,r,⟨o,n,e,_,_,d⟩,_⟩:=I.list h;obtain ⟨its',r',⟨o',n',e',_,_,d'⟩,_⟩:=I.list h';rw[e] at e';cases e';rw[d] at d'
 injection d' with d1 _
 have:its=its':=by simpa using congrArg Array.toList d1
 subst this;exact r.inj r'
theorem Inv.w5 (I:Inv X zt σ H s) (h:SqT X.K H a xs) (h':SqT X.K H a ys):xs=ys:=by
 obtain ⟨its,r,⟨o,e,_,n,d⟩,_⟩:=I.tuple h;obtain ⟨its',r',⟨o',e',_,n',d'⟩,_⟩:=I.tuple h';rw[e] at e';cases e';rw[d] at d'
 injection d' with d1 _
 have:its=its':=by simpa using congrArg Array.toList d1
 subst this;exact r.inj r'
end
noncomputable abbrev Cx.oJ (X:Cx) (E:aC->PX->Prop):Cx:={ X with xe:=E }
noncomputable abbrev Cx.nox (X:Cx):Cx:=X.oJ λ_ _=>False
theorem Cx.Ok.oJ {X:Cx} (ok:X.Ok) (E:aC->PX->Prop):(X.oJ E).Ok :=
 ⟨ok.mod,ok.kind,ok.glob,ok.blt,ok.above,ok.inj,ok.has,ok.cab,ok.hd,ok.frames,ok.stk,ok.exf,ok.bs,ok.bsz,ok.noex,ok.exfs,ok.lA,ok.frf⟩
theorem Cx.Ok.jq {X:Cx}{E:aC->PX->Prop} (ok:(X.oJ E).Ok):X.Ok :=
 ⟨ok.mod,ok.kind,ok.glob,ok.blt,ok.above,ok.inj,ok.has,ok.cab,ok.hd,ok.frames,ok.stk,ok.exf,ok.bs,ok.bsz,ok.noex,ok.exfs,ok.lA,ok.frf⟩
section
variable {X:Cx}{zt:List (P4×av)}{σ:St}{H:Hp}{s:PX}{E:aC->PX->Prop}
theorem Inv.oJ (I:Inv X zt σ H s) (E:aC->PX->Prop):Inv (X.oJ E) zt σ H s:=⟨I.ok.oJ E,I.os,I.bare,I.base,I.loc,I.cell,I.free,I.freeC,I.pin,I.hok,I.len⟩
theorem Inv.jq (I:Inv (X.oJ E) zt σ H s):Inv X zt σ H s:=⟨I.ok.jq,I.os,I.bare,I.base,I.loc,I.cell,I.free,I.freeC,I.pin,I.hok,I.len⟩
theorem SP.jq {D:Ends}{f:Flow}{s':PX} (h:SP (X.oJ E) zt D f s'):SP X zt D f s':=by
 cases f with
 | ret u=>obtain ⟨v,σ',H',I,r,q⟩:=h;exact ⟨v,σ',H',I.jq,r,q⟩| _=>obtain ⟨σ',H',I,q⟩:=h;exact ⟨σ',H',I.jq,q⟩
theorem PSs.nox {st:List Us}{t:TS} (h:PSs X.nox st t):PSs X st t:=λzt s σ H D I hw =>
 Ss (h zt s σ H D (I.oJ _) hw) (λ_ _ q=>q.jq) λ_ _ z=>Rl z
end
section
variable {X:Cx}{st:Us}{rest:List Us}{t u:TS}{e:SK}{te:TE}{pos:Pos}
def JA:TS:=λD σ H=>D.nx σ H
def JB (t u:TS):TS:=λD σ H=>t { D with nx:=u D } σ H
theorem Cd:PSs X [] JA:=λ_ _ σ H _ I h=>T8 ⟨σ,H,I,h⟩
theorem rS (h1:PS X st t) (h2:PSs X rest u):PSs X (st::rest) (JB t u):=by
 intro zt s σ H D I h;refine wpAny_execs_cons (thn (h1 zt s σ H { D with nx:=u D } I h) λf s1 q=>?_);cases f with
 | next =>
  obtain ⟨σ',H',I',q⟩:=q;exact h2 zt s1 σ' H' D I' q
 | _=>exact q
theorem vc (h1:PS X st t):PSs X [st] t:=by
 intro zt s σ H D I h;refine wpAny_execs_cons (thn (h1 zt s σ H D I h) λf s1 q=>?_);cases f with
 | next=>exact T8 q| _=>exact q
def M3:TS:=λD σ H=>D.bk σ H
def O8:TS:=λD σ H=>D.ct σ H
theorem Inv.quiet {zt:List (P4×av)}{σ:St}{H:Hp}{s:PX} (I:Inv X zt σ H s):interactive X.env=ai:=by simp[interactive,I.ok.kind]
def JC (te:TE):TS:=λD σ H=>te σ H λ_ H1=>D.nx σ H1
theorem Ce (he:PE X e te) (hs:SW e af pos.line X.env=pure ai:=by rfl):PS X (.Expr e pos) (JC te):=by intro zt s σ H D I h;exact wpAny_Expr_any (thn (he zt s σ H _ I h) λv s1 ⟨x,H1,I1,r1,q1⟩=>⟨σ,H1,I1,q1⟩) I.quiet hs
def M4 (te:TE):TS:=λD σ H=>te σ H D.rt
theorem FJ (he:PE X e te):PS X (.Return (aa e) pos) (M4 te):=by intro zt s σ H D I h;exact wpAny_Return_some (thn (he zt s σ H _ I h) λv s1 ⟨x,H1,I1,r1,q1⟩=>⟨x,σ,H1,I1,r1,q1⟩)
def M5 (c:TT) (t u:TS):TS:=λD σ H=>c σ H λb H1=>if b=ah then t D σ H1 else u D σ H1
theorem JD {c:SK}{a b:List Us}{tc:TT} (hc:PT X c tc) (ha:PSs X a t) (hb:PSs X b u):PS X (.If c a b pos) (M5 tc t u):=by
 intro zt s σ H D I h;refine wpAny_If (thn (hc zt s σ H _ I h) λd s1 zq=>?_);obtain ⟨H1,I1,q1⟩:=zq;cases d with
 | true=>exact ha zt s1 σ H1 D I1 q1| false=>exact hb zt s1 σ H1 D I1 q1
end
abbrev TG:=V->St->Hp->(St->Hp->Prop)->Prop
abbrev TGs:=List V->St->Hp->(St->Hp->Prop)->Prop
def PG (X:Cx) (target:SK) (t:TG):Prop :=
 ∀ (zt:List (P4×av)) (s:PX) (σ:St) (H:Hp) (v:V) (u:aC) (Q:St->Hp->Prop),Inv X zt σ H s->RelV v u->t v σ H Q →
  aA (Qq X.prog X.w) X.A (U0 target X.env u) (λ_ s'=>∃ σ' H',Inv X zt σ' H' s'/\Q σ' H') X.xe s
def PGs (X:Cx) (ts:List SK) (t:TGs):Prop :=
 ∀ (zt:List (P4×av)) (s:PX) (σ:St) (H:Hp) (vs:List V) (us:List aC) (Q:St->Hp->Prop),Inv X zt σ H s->dw vs us->t vs σ H Q →
  aA (Qq X.prog X.w) X.A (assignInOrder ((R8 ts X.env).map (·.2)) us) (λ_ s'=>∃ σ' H',Inv X zt σ' H' s'/\Q σ' H') X.xe s
abbrev FL:=V->V->V->Hp->(Hp->Prop)->Prop
def JE (X:Cx) (t:FL):Prop :=
 ∀ (zt:List (P4×av)) (s:PX) (σ:St) (H:Hp) (o i v:V) (ov iv u:aC) (Q:Hp->Prop),Inv X zt σ H s->RelV o ov->RelV i iv->RelV v u->t o i v H Q →
  aA (Qq X.prog X.w) X.A (setItem ov iv u) (λ_ s'=>∃ H',Inv X zt σ H' s'/\Q H') X.xe s
abbrev TIp:=V->V->Hp->VK->Prop
def PIp (X:Cx) (op:Tc) (t:TIp):Prop :=
 ∀ (zt:List (P4×av)) (s:PX) (σ:St) (H:Hp) (x y:V) (v u:aC) (Q:VK),Inv X zt σ H s->RelV x v->RelV y u->t x y H Q →
  aA (Qq X.prog X.w) X.A (inplaceOp op v u) (EP X zt σ Q) X.xe s
section
variable {X:Cx}{pos:Pos}
def vd (i:Nat):TG:=λv σ H Q=>Q (σ.set i (aa v)) H
theorem ve {i:Nat}{x:aB} (hN:X.N.Nodup) (hi:X.N[i]?=aa x) (hx:Loc X.env.scope x) (hf:X.fn x=ah\/X.env.scope.names.lookup x=aa .local:=by first|exact .inl rfl|exact .inr rfl|assumption):PG X (.Name x pos) (vd i):=by intro zt s σ H v u Q I r h;exact wpAny_assign_Name (mU I hN hi hx r (λs' I'=>⟨_,H,I',h⟩) hf)
def JF:TGs:=λvs σ H Q=>vs=[]/\Q σ H
def JG (t:TG) (u:TGs):TGs:=λvs σ H Q=>∃ v r,vs=v::r/\t v σ H fun σ' H'=>u r σ' H' Q
theorem Cf:PGs X [] JF:=by intro zt s σ H vs us Q I r h;obtain ⟨e,h⟩:=h;subst e;cases r;exact assignInOrder_nil ⟨σ,H,I,h⟩
theorem yF {e:SK}{es:List SK}{t:TG}{u:TGs} (h1:PG X e t) (h2:PGs X es u)
 (hs:(R8 (e::es) X.env).map (·.2)=U0 e X.env::(R8 es X.env).map (·.2):=by rfl):PGs X (e::es) (JG t u):=by
 intro zt s σ H vs us Q I r h;obtain ⟨v,vr,e1,h⟩:=h;subst e1;cases r with
 | cons r rr =>
  rw[hs];refine assignInOrder_cons (thn (h1 zt s σ H _ _ _ I r h) λ_ s1 zq=>?_);obtain ⟨σ1,H1,I1,q1⟩:=zq;exact h2 zt s1 σ1 H1 _ _ Q I1 rr q1
def M6 (K:PP) (n:Nat) (t:TGs):TG:=λv σ H Q=>∃ a xs,v=.ref a/\SqT K H a xs/\xs.length=n/\t xs σ H Q
theorem FM {es:List SK}{k:Nat}{t:TGs}{n:Nat} (hc:X.calm=ah) (h:PGs X es t)
 (hn:(R8 es X.env).length=n:=by rfl) (hst:(R8 es X.env).findIdx? (·.1)=af:=by rfl):PG X (.Tuple es k pos) (M6 X.K n t):=by
 intro zt s σ H v u Q I r hw;obtain ⟨a,xs,e1,hq,hl,hw⟩:=hw;subst e1;cases r;obtain ⟨its,rv,ht,hz⟩:=I.tuple hq;refine assign_Tuple_tuple (I.ok.hd hc) ht (by simp[hn,← hl,rv.length]) hst λh' hx=>?_;have I1:Inv X zt σ H { s with heap:=h' }:=I.kept (t':=s.toks) λb o e=>hx b o (Qu (P7 e)) e;exact h zt _ σ H xs _ Q I1 (by simpa using rv) hw
def JH (to ti:TE) (t:FL):TG:=λv σ H Q=>to σ H λo H1=>ti σ H1 λi H2=>t o i v H2 λH3=>Q σ H3
theorem FN {o i:SK}{to ti:TE}{t:FL} (ho:PE X o to) (hi:PE X i ti) (hs:JE X t)
 (ha:∀ v,U0 (.Subscript o i pos) X.env v=(do
  let ov ← TR [v] (eval o X.env)
  let iv ← TR [v,ov] (eval i X.env)
  Vl pos
  TR [v,ov,iv] (setItem ov iv v)
  release [v,ov,iv] []):=by intro _;rfl):PG X (.Subscript o i pos) (JH to ti t):=by
 intro zt s σ H v u Q I r h;rw[ha];refine PR (Ru (thn (ho zt s σ H _ I h) λov s1 zq=>?_));obtain ⟨x,H1,I1,r1,q1⟩:=zq;refine PR (Ru (thn (hi zt s1 σ H1 _ I1 q1) λiv s2 zq=>?_));obtain ⟨y,H2,I2,r2,q2⟩:=zq;refine PR (UB (PR (Ru (thn (hs zt s2 σ H2 x y v ov iv u _ I2 r1 r2 r q2) λ_ s3 zq=>?_))));obtain ⟨H3,I3,q3⟩:=zq;exact wpAny_release ⟨σ,H3,I3,q3⟩
def yG (te:TE) (g:TG):TS:=λD σ H=>te σ H λx H1=>g x σ H1 D.nx
theorem yH {tg e:SK}{te:TE}{g:TG} (he:PE X e te) (hg:PG X tg g) (hs:swapsWithSole [tg] e pos.line X.env=pure ai:=by rfl) (hw:swappedStores [tg] e X.env=pure af:=by rfl)
 (h1:(R8 [tg] X.env).map (·.2)=[U0 tg X.env]:=by rfl):PS X (.Assign [tg] e pos) (yG te g):=by
 intro zt s σ H D I h;refine wpAny_Assign_stores (thn (he zt s σ H _ I h) λv s1 ⟨x,H1,I1,r1,q1⟩=>?_) hs hw;rw[h1];exact thn (hg zt s1 σ H1 x v _ I1 r1 q1) λ_ s2 q=>q
theorem yI {i:Nat}{x:aB}{e:SK}{te:TE}{pos':Pos} (hN:X.N.Nodup) (hi:X.N[i]?=aa x) (hx:Loc X.env.scope x) (he:PE X e te) (hs:SW e (aa (.Name x pos')) pos.line X.env=pure ai:=by rfl) (hf:X.fn x=ah\/X.env.scope.names.lookup x=aa .local:=by first|exact .inl rfl|exact .inr rfl|assumption) :
 PS X (.Assign [.Name x pos'] e pos) (yG te (vd i)):=by
 intro zt s σ H D I h;refine wpAny_Assign_Name (thn (he zt s σ H _ I h) λv s1 ⟨y,H1,I1,r1,q1⟩=>?_) hs;exact mU I1 hN hi hx r1 (λs2 I2=>⟨_,H1,I2,q1⟩) hf
def JI (i:Nat) (te:TE) (ti:TIp):TS:=λD σ H=>∃ x,σ[i]?=aa (aa x)/\te σ H λy H1=>ti x y H1 λz H2=>D.nx (σ.set i (aa z)) H2
theorem FO {i:Nat}{x:aB}{e:SK}{te:TE}{op:Tc}{ti:TIp}{pos':Pos} (hN:X.N.Nodup) (hi:X.N[i]?=aa x) (hx:Loc X.env.scope x) (he:PE X e te) (ho:PIp X op ti) (hf:X.fn x=ah\/X.env.scope.names.lookup x=aa .local:=by first|exact .inl rfl|exact .inr rfl|assumption) :
 PS X (.AugAssign (.Name x pos') op e pos) (JI i te ti):=by
 intro zt s σ H D I h;obtain ⟨v,e1,h⟩:=h;obtain ⟨m,hn,hl⟩:=I.loc;have vis:Vis X.env.scope x:=by rcases hx with k|k;exact .inl k;exact .inr (.inl k)
 obtain ⟨u,r,l⟩:=hl i x v hi e1 vis;refine wpAny_AugAssign_Name ?_;have go:aA (Qq X.prog X.w) X.A (eval e X.env) (λw s₂=>aA (Qq X.prog X.w) X.A (inplaceOp op u w) (λr s₃=>aA (Qq X.prog X.w) X.A (storeName X.env x r) (λ_=>SP X zt D .next) X.xe s₃) X.xe s₂) X.xe s:=by refine thn (he zt s σ H _ I h) λw s1 zq=>?_;obtain ⟨y,H1,I1,r1,q1⟩:=zq;refine thn (ho zt s1 σ H1 v y u w _ I1 r r1 q1) λz s2 zq=>?_;obtain ⟨zv,H2,I2,r2,q2⟩:=zq;exact mU I2 hN hi hx r2 (λs3 I3=>⟨_,H2,I3,q2⟩) hf
 rcases l with ⟨hk,hm⟩|⟨hk,c,hc,hcell⟩
 exact wpAny_loadName_local I.ok.kind hk hn hm go
 ·rcases hk with hk|hk
  exact wpAny_loadName_cell I.ok.kind hk hc hcell go
  ·rcases hx with k|k
   ·have:X.env.scope.names.lookup x=aa .free:=hk;rw[k] at this;cases this
   ·have:X.env.scope.names.lookup x=aa .free:=hk;rw[k] at this;cases this
end
section
variable {X:Cx}{pos:Pos}
def yJ (c:TT) (tb:TS):TS:=λD σ H=>∃ W:Nat->St->Hp->Prop,(∃ m,W m σ H)/\∀ m σ H,W m σ H →
 c σ H λb H1=>if b=ah then ∃ N:St->Hp->Prop,(∀ σ' H',N σ' H'->∃ m',m' < m/\W m' σ' H')/\tb { D with nx:=N,ct:=N,bk:=D.nx } σ H1 else D.nx σ H1
theorem yK {c:SK}{body:List Us}{tc:TT}{tb:TS} (hp:PassesOwn (Qq X.prog X.w) X.A X.env X.xe) (hc:PT X c tc) (hb:PSs X body tb):PS X (.While c body [] pos) (yJ tc tb):=by
 intro zt s σ H D I h;obtain ⟨W,⟨m0,w0⟩,turn⟩:=h;refine wpAny_While (codeAny_whileLoop (λn s'=>∃ σ' H',Inv X zt σ' H' s'/\W n σ' H') ?_ m0 ⟨σ,H,I,w0⟩)
 rintro n s1 ⟨σ1,H1,I1,w1⟩
 refine RY hp (thn (hc zt s1 σ1 H1 _ I1 (turn n σ1 H1 w1)) λb s2 zq=>?_);obtain ⟨H2,I2,q2⟩:=zq;cases b with
 | true =>
  obtain ⟨N,hN,q2⟩:=q2;rw[if_pos rfl];refine RY hp (thn (hb zt s2 σ1 H2 _ I2 q2) λf s3 q3=>?_);cases f with
  | next =>
   obtain ⟨σ3,H3,I3,n3⟩:=q3;obtain ⟨m',hm,w3⟩:=hN σ3 H3 n3;exact ⟨m',hm,σ3,H3,I3,w3⟩
  | cont =>
   obtain ⟨σ3,H3,I3,n3⟩:=q3;obtain ⟨m',hm,w3⟩:=hN σ3 H3 n3;exact ⟨m',hm,σ3,H3,I3,w3⟩
  | _=>exact q3
 | false =>
  rw[if_neg QM];exact T8 ⟨σ1,H2,I2,q2⟩
end
structure It where
 go:Nat->Hp->Prop
 yld:Nat->Hp->V->Hp->Prop
 stop:Nat->Hp->Prop
def oK (X:Cx) (zt:List (P4×av)) (H:Hp) (b:P4):Prop :=
 H b=af/\b≠X.env.locals/\b∉X.fs/\(b∈X.ex\/X.s₀.heap.objs.size<=b)/\(∀ x c,X.env.cells.lookup x=aa c->c≠b)/\∀ p∈X.pn++zt,p.1≠b
theorem Inv.Cg {X:Cx}{zt:List (P4×av)}{σ:St}{H H':Hp}{s:PX}{b:P4} (I:Inv X zt σ H s) (hb:s.heap.objs.size<=b) (hn:H' b=af):oK X zt H' b:=by
 refine ⟨hn,Q5 (Qo I.lt hb),I.MZ hb,.inr (QD I.sz hb),λx c e z=>?_,λp hp z=>?_⟩
 ·obtain ⟨v,q⟩:=I.cell x c e;exact absurd (Qo q.lt (by rw[z];exact hb)) (QG _)
 exact absurd (Qo (P7 (I.pin p hp).1) (by rw[z];exact hb)) (QG _)
structure Turn (P:Qg) (w:QA) (K:PP) (tg:SK) (J:It) (fp:List P4) (it:P4) (tn:Nat->ay->Prop):Prop where
 mem:it∈fp
 obj:∀ i h,tn i h->∀ b∈fp,∃ o,h.get? b=aa o/\∀ v,o.data≠.cell v
 keep:∀ i h h',tn i h->(∀ b∈fp,∀ o,h.get? b=aa o->h'.get? b=aa o)->tn i h'
 item:∀ (X:Cx),X.prog=P->X.w=w->X.K=K->X.calm=ah->∀ (i:Nat) (zt:List (P4×av)) (s:PX) (σ:St) (H:Hp) (E:aC->PX->Prop),Inv X zt σ H s->(∀ b∈fp,oK X zt H b)->tn i s.heap->J.go i H →
  aA (Qq P w) X.A (UY (.ref it)) (λr s1=>∃ u,r=aa u ∧
   aA (Qq P w) X.A (Ua tg (.ref it) u) (λ_ s2=>∃ x H',Inv X zt σ H' s2/\RelV x u/\J.yld i H x H'/\tn (i+1) s2.heap/\∀ b∈fp,H' b=af) E s1) E s
 done:∀ (X:Cx),X.prog=P->X.w=w->X.K=K->X.calm=ah->∀ (i:Nat) (zt:List (P4×av)) (s:PX) (σ:St) (H:Hp) (E:aC->PX->Prop),Inv X zt σ H s->(∀ b∈fp,oK X zt H b)->tn i s.heap->J.stop i H →
  aA (Qq P w) X.A (UY (.ref it)) (λr s1=>r=af/\Inv X zt σ H s1) E s
 self:∀ (A:QO) (i:Nat) (s:PX) (Q:aC->PX->Prop) (E:aC->PX->Prop),tn i s.heap->Q (.ref it) s->aA (Qq P w) A (pyIter (.ref it)) Q E s
abbrev TI:=St->Hp->(It->Hp->Prop)->Prop
def PIE (X:Cx) (zt:List (P4×av)) (σ:St) (tg:SK) (R:It->Hp->Prop) (itv:aC) (s2:PX):Prop :=
 ∃ (it:P4) (fp:List P4) (tn:Nat->ay->Prop) (J:It) (H':Hp),itv=.ref it/\Inv X zt σ H' s2/\Turn X.prog X.w X.K tg J fp it tn/\tn 0 s2.heap/\(∀ b∈fp,oK X zt H' b)/\R J H'
def PI (X:Cx) (tg iter:SK) (wi:TI):Prop :=
 ∀ (zt:List (P4×av)) (s:PX) (σ:St) (H:Hp) (R:It->Hp->Prop),Inv X zt σ H s->wi σ H R →
  aA (Qq X.prog X.w) X.A (eval iter X.env) (λv s1=>aA (Qq X.prog X.w) X.A (pyIter v) (PIE X zt σ tg R) X.xe s1) X.xe s
theorem vf {M:Model}{A:QO}{E:aC->PX->Prop}{s:PX}{tg:SK}{it:P4}{u:aC}{o:av}{n:String}{vs:Array aC}{Q:Unit->PX->Prop} (ho:s.heap.get? it=aa o) (hc:o.cls=.type n) (hd:o.data=.fields vs)
 (hn:["enumerate","zip","dict_itemiterator","dict_reverseitemiterator","odict_iterator","itertools.zip_longest","itertools.pairwise"].contains n=ai) (hQ:Q () s):aA M A (Ua tg (.ref it) u) Q E s:=by
 unfold Ua;cases tg<;>first
  | exact az hQ
  | (cases u<;>first
   | exact az hQ
   | (refine PR (wpAny_load ho ?_)
      rw[hc,hd];show aA M A (if (["enumerate","zip","dict_itemiterator","dict_reverseitemiterator","odict_iterator","itertools.zip_longest","itertools.pairwise"].contains n&&vs[0]?==aa (T9 _))=ah then _ else _) Q E s;rw[if_neg (by intro h;rw[hn,Bool.false_and] at h;cases h)];exact az hQ))
noncomputable def Itl (K:PP) (a:P4):It :=
 ⟨λi H=>∃ xs x,SqL K H a xs/\xs[i]?=aa x,λi H x H'=>H'=H/\∀ xs,SqL K H a xs->xs[i]?=aa x,λi H=>∃ xs,SqL K H a xs/\xs.length<=i⟩
noncomputable def Itt (K:PP) (a:P4):It :=
 ⟨λi H=>∃ xs x,SqT K H a xs/\xs[i]?=aa x,λi H x H'=>H'=H/\∀ xs,SqT K H a xs->xs[i]?=aa x,λi H=>∃ xs,SqT K H a xs/\xs.length<=i⟩
noncomputable def Itr (lo:Int) (n:Nat):It:=⟨λi _=>i < n,λi H x H'=>H'=H/\x=.int (lo+i),λi _=>n<=i⟩
theorem w6 {P:Qg}{w:QA}{K:PP}{tg:SK} (a it:P4):Turn P w K tg (Itl K a) [it] it (λi h=>h.IsListIter it a i) where
 mem:=by simp
 obj:=λi h st b hb=>by
  have e:b=it:=by simpa using hb
  subst e;obtain ⟨o,e,c,d⟩:=st;exact ⟨o,e,λv z=>by rw[d] at z;cases z⟩
 keep:=λi h h' st k=>st.at λo e=>k it (by simp) o e
 item:=by intro X hP hw hK hc i zt s σ H E I hf st hg;subst hP hw hK;obtain ⟨xs,x,hq,hx⟩:=hg;obtain ⟨its,rv,p,hz⟩:=I.list hq;obtain ⟨u,hu,ru⟩:=rv.get hx;obtain ⟨f0,f1,f2,f3,f4,f5⟩:=hf it (by simp);refine wpAny_pyNext_list_item st p.isList (x:=u) (by simpa using hu) λh' st' sb=>?_;have I1:Inv X zt σ H { s with heap:=h' }:=I.turned (t':=s.toks) (λb o hb e=>(sb.2 b hb).trans e) f0 f1 f3 f4 f5;obtain ⟨o,e,c,d⟩:=id st';exact ⟨u,rfl,vf (s:={ s with heap:=h' }) e c d (by decide) ⟨x,H,I1,ru,⟨rfl,λys hy=>by rw[I.rR hy hq];exact hx⟩,st',λb hb=>(hf b hb).1⟩⟩
 done:=by intro X hP hw hK hc i zt s σ H E I hf st hg;subst hP hw hK;obtain ⟨xs,hq,hx⟩:=hg;obtain ⟨its,rv,p,hz⟩:=I.list hq;obtain ⟨f0,f1,f2,f3,f4,f5⟩:=hf it (by simp);have hl:=rv.length;exact wpAny_pyNext_list_end (I.ok.hd hc) st p.isList (by simp;lia) λh' eb=>⟨rfl,I.turned (t':=s.toks) (λb o hb e=>eb b o hb e) f0 f1 f3 f4 f5⟩
 self:=λ_ _ _ _ _ st h=>wpAny_pyIter_listiter st h
theorem tY {P:Qg}{w:QA}{K:PP}{tg:SK} (a it:P4):Turn P w K tg (Itt K a) [it] it (λi h=>h.IsTupleIter it a i) where
 mem:=by simp
 obj:=λi h st b hb=>by
  have e:b=it:=by simpa using hb
  subst e;obtain ⟨o,e,c,d⟩:=st;exact ⟨o,e,λv z=>by rw[d] at z;cases z⟩
 keep:=λi h h' st k=>st.at λo e=>k it (by simp) o e
 item:=by intro X hP hw hK hc i zt s σ H E I hf st hg;subst hP hw hK;obtain ⟨xs,x,hq,hx⟩:=hg;obtain ⟨its,rv,p,hz⟩:=I.tuple hq;obtain ⟨u,hu,ru⟩:=rv.get hx;obtain ⟨f0,f1,f2,f3,f4,f5⟩:=hf it (by simp);refine wpAny_pyNext_tuple_item st (show s.heap.IsTuple a its.toArray from p) (x:=u) (by simpa using hu) λh' st' sb=>?_;have I1:Inv X zt σ H { s with heap:=h' }:=I.turned (t':=s.toks) (λb o hb e=>(sb.2 b hb).trans e) f0 f1 f3 f4 f5;obtain ⟨o,e,c,d⟩:=id st';exact ⟨u,rfl,vf (s:={ s with heap:=h' }) e c d (by decide) ⟨x,H,I1,ru,⟨rfl,λys hy=>by rw[I.w5 hy hq];exact hx⟩,st',λb hb=>(hf b hb).1⟩⟩
 done:=by intro X hP hw hK hc i zt s σ H E I hf st hg;subst hP hw hK;obtain ⟨xs,hq,hx⟩:=hg;obtain ⟨its,rv,p,hz⟩:=I.tuple hq;obtain ⟨f0,f1,f2,f3,f4,f5⟩:=hf it (by simp);have hl:=rv.length;exact wpAny_pyNext_tuple_end (I.ok.hd hc) st (show s.heap.IsTuple a its.toArray from p) (by simp;lia) λh' eb=>⟨rfl,I.turned (t':=s.toks) (λb o hb e=>eb b o hb e) f0 f1 f3 f4 f5⟩
 self:=λ_ _ _ _ _ st h=>wpAny_pyIter_tupleiter st h
theorem tZ {P:Qg}{w:QA}{K:PP}{tg:SK} (it:P4) (lo:Int) (n:Nat):Turn P w K tg (Itr lo n) [it] it (λi h=>IsRangeIter h it (lo+(i:Nat)*1) ((n:Int) - (i:Nat)) 1) where
 mem:=by simp
 obj:=λi h st b hb=>by
  have e:b=it:=by simpa using hb
  subst e;exact ⟨_,st,λv z=>by have z':Data.fields _=Data.cell v:=z;cases z'⟩
 keep:=λi h h' st k=>k it (by simp) _ st
 item:=by intro X hP hw hK hc i zt s σ H E I hf st hg;subst hP hw hK;obtain ⟨f0,f1,f2,f3,f4,f5⟩:=hf it (by simp);have W:=Walks.range (prog:=X.prog) (w:=X.w) (I.ok.hd hc) it lo 1 n;refine W.item i s _ _ hg st λv h' tk hv st' kk=>?_;obtain ⟨t,rfl⟩:=hv;have I1:Inv X zt σ H { s with heap:=h',toks:=tk }:=I.turned (λb o hb e=>kk b o (by simpa using hb) e) f0 f1 f3 f4 f5;refine ⟨_,rfl,vf (s:={ s with heap:=h',toks:=tk }) (n:="range_iterator") st' rfl rfl (by decide) ⟨.int (lo+i),H,I1,⟨t,?_⟩,⟨rfl,rfl⟩,st',λb hb=>(hf b hb).1⟩⟩;rw[Int.mul_one]
 done:=by intro X hP hw hK hc i zt s σ H E I hf st hg;subst hP hw hK;obtain ⟨f0,f1,f2,f3,f4,f5⟩:=hf it (by simp);exact wpAny_pyNext_range_end (I.ok.hd hc) st (by have:n<=i:=hg;lia) λh' eb=>⟨rfl,I.turned (t':=s.toks) (λb o hb e=>eb b o hb e) f0 f1 f3 f4 f5⟩
 self:=λ_ _ _ _ _ st h=>wpAny_pyIter_rangeiter st h
end L2
namespace L2
open PySem PySem.Spec PyProof.Rows
section
variable {X:Cx}{tg:SK}
def JJ (K:PP) (tl:TE):TI:=fun σ H R=>tl σ H λx H1=>∃ a,x=.ref a/\(∃ xs,SqL K H1 a xs)/\R (Itl K a) H1
def M7 (K:PP) (tl:TE):TI:=fun σ H R=>tl σ H λx H1=>∃ a,x=.ref a/\(∃ xs,SqT K H1 a xs)/\R (Itt K a) H1
theorem vg {l:SK}{tl:TE} (hl:PE X l tl):PI X tg l (JJ X.K tl):=by
 intro zt s σ H R I h;refine thn (hl zt s σ H _ I h) λv s1 zq=>?_;obtain ⟨x,H1,I1,r1,q1⟩:=zq;obtain ⟨a,e,⟨xs,hq⟩,q⟩:=q1;subst e;cases r1;obtain ⟨its,rv,p,hz⟩:=I1.list hq;refine wpAny_pyIter_list p.isList ?_;refine ⟨s1.heap.objs.size,[s1.heap.objs.size],_,_,H1,rfl,I1.kept (t':=s1.toks) λb o e=>PU _ e,w6 a _,⟨_,Qf _ rfl,rfl,rfl⟩,λb hb=>?_,q⟩;have e:b=s1.heap.objs.size:=by simpa using hb
 subst e;exact I1.Cg (P6 _) (I1.hok.fresh (P6 _))
theorem FP {l:SK}{tl:TE} (hl:PE X l tl):PI X tg l (M7 X.K tl):=by
 intro zt s σ H R I h;refine thn (hl zt s σ H _ I h) λv s1 zq=>?_;obtain ⟨x,H1,I1,r1,q1⟩:=zq;obtain ⟨a,e,⟨xs,hq⟩,q⟩:=q1;subst e;cases r1;obtain ⟨its,rv,p,hz⟩:=I1.tuple hq;refine UC (show s1.heap.IsTuple a its.toArray from p) ?_;refine ⟨s1.heap.objs.size,[s1.heap.objs.size],_,_,H1,rfl,I1.kept (t':=s1.toks) λb o e=>PU _ e,tY a _,⟨_,Qf _ rfl,rfl,rfl⟩,λb hb=>?_,q⟩;have e:b=s1.heap.objs.size:=by simpa using hb
 subst e;exact I1.Cg (P6 _) (I1.hok.fresh (P6 _))
theorem rT {zt:List (P4×av)}{σ:St}{H:Hp}{s:PX}{R:It->Hp->Prop}{E:aC->PX->Prop}{lo hi:Int}{t u v:Tok}{tk:Nat} (I:Inv X zt σ H s) (h1:-(2 ^ 62)<=lo) (h2:lo < 2 ^ 62) (h3:-(2 ^ 62)<=hi) (h4:hi < 2 ^ 62)
 (q:R (Itr lo (hi - lo).toNat) H):aA (Qq X.prog X.w) X.A (pyIter (.ref s.heap.objs.size)) (PIE X zt σ tg R) E { s with heap:=s.heap.push { cls:=.type "range",data:=.fields #[.int lo t,.int hi u,.int 1 v] },toks:=tk }:=by
 refine wpAny_pyIter_range (IsRange.new ..) (small_one h1 h2 h3 h4) ?_;have I1:Inv X zt σ H { s with heap:=s.heap.push { cls:=.type "range",data:=.fields #[.int lo t,.int hi u,.int 1 v] },toks:=tk }:=I.kept λb o e=>PU _ e;refine ⟨(s.heap.push { cls:=.type "range",data:=.fields #[.int lo t,.int hi u,.int 1 v] }).objs.size,[(s.heap.push { cls:=.type "range",data:=.fields #[.int lo t,.int hi u,.int 1 v] }).objs.size],_,_,H,rfl,
  I1.kept (t':=tk) λb o e=>PU _ e,tZ _ lo (hi - lo).toNat,?_,λb hb=>?_,q⟩
 ·have e1:lo+((0:Nat):Int)*1=lo:=by simp
  have e2:(((hi - lo).toNat:Nat):Int) - ((0:Nat):Int)=Builtin.Range.rangeSize lo hi 1:=by rw[rangeSize_one];split<;>lia
  show IsRangeIter _ _ (lo+((0:Nat):Int)*1) ((((hi - lo).toNat:Nat):Int) - ((0:Nat):Int)) 1;rw[e1,e2];exact Qf _ rfl
 ·have e:b=(s.heap.push { cls:=.type "range",data:=.fields #[.int lo t,.int hi u,.int 1 v] }).objs.size:=by simpa using hb
  subst e;exact I1.Cg (P6 _) (I1.hok.fresh (P6 _))
def JK (ta:TA):TI:=fun σ H R=>ta σ H λvs H1=>∃ j:Int,vs=[.int j]/\-(2 ^ 62)<=j/\j < 2 ^ 62/\R (Itr 0 j.toNat) H1
def JL (ta:TA):TI:=fun σ H R=>ta σ H λvs H1=>∃ i j:Int,vs=[.int i,.int j]/\(-(2 ^ 62)<=i/\i < 2 ^ 62/\-(2 ^ 62)<=j/\j < 2 ^ 62)/\R (Itr i (j - i).toNat) H1
theorem w9 {a:SK}{ta:TA}{p pos:Pos} (hg:Gl X "range") (hm:X.mg "range"=af) (ha:PA X [a] ta) (hs:QC [a] X.env=[(ai,eval a X.env)]:=by rfl):PI X tg (.Call (.Name "range" p) [a] [] pos) (JK ta):=by
 intro zt s σ H R I h;refine Call_ (jo I hg hm boot_range (QT (thn (ha pos zt s σ H _ I h) λus s1 ⟨vs,H1,I1,r1,q1⟩=>?_) hs rfl));obtain ⟨j,e,q1,q2,q⟩:=q1;subst e;cases r1 with
 | cons r rr =>
  cases rr;obtain ⟨t,rfl⟩:=r;exact call_range_1 (rT I1 (by lia) (by lia) q1 q2 (by simpa using q))
theorem xg {a b:SK}{ta:TA}{p pos:Pos} (hg:Gl X "range") (hm:X.mg "range"=af) (ha:PA X [a,b] ta) (hs:QC [a,b] X.env=[(ai,eval a X.env),(ai,eval b X.env)]:=by rfl) (hs2:QC [b] X.env=[(ai,eval b X.env)]:=by rfl) :
 PI X tg (.Call (.Name "range" p) [a,b] [] pos) (JL ta):=by
 intro zt s σ H R I h;refine Call_ (jo I hg hm boot_range (QT (thn (ha pos zt s σ H _ I h) λus s1 ⟨vs,H1,I1,r1,q1⟩=>?_) (by rw[hs,hs2]) (by rw[hs2];rfl)));obtain ⟨i,j,e,⟨q1,q2,q3,q4⟩,q⟩:=q1;subst e;cases r1 with
 | cons r rr =>
  cases rr with
  | cons r' rr =>
   cases rr;obtain ⟨t,rfl⟩:=r;obtain ⟨t',rfl⟩:=r';exact call_range_2 (rT I1 q1 q2 q3 q4 q)
def JM (wi:TI) (g:TG) (tb:TS):TS:=λD σ H=>wi σ H λJ H1=>∃ W:Nat->Nat->St->Hp->Prop,(∃ m,W 0 m σ H1)/\∀ i m σ H,W i m σ H →
 (J.stop i H/\D.nx σ H)\/(J.go i H/\∃ N:St->Hp->Prop,(∀ σ' H',N σ' H'->∃ m',m' < m/\W (i+1) m' σ' H')/\∀ x H',J.yld i H x H'->g x σ H' fun σ2 H2=>tb { D with nx:=N,ct:=N,bk:=D.nx } σ2 H2)
noncomputable def lB (fp:List P4) (h:ay):List (P4×av):=fp.filterMap λb=>(h.get? b).map λo=>(b,o)
theorem iT {fp:List P4}{h:ay}{b:P4}{o:av} (hb:b∈fp) (e:h.get? b=aa o):(b,o)∈lB fp h:=List.mem_filterMap.mpr ⟨b,hb,by rw[e];rfl⟩
theorem xh {fp:List P4}{h:ay}{p:P4×av} (hp:p∈lB fp h):p.1∈fp/\h.get? p.1=aa p.2:=by
 obtain ⟨b,hb,e⟩:=List.mem_filterMap.mp hp;cases q:h.get? b with
 | none=>rw[q] at e;cases e
 | some o =>
  rw[q] at e;have e':(b,o)=p:=P5 e;subst e';exact ⟨hb,q⟩
theorem Inv.pinned {zt:List (P4×av)}{σ:St}{H:Hp}{s:PX}{fp:List P4} (I:Inv X zt σ H s) (hf:∀ b∈fp,oK X zt H b) (ho:∀ b∈fp,∃ o,s.heap.get? b=aa o/\∀ v,o.data≠.cell v):Inv X (zt++lB fp s.heap) σ H s :=
 I.mF λp hp=>(List.mem_append.mp hp).elim (λz=>I.pin p (QH _ z)) λz=>by obtain ⟨hb,e⟩:=xh z;obtain ⟨f0,f1,f2,_⟩:=hf p.1 hb;obtain ⟨o,e',d⟩:=ho p.1 hb;rw[e] at e';cases e';exact ⟨e,f0,f1,f2,d⟩
theorem Inv.kG {zt pl:List (P4×av)}{σ:St}{H:Hp}{s:PX} (I:Inv X (zt++pl) σ H s):Inv X zt σ H s:=I.mF λp hp=>I.pin p (QH _ (SJ _ hp))
theorem FQ {iter:SK}{body:List Us}{wi:TI}{g:TG}{tb:TS}{pos:Pos} (hp:PassesOwn (Qq X.prog X.w) X.A X.env X.xe) (hc:X.calm=ah) (hi:PI X tg iter wi) (hg:PG X tg g) (hb:PSs X body tb)
 (hs:∀ x,foldedSetIterable iter X.env x=pure x:=by intro _;rfl):PS X (.For tg iter body [] pos) (JM wi g tb):=by
 intro zt s σ H D I h;refine wpAny_For (thn (hi zt s σ H _ I h) λv s1 h1=>thn h1 λitv s2 h2=>?_) hs;obtain ⟨it,fp,tn,J,H2,e,I2,T,st2,f2,W,⟨m0,w0⟩,turn⟩:=h2;subst e;have stat:∀ {H':Hp},(∀ b∈fp,H' b=af)->∀ b∈fp,oK X zt H' b:=λhn b hb=>⟨hn b hb,(f2 b hb).2⟩;refine codeAny_forLoop_any (λn s'=>∃ i σ' H',Inv X zt σ' H' s'/\tn i s'.heap/\(∀ b∈fp,H' b=af)/\W i n σ' H') ?_ m0 ⟨0,σ,H2,I2,st2,λb hb=>(f2 b hb).1,w0⟩
 rintro n s3 ⟨i,σ3,H3,I3,st3,fr3,w3⟩
 rcases turn i n σ3 H3 w3 with ⟨stop,qn⟩|⟨go,N,hN,step⟩
 ·refine RY hp (thn (T.done X rfl rfl rfl hc i zt s3 σ3 H3 X.xe I3 (stat fr3) st3 stop) λr s4 zq=>?_);obtain ⟨hr,I4⟩:=zq;subst hr;exact T8 ⟨σ3,H3,I4,qn⟩
 ·refine RY hp (thn (T.item X rfl rfl rfl hc i zt s3 σ3 H3 X.xe I3 (stat fr3) st3 go) λr s4 zq=>?_);obtain ⟨u,hr,h4⟩:=zq;subst hr;refine RY hp (thn h4 λ_ s5 zq=>?_);obtain ⟨x,H5,I5,r5,y5,st5,fr5⟩:=zq;have I5':=I5.pinned (stat fr5) (T.obj _ _ st5);refine RY hp (thn (hg _ s5 σ3 H5 x u _ I5' r5 (step x H5 y5)) λ_ s6 zq=>?_);obtain ⟨σ6,H6,I6,q6⟩:=zq;refine RY hp (thn (hb _ s6 σ6 H6 _ I6 q6) λf s7 q7=>?_);have again:∀ {σ7:St}{H7:Hp},Inv X (zt++lB fp s5.heap) σ7 H7 s7->N σ7 H7->∃ m,m < n/\∃ i σ' H',Inv X zt σ' H' s7/\tn i s7.heap/\(∀ b∈fp,H' b=af)/\W i m σ' H':=λ{σ7 H7} I7 n7=>by obtain ⟨m',hm,w7⟩:=hN σ7 H7 n7;refine ⟨m',hm,i+1,σ7,H7,I7.kG,T.keep _ _ _ st5 λb hb o e=>(I7.pin (b,o) (QH _ (QH _ (iT hb e)))).1,λb hb=>?_,w7⟩;obtain ⟨o,e,d⟩:=T.obj _ _ st5 b hb;exact (I7.pin (b,o) (QH _ (QH _ (iT hb e)))).2.1
  cases f with
  | brk=>obtain ⟨σ7,H7,I7,q7⟩:=q7;exact ⟨σ7,H7,I7.kG,q7⟩| ret v=>obtain ⟨x7,σ7,H7,I7,r7,q7⟩:=q7;exact ⟨x7,σ7,H7,I7.kG,r7,q7⟩| _=>obtain ⟨σ7,H7,I7,n7⟩:=q7;exact again I7 n7
end
end L2
namespace L2
open PySem PySem.Spec PyProof.Rows
abbrev R2:=V->V->Hp->VK->Prop
def OpR (X:Cx) (f:aC->aC->Sem aC) (r:R2):Prop :=
 ∀ (zt:List (P4×av)) (s:PX) (σ:St) (H:Hp) (x y:V) (v u:aC) (Q:VK),Inv X zt σ H s->RelV x v->RelV y u->r x y H Q →
  aA (Qq X.prog X.w) X.A (f v u) (EP X zt σ Q) X.xe s
def UnR (X:Cx) (f:aC->Sem aC) (r:V->Hp->VK->Prop):Prop :=
 ∀ (zt:List (P4×av)) (s:PX) (σ:St) (H:Hp) (x:V) (v:aC) (Q:VK),Inv X zt σ H s->RelV x v->r x H Q →
  aA (Qq X.prog X.w) X.A (f v) (EP X zt σ Q) X.xe s
def gj (X:Cx) (f:aC) (r:List V->Hp->VK->Prop):Prop :=
 ∀ (zt:List (P4×av)) (s:PX) (σ:St) (H:Hp) (xs:List V) (us:List aC) (Q:VK),Inv X zt σ H s->dw xs us->r xs H Q →
  aA (Qq X.prog X.w) X.A (call f us) (EP X zt σ Q) X.xe s
def tOp (r:R2) (ta tb:TE):TE:=fun σ H Q=>ta σ H λx H1=>tb σ H1 λy H2=>r x y H2 Q
def tUn (r:V->Hp->VK->Prop) (ta:TE):TE:=fun σ H Q=>ta σ H λx H1=>r x H1 Q
def rI (C:Int->Int->Prop) (g:Int->Int->V):R2:=λx y H Q=>∃ i j,x=.int i/\y=.int j/\C i j/\Q (g i j) H
def rI0 (g:Int->Int->V):R2:=λx y H Q=>∃ i j,x=.int i/\y=.int j/\Q (g i j) H
def rU (g:Int->V):V->Hp->VK->Prop:=λx H Q=>∃ i,x=.int i/\Q (g i) H
section
variable {X:Cx}{a b c:SK}{ta tb tc:TE}{pos:Pos}
theorem FU (ha:PE X a ta) (hb:PE X b tb) {zt:List (P4×av)}{s:PX}{σ:St}{H:Hp}{R:V->V->Hp->Prop} (I:Inv X zt σ H s)
 (h:ta σ H λx H1=>tb σ H1 λy H2=>R x y H2) {Q:aC->PX->Prop}{f:aC->aC->Sem aC}
 (hf:∀ v u s2 x y H2,Inv X zt σ H2 s2->RelV x v->RelV y u->R x y H2->aA (Qq X.prog X.w) X.A (f v u) Q X.xe s2) :
 aA (Qq X.prog X.w) X.A (eval a X.env) (λv s₁=>aA (Qq X.prog X.w) X.A (eval b X.env) (λu s₂=>aA (Qq X.prog X.w) X.A (f v u) Q X.xe s₂) X.xe s₁) X.xe s:=by
 refine thn (ha zt s σ H _ I h) λv s1 zq=>?_;obtain ⟨x,H1,I1,r1,q1⟩:=zq;refine thn (hb zt s1 σ H1 _ I1 q1) λu s2 zq=>?_;obtain ⟨y,H2,I2,r2,q2⟩:=zq;exact hf v u s2 x y H2 I2 r1 r2 q2
theorem JN {op:Tc}{r:R2} (ho:OpR X (Rv op) r) (ha:PE X a ta) (hb:PE X b tb):PE X (.BinOp a op b pos) (tOp r ta tb):=by intro zt s σ H Q I h;exact wpAny_BinOp (FU ha hb I h λv u s2 x y H2 I2 rx ry q=>ho zt s2 σ H2 x y v u Q I2 rx ry q)
theorem EY {op:UnaryOp}{r:V->Hp->VK->Prop} (ho:UnR X (unaryOp op) r) (ha:PE X a ta):PE X (.UnaryOp op a pos) (tUn r ta):=by intro zt s σ H Q I h;exact UnaryOp_ (thn (ha zt s σ H _ I h) λv s1 ⟨x,H1,I1,r1,q1⟩=>ho zt s1 σ H1 x v Q I1 r1 q1)
theorem opI {f:aC->aC->Sem aC}{C:Int->Int->Prop}{g:Int->Int->Int}
 (rule:∀ (i j:Int) (t u:Tok) (s:PX) (Q:aC->PX->Prop) (E:aC->PX->Prop),C i j->Q (.int (g i j) s.toks) { s with toks:=s.toks+1 }->aA (Qq X.prog X.w) X.A (f (.int i t) (.int j u)) Q E s) :
 OpR X f (rI C λi j=>.int (g i j)):=by
 intro zt s σ H x y v u Q I rx ry h;obtain ⟨i,j,rfl,rfl,hc,q⟩:=h;obtain ⟨t,rfl⟩:=rx;obtain ⟨t',rfl⟩:=ry;exact rule i j t t' s _ _ hc ⟨.int (g i j),H,I.tok _,⟨_,rfl⟩,q⟩
theorem JO {f:aC->aC->Sem aC}{g:Int->Int->Int}
 (rule:∀ (i j:Int) (t u:Tok) (s:PX) (Q:aC->PX->Prop) (E:aC->PX->Prop),Q (.int (g i j) s.toks) { s with toks:=s.toks+1 }->aA (Qq X.prog X.w) X.A (f (.int i t) (.int j u)) Q E s) :
 OpR X f (rI0 λi j=>.int (g i j)):=by
 intro zt s σ H x y v u Q I rx ry h;obtain ⟨i,j,rfl,rfl,q⟩:=h;obtain ⟨t,rfl⟩:=rx;obtain ⟨t',rfl⟩:=ry;exact rule i j t t' s _ _ ⟨.int (g i j),H,I.tok _,⟨_,rfl⟩,q⟩
theorem Ci {f:aC->aC->Sem aC}{g:Int->Int->Bool}
 (rule:∀ (i j:Int) (t u:Tok) (s:PX) (Q:aC->PX->Prop) (E:aC->PX->Prop),Q (.bool (g i j)) s->aA (Qq X.prog X.w) X.A (f (.int i t) (.int j u)) Q E s) :
 OpR X f (rI0 λi j=>.bl (g i j)):=by
 intro zt s σ H x y v u Q I rx ry h;obtain ⟨i,j,rfl,rfl,q⟩:=h;obtain ⟨t,rfl⟩:=rx;obtain ⟨t',rfl⟩:=ry;exact rule i j t t' s _ _ ⟨.bl (g i j),H,I,rfl,q⟩
def M8 (i j:Int):Prop:=0 < j/\j < 1073741824
def Cj (i j:Int):Prop:=(-(2 ^ 64) < i/\i < 2 ^ 64)\/(-(2 ^ 64) < j/\j < 2 ^ 64)
theorem Cj.ok {i j:Int} (h:Cj i j):IntMulOk i j:=by
 rcases h with ⟨h1,h2⟩|⟨h1,h2⟩
 exact .of_left (intBits_le_64 h1 h2);exact .of_right (intBits_le_64 h1 h2)
theorem FW:OpR X (Rv .Add) (rI0 λi j=>.int (i+j)):=JO λ_ _ _ _ _ _ _ q=>add_int q
theorem FY:OpR X (Rv .Sub) (rI0 λi j=>.int (i - j)):=JO λ_ _ _ _ _ _ _ q=>sub_int q
theorem FZ:OpR X (Rv .Mult) (rI Cj λi j=>.int (i*j)):=opI λ_ _ _ _ _ _ _ hc q=>mul_int q hc.ok
theorem Ck:OpR X (Rv .FloorDiv) (rI M8 λi j=>.int (i / j)):=opI λi j _ _ _ _ _ hc q=>by have h1:(0:Int) < j:=hc.1;have h2:j < 1073741824:=hc.2;exact floordiv_int (by lia) (by rw[Int.fdiv_eq_ediv_of_nonneg i (by lia)];exact q) (.inl (PyProof.noPylong_small (by lia)))
theorem F0:OpR X (Rv .Mod) (rI (λ_ j=>0 < j) λi j=>.int (i % j)):=opI λi j _ _ _ _ _ hc q=>by have h1:(0:Int) < j:=hc;exact mod_int' (by lia) (by rw[Int.fmod_eq_emod_of_nonneg i (by lia)];exact q)
theorem unI {f:aC->Sem aC}{g:Int->Int}
 (rule:∀ (i:Int) (t:Tok) (s:PX) (Q:aC->PX->Prop) (E:aC->PX->Prop),Q (.int (g i) s.toks) { s with toks:=s.toks+1 }->aA (Qq X.prog X.w) X.A (f (.int i t)) Q E s) :
 UnR X f (rU λi=>.int (g i)):=by
 intro zt s σ H x v Q I rx h;obtain ⟨i,rfl,q⟩:=h;obtain ⟨t,rfl⟩:=rx;exact rule i t s _ _ ⟨.int (g i),H,I.tok _,⟨_,rfl⟩,q⟩
theorem yL:UnR X (unaryOp .USub) (rU λi=>.int (-i)):=unI λ_ _ _ _ _ q=>neg_int q
end
section
variable {X:Cx}{a b c:SK}{ta tb tc:TE}{pos:Pos}
theorem yM {zt:List (P4×av)}{σ:St}{H:Hp}{s:PX}{Q:VK}{k k':Bool} (I:Inv X zt σ H s) (q:Q (.bl k) H) (e:k=k'):EP X zt σ Q (.bool k') s:=by subst e;exact ⟨.bl k,H,I,rfl,q⟩
theorem JP:OpR X (QZ .Lt) (rI0 λi j=>.bl (decide (i < j))):=Ci λ_ _ _ _ _ _ _ q=>lt_int q
theorem JQ:OpR X (QZ .LtE) (rI0 λi j=>.bl (decide (i<=j))):=Ci λ_ _ _ _ _ _ _ q=>le_int q
theorem JR:OpR X (QZ .Gt) (rI0 λi j=>.bl (decide (j < i))):=Ci λ_ _ _ _ _ _ _ q=>gt_int q
theorem JS:OpR X (QZ .GtE) (rI0 λi j=>.bl (decide (j<=i))):=Ci λ_ _ _ _ _ _ _ q=>ge_int q
theorem F2:OpR X (QZ .Is) (λx y H Q=>y=.non/\Q (.bl (decide (x=.non))) H):=by
 intro zt s σ H x y v u Q I rx ry h;obtain ⟨rfl,q⟩:=h;cases ry;refine is_none_gen (yM I q ?_);cases x<;>first
  | (cases rx;rfl)
  | (obtain ⟨t,rfl⟩:=rx;rfl)
theorem Cn:OpR X (QZ .IsNot) (λx y H Q=>y=.non/\Q (.bl (!decide (x=.non))) H):=by
 intro zt s σ H x y v u Q I rx ry h;obtain ⟨rfl,q⟩:=h;cases ry;refine isnot_none_gen (yM I q ?_);cases x<;>first
  | (cases rx;rfl)
  | (obtain ⟨t,rfl⟩:=rx;rfl)
theorem Co {op:CmpOp}{r:R2} (ho:OpR X (QZ op) r) (ha:PE X a ta) (hb:PE X b tb) (hm:V2 op b=ai):PE X (.Compare a [op] [b] pos) (tOp r ta tb):=by intro zt s σ H Q I h;exact wpAny_Compare1 (FU ha hb I h λv u s2 x y H2 I2 rx ry q=>ho zt s2 σ H2 x y v u Q I2 rx ry q) hm
def yN (t:TE):TT:=fun σ H Q=>t σ H λx H'=>∃ k,x=.bl k/\Q k H'
theorem Cq {op:CmpOp}{r:R2} (ho:OpR X (QZ op) r) (ha:PE X a ta) (hb:PE X b tb) (hm:V2 op b=ai):PT X (.Compare a [op] [b] pos) (yN (tOp r ta tb)):=by
 intro zt s σ H Q I h;refine wpAny_isTrue_Compare1 (thn (ha zt s σ H _ I h) λv s1 ⟨x,H1,I1,r1,q1⟩=>thn (hb zt s1 σ H1 _ I1 q1) λu s2 ⟨y,H2,I2,r2,q2⟩ =>
  thn (ho zt s2 σ H2 x y v u _ I2 r1 r2 q2) λc s3 ⟨z,H3,I3,r3,k,e,q3⟩=>?_) hm
 subst e;cases r3;exact Rh ⟨H3,I3,q3⟩
def ua (r r':R2) (ta tb tc:TE):TE:=fun σ H Q=>ta σ H λx H1=>tb σ H1 λy H2=>r x y H2 λz H3=>∃ k,z=.bl k ∧
 (if k=ah then tc σ H3 λw' H4=>r' y w' H4 Q else Q (.bl ai) H3)
theorem yO {op op':CmpOp}{r r':R2} (ho:OpR X (QZ op) r) (ho':OpR X (QZ op') r') (ha:PE X a ta) (hb:PE X b tb) (hc:PE X c tc)
 (hm:lastMarks [op,op'] [b,c]=ai:=by with_unfolding_all rfl):PE X (.Compare a [op,op'] [b,c] pos) (ua r r' ta tb tc):=by
 intro zt s σ H Q I h;refine Compare_chain (thn (ha zt s σ H _ I h) λv s1 ⟨x,H1,I1,r1,q1⟩=>chain_link (thn (hb zt s1 σ H1 _ I1 q1) λu s2 ⟨y,H2,I2,r2,q2⟩ =>
  thn (ho zt s2 σ H2 x y v u _ I2 r1 r2 q2) λd s3 ⟨z,H3,I3,r3,k,e,q3⟩=>?_)) hm
 subst e;cases r3;refine Rh ?_;cases k with
 | false=>exact ite_ff ⟨.bl ai,H3,I3,rfl,q3⟩| true=>exact ite_tt (chain_last (thn (hc zt s3 σ H3 _ I3 q3) λw' s4 ⟨z',H4,I4,r4,q4⟩=>ho' zt s4 σ H4 y z' u w' Q I4 r2 r4 q4))
theorem yP {op op':CmpOp}{r r':R2} (ho:OpR X (QZ op) r) (ho':OpR X (QZ op') r') (ha:PE X a ta) (hb:PE X b tb) (hc:PE X c tc)
 (hm:lastMarks [op,op'] [b,c]=ai:=by with_unfolding_all rfl):PT X (.Compare a [op,op'] [b,c] pos) (yN (ua r r' ta tb tc)):=by
 intro zt s σ H Q I h;refine isTrue_chain (thn (ha zt s σ H _ I h) λv s1 ⟨x,H1,I1,r1,q1⟩=>test_link (thn (hb zt s1 σ H1 _ I1 q1) λu s2 ⟨y,H2,I2,r2,q2⟩ =>
  thn (ho zt s2 σ H2 x y v u _ I2 r1 r2 q2) λd s3 ⟨z,H3,I3,r3,k,e,q3⟩=>?_)) hm
 subst e;cases r3;refine Rh ?_;cases k with
 | false =>
  obtain ⟨k',e',q'⟩:=q3;cases e';exact ite_ff ⟨H3,I3,q'⟩
 | true =>
  refine ite_tt (test_last (thn (hc zt s3 σ H3 _ I3 q3) λw' s4 ⟨z',H4,I4,r4,q4⟩=>thn (ho' zt s4 σ H4 y z' u w' _ I4 r2 r4 q4) λd' s5 zq=>?_));obtain ⟨z2,H5,I5,r5,k2,e2,q5⟩:=zq;subst e2;cases r5;exact Rh ⟨H5,I5,q5⟩
theorem lC:(ao:Nat) < 2 ^ 63:=by rw[sizeLine_eq];decide
theorem uc:OpR X (Rv .Add) (λx y H Q=>∃ i j,x=.str i/\y=.str j/\i.length+j.length<=ao/\Q (.str (i++j)) H):=by intro zt s σ H x y v u Q I rx ry h;obtain ⟨i,j,rfl,rfl,hz,q⟩:=h;obtain ⟨t,rfl⟩:=rx;obtain ⟨t',rfl⟩:=ry;exact add_str (λt' tk=>⟨.str (i++j),H,I.tok _,⟨_,rfl⟩,q⟩) hz
theorem vals1 {x:V}{us:List aC} (r:dw [x] us):∃ u,us=[u]/\RelV x u:=by
 cases r with
 | cons r1 r2=>cases r2;exact ⟨_,rfl,r1⟩
theorem vals2 {x y:V}{us:List aC} (r:dw [x,y] us):∃ u w',us=[u,w']/\RelV x u/\RelV y w':=by
 cases r with
 | cons r1 r2 =>
  cases r2 with
  | cons r3 r4=>cases r4;exact ⟨_,_,rfl,r1,r3⟩
theorem xj (hc:X.calm=ah):gj X (.builtin "max") (λxs H Q=>∃ i j,xs=[.int i,.int j]/\Q (.int (if j > i then j else i)) H):=by
 intro zt s σ H xs us Q I r h;obtain ⟨i,j,rfl,q⟩:=h;obtain ⟨u,w',rfl,⟨t,rfl⟩,⟨t',rfl⟩⟩:=vals2 r;refine max_two_ints (I.ok.hd hc) λh' tk k=>⟨_,H,I.kept k,?_,q⟩
 by_cases hj:j > i
 rw[if_pos hj,if_pos hj];exact ⟨_,rfl⟩;rw[if_neg hj,if_neg hj];exact ⟨_,rfl⟩
theorem pB:gj X (.type "int") (λxs H Q=>(∃ i,xs=[.int i]/\Q (.int i) H)\/∃ k,xs=[.bl k]/\Q (.int (if k then 1 else 0)) H):=by
 intro zt s σ H xs us Q I r h;rcases h with ⟨i,rfl,q⟩|⟨k,rfl,q⟩
 ·obtain ⟨u,rfl,t,rfl⟩:=vals1 r;exact call_int_int ⟨.int i,H,I,⟨_,rfl⟩,q⟩
 ·obtain ⟨u,rfl,r1⟩:=vals1 r;cases r1;exact call_int_bool ⟨.int (if k then 1 else 0),H,I.tok _,⟨_,rfl⟩,q⟩
end
end L2
namespace L2
open PySem PySem.Spec PyProof.Rows
structure ud (h:ay) (x dx C:P4) (mA:aB->Option aC):Prop where
 obj:h.get? x=aa (Rt C dx)
 ns:h.Ns1 dx mA
 ne:dx≠x
theorem xm {h:ay}{dx:P4}{mA:aB->Option aC} (n:h.Ns1 dx mA):∃ od,h.get? dx=aa od/\∀ name,TH name od=aa (mA name):=by
 obtain ⟨o,es,ep,ho,hd,hk,_,hm⟩:=n;refine ⟨o,ho,λname=>?_⟩;have e:=hm name;unfold nsFind findBy at e;rw[← Array.find?_toList] at e;unfold TH;rw[hd];dsimp only;split
 ·rename_i y q;rw[q] at e;exact congrArg aa e
 ·rename_i q;rw[q] at e;have a:es.toList.any (·.refKey)=ai:=by rw[List.any_eq_false];intro y hy;obtain ⟨z,t,hkey⟩:=hk y (Array.mem_toList_iff.mp hy);simp[DictEntry.refKey,hkey]
  have a':¬ es.toList.any (·.refKey)=ah:=by rw[a];exact QM
  rw[if_neg a'];exact congrArg aa e
theorem ud.look {h:ay}{x dx C:P4}{mA:aB->Option aC} (I:ud h x dx C mA):∃ od,PySem.W.InstAt h x (Rt C dx) C (aa od)/\∀ name,TH name od=aa (mA name) :=
 let ⟨od,ho,hl⟩:=xm I.ns
 ⟨od,⟨I.obj,rfl,rfl,ho⟩,hl⟩
section
variable {prog:Qg}{w:QA}{A:QO}{E:aC->PX->Prop}{s:PX}{K:PP}{x dx C f:P4}{mA:aB->Option aC}{name:aB}{v:aC}
theorem get_map {expr:Bool}{Q:aC->PX->Prop} (X:K.In s.heap) (I:ud s.heap x dx C mA) (hg:Sw K C name=ah) (hh:RN K C=ah)
 (ha:Qp K (.ref C) name=aa af) (hv:mA name=aa v) (hv':VN v=ah) (h:Q v { s with toks:=s.toks+1 }) :
 aA (Qq prog w) A (getAttr (.ref x) name expr) Q E s:=by
 obtain ⟨od,J,hl⟩:=I.look;exact PySem.W.get_value X J (TV hg).1 (PySem.W.findObj_own hh ha rfl (by rw[hl,hv])) hv' h
theorem yQ {pl:Sem Bool}{Q:aC×List aC->PX->Prop} (X:K.In s.heap) (I:ud s.heap x dx C mA) (hg:Sw K C name=ah)
 (hf:Qp K (.ref C) name=aa (aa (.ref f))) (ht:Tg K (.ref f)=ah) (hv:mA name=af) (h:Q (.ref f,[.ref x]) s) :
 aA (Qq prog w) A (Vm (.ref x) name pl) Q E s:=by
 obtain ⟨od,J,hl⟩:=I.look;exact PySem.W.method_fn X J (TV hg).1 (TV hg).2 hf (beq_iff_eq.mp ht) (by show (TH name od).map (·.isSome)=aa ai;rw[hl,hv];rfl) h
theorem Cr {ns:List aB}{Q:Unit->PX->Prop} (X:K.In s.heap) (I:ud s.heap x dx C mA)
 (hs:Qp K (.ref C) "__setattr__"=aa (aa (.builtin "object.__setattr__"))) (hp:Ue K C=ah) (ht:Ut K C name=aa af) (hh:RN K C=ah)
 (hw:Vp mA ns) (hsz:ns.length<=ao)
 (h:∀ h',ud h' x dx C (λy=>if y=name then aa v else mA y)->Si dx s.heap h'->Q () { s with heap:=h',toks:=s.toks+2 }) :
 aA (Qq prog w) A (setAttr (.ref x) name v) Q E s:=by
 obtain ⟨od,J,hl⟩:=I.look;refine PySem.W.set_plain X J hs (PySem.W.osa_open (s:={ s with toks:=s.toks+1 }) (r:=af) X J hp ht λb=>?_);obtain ⟨cd,hc,hd'⟩:=PySem.W.any_some hh;have hx:s.heap.get? x=aa ⟨.ref C,aa dx,.plain,#[]⟩:=I.obj;refine PR (az (PR (PR (wpAny_loadPart hx (PR (PySem.W.Looks.here (s:={ s with toks:=s.toks+1 }) (PySem.W.looks_clsIn X hc) ?_))))));rw[hd'];refine az (a:=aa dx) (PR (az (PR ?_)));refine wpAny_nsSet1 (s:={ s with toks:=s.toks+1 }) I.ns λh' hn2 hs2=>?_;obtain ⟨oD,esD,epD,hoD,hdD,hcD⟩:=hn2.count (PySem.Within.cons name v hw);refine PR (wpAny_lookBehind hoD (by rw[hdD];exact pastItsLine_dict (QD hcD (by rw[P9];lia))) ?_);exact az (h _ ⟨(hs2.2 _ (QW I.ne)).trans I.obj,hn2,I.ne⟩ hs2)
theorem yR {R:Result->PX->Prop}{vs:List aC}{kw:List (aB×aC)} (X:K.In s.heap) (hm:Uv K C=ah)
 (hi:Qp K (.ref C) "__init__"=aa (aa (.ref f))) (hf:PySem.W.typeIn K (.ref f)=aa (.type "function"))
 (h:au (Qq prog w) (A.under (.builtin "type.__call__" ⟨.ref C::vs,kw⟩)) (.call (.ref f) ⟨.ref (s.heap.objs.size+1)::vs,kw⟩) (PySem.W.InitBack (s.heap.objs.size+1) R)
  { s with heap:=(s.heap.push Q0).push (Rt C s.heap.objs.size) }) :
 au (Qq prog w) A (.call (.ref C) ⟨vs,kw⟩) R s:=by
 obtain ⟨hh,g,d,t,os⟩:=s;exact PySem.W.make_core (PySem.W.makes_of X hm) (PySem.W.looks_findIn X hi) (λself=>PySem.W.bind_fn X self hf) (.inl rfl) h
end
noncomputable def eH (f:aB) (v:V):List (aB×V)->List (aB×V)
 | []=>[(f,v)]
 | (g,x)::r=>if g=f then (g,v)::r else (g,x)::eH f v r
theorem lV (f g:aB) (v:V):∀ fs:List (aB×V),(eH f v fs).lookup g=if g=f then aa v else fs.lookup g
 | []=>by
  show Sb g [(f,v)]=_
  by_cases h:g=f
  ·have hb:(g==f)=ah:=beq_iff_eq.mpr h;simp only[Sb,hb,if_pos h]
  ·have hb:(g==f)=ai:=beq_eq_false_iff_ne.mpr h;simp only[Sb,hb,if_neg h]
 | (k,x)::r=>by
  have ih:=lV f g v r;rw[show eH f v ((k,x)::r)=(if k=f then (k,v)::r else (k,x)::eH f v r) from rfl]
  by_cases hk:k=f
  ·rw[if_pos hk]
   by_cases h:g=k
   ·have hb:(g==k)=ah:=beq_iff_eq.mpr h;simp only[Sb,hb,if_pos (h.trans hk)]
   ·have hb:(g==k)=ai:=beq_eq_false_iff_ne.mpr h;simp only[Sb,hb,if_neg (λe:g=f=>h (e.trans hk.symm))]
  ·rw[if_neg hk]
   by_cases h:g=k
   ·have hb:(g==k)=ah:=beq_iff_eq.mpr h;simp only[Sb,hb,if_neg (λe:g=f=>hk (h.symm.trans e))]
   ·have hb:(g==k)=ai:=beq_eq_false_iff_ne.mpr h;simp only[Sb,hb];exact ih
theorem lD (f:aB) (v:V):∀ fs:List (aB×V),f∈(eH f v fs).map (·.1)/\∀ g,g∈fs.map (·.1)->g∈(eH f v fs).map (·.1)
 | []=>⟨by simp[eH],λg h=>by simp at h⟩
 | (k,x)::r=>by
  obtain ⟨i1,i2⟩:=lD f v r;rw[show eH f v ((k,x)::r)=(if k=f then (k,v)::r else (k,x)::eH f v r) from rfl]
  by_cases hk:k=f
  ·rw[if_pos hk];subst hk;exact ⟨by simp,λg h=>by simpa using h⟩
  ·rw[if_neg hk];refine ⟨?_,λg h=>?_⟩
   ·rw[Qa];exact Qe _ i1
   ·rw[Qa] at h ⊢;rcases List.mem_cons.mp h with e|e
    exact List.mem_cons.mpr (.inl e);exact Qe _ (i2 g e)
theorem lW (f:aB) (v:V):∀ fs:List (aB×V),(eH f v fs).length<=fs.length+1
 | []=>by simp[eH]
 | (k,x)::r=>by
  have ih:=lW f v r;rw[show eH f v ((k,x)::r)=(if k=f then (k,v)::r else (k,x)::eH f v r) from rfl]
  by_cases hk:k=f
  rw[if_pos hk,P9,P9];lia;rw[if_neg hk,P9,P9];lia
theorem mT.some_of {v:V}{o:Option aC} (r:mT (aa v) o):∃ u,o=aa u/\RelV v u:=by
 cases o with
 | none=>exact (show False from r).elim| some u=>exact ⟨u,rfl,r⟩
theorem mT.none_of {o:Option aC} (r:mT af o):o=af:=by
 cases o with
 | none=>rfl| some u=>exact (show False from r).elim
theorem xo {v:V}{u:aC} (r:RelV v u):VN u=ah:=by
 cases v with
 | non=>cases (show u=RE from r);rfl| bl b=>cases (show u=SX b from r);rfl| int i=>obtain ⟨t,e⟩:=(show ∃ t,u=Ud i t from r);cases e;rfl| str x=>obtain ⟨t,e⟩:=(show ∃ t,u=Vo x t from r);cases e;rfl| byt b=>obtain ⟨t,e⟩:=(show ∃ t,u=Value.bytes b t from r);cases e;rfl| flt b=>obtain ⟨t,e⟩:=(show ∃ t,u=Value.float b t from r);cases e;rfl| ref a=>cases (show u=QF a from r);rfl| ty n=>cases (show u=Tz n from r);rfl
section
variable {P:Qg}{w:QA}{H H':Hp}{h h':ay}{a C dx:P4}{fs fs':List (aB×V)}
theorem qe (hok:HOk P w H h) (e:H a=aa (.ins C dx fs)):∃ mA,ud h a dx C mA/\(∀ f,mT (fs.lookup f) (mA f))/\Vp mA (fs.map (·.1))/\fs.length<=1000/\H dx=aa (.own a):=by obtain ⟨d,z,ne,ob,mA,n,r,q⟩:=(show gi P w H h a (.ins C dx fs) from hok a _ e);exact ⟨mA,⟨ob,n,ne⟩,r,q,z,d⟩
end
structure Cls (K:PP) (C:P4):Prop where
 pg:Sw K C Str.empty=ah
 hd:RN K C=ah
 po:Ue K C=ah
 sa:Qp K (.ref C) "__setattr__"=aa (aa (.builtin "object.__setattr__"))
theorem Cls.get {K:PP}{C:P4} (c:Cls K C) (f:aB):Sw K C f=ah:=c.pg
def jr (K:PP) (C:P4) (f:aB):Prop:=Qp K (.ref C) f=aa af
theorem jr.JT {K:PP}{C:P4}{f:aB} (n:jr K C f):Ut K C f=aa af:=by unfold Ut;rw[show Qp K (.ref C) f=aa af from n];rfl
structure yS (K:PP) (C:P4) (m:aB) (f:P4):Prop where
 at_:Qp K (.ref C) m=aa (aa (.ref f))
 fn:Tg K (.ref f)=ah
 kp:Q3 K (.ref f)=ah
section
variable {X:Cx}{zt:List (P4×av)}{σ:St}{H:Hp}{s:PX}{a C dx:P4}{fs:List (aB×V)}{f:aB}{v:V}{A:QO}{E:aC->PX->Prop}
theorem mV {b:Bool}{Q:aC->PX->Prop} (I:Inv X zt σ H s) (e:H a=aa (.ins C dx fs)) (c:Cls X.K C) (n:jr X.K C f) (l:fs.lookup f=aa v)
 (h:∀ u s',Inv X zt σ H s'->RelV v u->Q u s'):aA (Qq X.prog X.w) A (getAttr (.ref a) f b) Q E s:=by
 obtain ⟨mA,O,r,_,_,_⟩:=qe I.hok e;obtain ⟨u,hu,ru⟩:=mT.some_of (v:=v) (o:=mA f) (by rw[← l];exact r f);exact get_map I.kIn O (c.get f) c.hd n hu (xo ru) (h u _ (I.tok _) ru)
theorem mW {m:aB}{g:P4}{pl:Sem Bool}{Q:aC×List aC->PX->Prop} (I:Inv X zt σ H s) (e:H a=aa (.ins C dx fs)) (c:Cls X.K C) (k:yS X.K C m g) (l:fs.lookup m=af)
 (h:Q (.ref g,[.ref a]) s):aA (Qq X.prog X.w) A (Vm (.ref a) m pl) Q E s:=by
 obtain ⟨mA,O,r,_,_,_⟩:=qe I.hok e;have hn:mA m=af:=mT.none_of (by rw[← l];exact r m);exact yQ I.kIn O (c.get m) k.at_ k.fn hn h
theorem mX {y:V}{u:aC}{Q:Unit->PX->Prop} (I:Inv X zt σ H s) (e:H a=aa (.ins C dx fs)) (c:Cls X.K C) (n:jr X.K C f) (hl:fs.length < 1000) (ry:RelV y u)
 (h:∀ s',Inv X zt σ (upd H a (.ins C dx (eH f y fs))) s'->Q () s'):aA (Qq X.prog X.w) A (setAttr (.ref a) f u) Q E s:=by
 obtain ⟨mA,O,r,wi,_,ho⟩:=qe I.hok e;have hz:(fs.map (·.1)).length<=ao:=by rw[Qt,sizeLine_eq];lia
 refine Cr I.kIn O c.sa c.po n.JT c.hd wi hz λh' O' sb=>h _ ?_;have hd:∃ o,h'.get? dx=aa o:=let ⟨o,_,_,e',_⟩:=O'.ns;⟨o,e'⟩;refine I.write (x:=a) (e:=dx) (by rw[e];exact Sd) (.inr ho) (λb q hb z=>(sb.2 b hb).trans z) hd ?_;refine ⟨by rw[dD O.ne];exact ho,?_,O.ne,O'.obj,_,O'.ns,λg=>?_,λg hg=>?_⟩;have:=lW f y fs;lia
 ·show mT ((eH f y fs).lookup g) (if g=f then aa u else mA g);rw[lV]
  by_cases q:g=f
  rw[if_pos q,if_pos q];exact ry;rw[if_neg q,if_neg q];exact r g
 ·by_cases q:g=f
  rw[q];exact (lD f y fs).1
  ·refine (lD f y fs).2 g (wi g λz=>hg ?_);show (if g=f then aa u else mA g)=af;rw[if_neg q];exact z
theorem Inv.made (I:Inv X zt σ H s):Inv X zt σ (upd (upd H s.heap.objs.size (.own (s.heap.objs.size+1))) (s.heap.objs.size+1) (.ins C s.heap.objs.size []))
 { s with heap:=(s.heap.push Q0).push (Rt C s.heap.objs.size) }:=by
 have e1:(s.heap.push Q0).get? s.heap.objs.size=aa Q0:=Qf s.heap rfl;have e2:((s.heap.push Q0).push (Rt C s.heap.objs.size)).get? (s.heap.objs.size+1)=aa (Rt C s.heap.objs.size):=by
  have:=Qf (s.heap.push Q0) (o:=Rt C s.heap.objs.size) rfl
  rwa [Q8] at this
 have e3:(s.heap.push Q0).Ns s.heap.objs.size (λ_=>af):=⟨Q0,#[],_,e1,rfl,(λe he=>absurd he (by simp)),λ_=>rfl⟩;have I1:=I.laid (a:=s.heap.objs.size) (o:=.own (s.heap.objs.size+1)) (h':=s.heap.push Q0) (t':=s.toks) (λb u q=>PU _ q) (P6 _) ⟨_,e1⟩;refine I1.laid (a:=s.heap.objs.size+1) (o:=.ins C s.heap.objs.size []) (t':=s.toks) (λb u q=>PU _ q) (Nat.le_of_eq (Q8 _ _)) ?_;have ne:s.heap.objs.size≠s.heap.objs.size+1:=Qu (RI _);refine ⟨by rw[dD ne,ef],RC _,ne,e2,λ_=>af,(Heap.Ns1.of_empty e3).at λo q=>PU _ q,λ_=>Sd,λy hy=>absurd rfl hy⟩
theorem Cs {prog:Qg}{w:QA}{env:Env}{e:SK}{f:aB}{pos:Pos}{s:PX}{Q:aC->PX->Prop} (hb:TU e f env (eval e env)=eval e env)
 (h:aA (Qq prog w) A (eval e env) (λo s₁=>aA (Qq prog w) A (getAttr o f ah) Q E s₁) E s):aA (Qq prog w) A (eval (.Attribute e f pos) env) Q E s :=
 Attribute_any_ h (by rw[arm_eval_Attribute,hb])
end
def M9 (K:PP) (ta:TE) (f:aB):TE:=fun σ H Q=>ta σ H λx H1=>∃ a C dx fs v,x=.ref a/\H1 a=aa (.ins C dx fs)/\Cls K C/\jr K C f/\fs.lookup f=aa v/\Q v H1
def JU (K:PP) (ta tv:TE) (f:aB):TS:=λD σ H=>tv σ H λy H1=>ta σ H1 λx H2=>∃ a C dx fs,x=.ref a/\H2 a=aa (.ins C dx fs)/\Cls K C/\jr K C f/\fs.length < 1000 ∧
 D.nx σ (upd H2 a (.ins C dx (eH f y fs)))
def Na (X:Cx) (op:Tc) (rd:V->V->Hp->VK->Prop):Prop :=
 ∀ (zt:List (P4×av)) (s:PX) (σ:St) (H:Hp) (x y:V) (u v:aC) (Q:VK),Inv X zt σ H s->RelV x u->RelV y v->rd x y H Q->aA (Qq X.prog X.w) X.A (inplaceOp op u v) (EP X zt σ Q) X.xe s
def vh (K:PP) (ta tv:TE) (rd:V->V->Hp->VK->Prop) (f:aB):TS:=λD σ H=>ta σ H λx H1=>∃ a C dx fs v,x=.ref a/\H1 a=aa (.ins C dx fs)/\Cls K C/\jr K C f/\fs.lookup f=aa v ∧
 tv σ H1 λy H2=>rd v y H2 λz H3=>∃ dx' fs',H3 a=aa (.ins C dx' fs')/\fs'.length < 1000/\D.nx σ (upd H3 a (.ins C dx' (eH f z fs')))
section
variable {X:Cx}{o e value:SK}{f:aB}{pos pos' tpos:Pos}{ta tv:TE}
theorem F3 (he:PE X e ta) (hb:TU e f X.env (eval e X.env)=eval e X.env):PE X (.Attribute e f pos) (M9 X.K ta f):=by intro zt s σ H Q I h;refine Cs hb (thn (he zt s σ H _ I h) λu s1 zq=>?_);obtain ⟨x,H1,I1,rx,a,C,dx,fs,v,ex,ea,c,n,l,q⟩:=zq;subst ex;obtain rfl:u=QF a:=rx;exact mV I1 ea c n l λu' s2 I2 ru=>⟨v,H1,I2,ru,q⟩
theorem F4 (ha:PE X o ta) (hv:PE X value tv) (hs:SW value (aa (.Attribute o f pos')) pos.line X.env=pure ai):PS X (.Assign [.Attribute o f pos'] value pos) (JU X.K ta tv f):=by intro zt s σ H D I h;refine plainObj_wpAny_Assign_Attribute (thn (hv zt s σ H _ I h) λu s1 ⟨y,H1,I1,ry,q⟩=>thn (ha zt s1 σ H1 _ I1 q) λov s2 ⟨x,H2,I2,rx,a,C,dx,fs,ex,ea,c,n,l,q2⟩=>?_) hs;subst ex;obtain rfl:ov=QF a:=rx;exact mX I2 ea c n l ry λs3 I3=>⟨σ,_,I3,q2⟩
theorem xq {op:Tc}{rd:V->V->Hp->VK->Prop} (ha:PE X o ta) (hv:PE X value tv) (hop:Na X op rd):PS X (.AugAssign (.Attribute o f tpos) op value pos) (vh X.K ta tv rd f):=by intro zt s σ H D I h;refine wpAny_AugAssign_AttributeAny (thn (ha zt s σ H _ I h) λov s1 zq=>?_);obtain ⟨x,H1,I1,rx,a,C,dx,fs,v,ex,ea,c,n,l,q⟩:=zq;subst ex;obtain rfl:ov=QF a:=rx;refine mV I1 ea c n l λu s2 I2 ru=>thn (hv zt s2 σ H1 _ I2 q) λw3 s3 ⟨y,H2,I3,ry,q3⟩=>thn (hop zt s3 σ H2 v y u w3 _ I3 ru ry q3) λw4 s4 zq=>?_;obtain ⟨z,H3,I4,rz,dx',fs',ea',l',q4⟩:=zq;exact mX I4 ea' c n l' rz λs5 I5=>⟨σ,_,I5,q4⟩
end
section
variable {X:Cx}{zt:List (P4×av)}{σ:St}{H:Hp}{s:PX}{A:QO}{E:aC->PX->Prop}{Q:aC->PX->Prop}{c:aC}{b:Bool}
end
end L2
namespace L2
open PySem PySem.Spec PyProof.Rows
structure fJ (k:Nat) (A:QO):Prop where
 hd:A.handled=af
 dp:A.depth+3*k+5 < recursionLimit
 un:A.units+16*k+200 < cLine
theorem fJ.mono {j k:Nat}{A:QO} (r:fJ k A) (h:j<=k):fJ j A:=⟨r.hd,by have:=r.dp;lia,by have:=r.un;lia⟩
theorem fJ.deeper {k:Nat}{A:QO} (r:fJ (k+1) A) (env:Env):fJ k (A.deeper env) :=
 ⟨r.hd,by have:=r.dp;show A.depth+1+3*k+5 < _;lia,by have:=r.un;show A.units+3+16*k+200 < _;lia⟩
theorem ue {A:QO}{C:P4}{us:List aC}{kw:List (aB×aC)}:(A.under (.builtin "type.__call__" ⟨.ref C::us,kw⟩)).depth=A.depth+1:=by first|rfl|simp[Vj,Code.weight,Code.isCreation,Code.isGuard,Code.isCaller,Code.frames,Vz,guardIds]
theorem uf {A:QO}{C:P4}{us:List aC}{kw:List (aB×aC)}:(A.under (.builtin "type.__call__" ⟨.ref C::us,kw⟩)).units=A.units+1:=by first|rfl|simp[Vj,Code.cUnits,Code.frames,Vz]
theorem fJ.make {k:Nat}{A:QO} (r:fJ (k+1) A) (C:P4) (us:List aC) (kw:List (aB×aC)):fJ k (A.under (.builtin "type.__call__" ⟨.ref C::us,kw⟩)) :=
 ⟨r.hd,by have:=r.dp;rw[ue];lia,by have:=r.un;rw[uf];lia⟩
theorem fJ.depth {k:Nat}{A:QO} (r:fJ k A):A.depth < recursionLimit:=by have:=r.dp;lia
def yT:TA:=λ_ H Q=>Q [] H
def EZ (ta:TE) (tr:TA):TA:=fun σ H Q=>ta σ H λx H1=>tr σ H1 λxs H2=>Q (x::xs) H2
section
variable {X:Cx}{e:SK}{es:List SK}{te:TE}{t:TA}{pos:Pos}
theorem qf:PA X [] yT:=λ_ _ _ _ H Q I h=>Wb ⟨[],H,I,.nil,h⟩
theorem jP (ha:PE X e te) (hr:PA X es t) (hs:QC (e::es) X.env=(ai,eval e X.env)::QC es X.env:=by rfl):PA X (e::es) (EZ te t):=by intro pos zt s σ H Q I h;rw[hs];show aA _ _ (spliced ((ai,eval e X.env)::SL pos (QC es X.env))) _ _ s;refine VR (thn (ha zt s σ H _ I h) λu s1 zq=>?_);obtain ⟨x,H1,I1,r1,q1⟩:=zq;exact thn (hr pos zt s1 σ H1 _ I1 q1) λus s2 ⟨xs,H2,I2,r2,q2⟩=>⟨x::xs,H2,I2,.cons r1 r2,q2⟩
def JV (t:TA):TE:=fun σ H Q=>t σ H λxs H1=>xs.length<=ao/\∀ p,H1 p=af->Q (.ref p) (upd H1 p (.tup xs))
def F5 (t:TA):TE:=fun σ H Q=>t σ H λxs H1=>xs.length<=ao/\∀ p,H1 p=af->Q (.ref p) (upd H1 p (.lst xs))
theorem F6 {x1} (h:PA X es t):PE X (.Tuple es x1 pos) (JV t):=by intro zt s σ H Q I hq;refine wpAny_Tuple_spliced (thn (h pos zt s σ H _ I hq) λus s1 ⟨xs,H1,I1,r,z,q⟩=>⟨by rw[← r.length];exact z,?_⟩);have hf:H1 s1.heap.objs.size=af:=I1.hok.fresh (P6 _);refine ⟨.ref s1.heap.objs.size,upd H1 s1.heap.objs.size (.tup xs),I1.laid (t':=s1.toks) (λb u e=>PU _ e) (P6 _) ?_,rfl,q _ hf⟩;exact ⟨z,us,r,⟨_,Qf _ rfl,rfl,_,rfl⟩⟩
theorem yU (h:PA X es t):PE X (.List es pos) (F5 t):=by intro zt s σ H Q I hq;refine wpAny_List_spliced (thn (h pos zt s σ H _ I hq) λus s1 ⟨xs,H1,I1,r,z,q⟩=>⟨by rw[← r.length];exact z,?_⟩);have hf:H1 s1.heap.objs.size=af:=I1.hok.fresh (P6 _);refine ⟨.ref s1.heap.objs.size,upd H1 s1.heap.objs.size (.lst xs),I1.laid (t':=s1.toks) (λb u e=>PU _ e) (P6 _) ?_,rfl,q _ hf⟩;exact ⟨z,us,0,r,Qf _ rfl⟩
end
abbrev Sp:=List V->Hp->VK->XK->Prop
abbrev CXT:=List Env->Hp->PX->XK->aC->PX->Prop
structure rV (P:Qg) (w:QA) (K:PP) (mg:aB->Option aC) (base:ay) (A:QO) (outer:List Env) (s:PX) (H:Hp):Prop where
 frames:A.frames=aa outer
 mod:Mod K mg base
 bs:∀ b o,base.get? b=aa o->s.heap.get? b=aa o/\H b=af
 bsz:base.objs.size<=s.heap.objs.size
 lA:s.heap.FunFrames base outer
 frf:∀ b∈frs outer,H b=af
 hok:HOk P w H s.heap
 bare:Vt s.gens
inductive CE (outer:List Env) (P:Qg) (w:QA) (H:Hp) (s:PX) (Q:VK) (u:aC) (s':PX):Prop where
 | mk (v:V) (H':Hp) (os:s'.os=s.os) (b:Vt s'.gens) (un:Un (frs outer) [] H H' s.heap s'.heap) (hk:HOk P w H' s'.heap) (r:RelV v u) (q:Q v H'):CE outer P w H s Q u s'
def CR (CX:CXT) (outer:List Env) (P:Qg) (w:QA) (H:Hp) (s:PX) (Q:VK) (E:XK) (r:Result) (s':PX):Prop :=
 match r with
 | .ok (.ret u)=>CE outer P w H s Q u s'| .ok _=>False| .error e=>CX outer H s E e s'
structure iU (P:Qg) (w:QA) (K:PP) (mg:aB->Option aC) (base:ay) (CX:CXT) (k:Nat) (f:P4) (fd:Ry) (ps:List aB) (sp:Sp):Prop where
 len:∀ vs H Q E,sp vs H Q E->vs.length=ps.length
 run:∀ (A:QO) (outer:List Env) (s:PX) (H:Hp) (args:Args) (us:List aC) (vs:List V) (Q:VK) (E:XK),fJ k A->rV P w K mg base A outer s H->BindsTo s fd args (ps.zip us)->dw vs us->sp vs H Q E →
  au (Qq P w) A (.call (.ref f) args) (CR CX outer P w H s Q E) s
theorem rV.make {P:Qg}{w:QA}{K:PP}{mg:aB->Option aC}{base:ay}{A:QO}{outer:List Env}{s:PX}{H:Hp} (e:rV P w K mg base A outer s H) (C:P4) (us:List aC) (kw:List (aB×aC)) :
 rV P w K mg base (A.under (.builtin "type.__call__" ⟨.ref C::us,kw⟩)) outer s H:=⟨by first | exact e.frames | (simpa [Vj,Code.envs,Vz,pushEnvs] using e.frames),e.mod,e.bs,e.bsz,e.lA,e.frf,e.hok,e.bare⟩
section
variable {X:Cx}{zt:List (P4×av)}{σ:St}{H:Hp}{s s':PX}
theorem Inv.JW (I:Inv X zt σ H s):rV X.prog X.w X.K X.mg X.base X.A X.stack s H :=
 ⟨I.ok.frames,I.ok.mod,I.bs,QD I.ok.bsz I.sz,I.stack,I.u9,I.hok,I.bare⟩
theorem Inv.after {Q:VK}{u:aC} (I:Inv X zt σ H s) (h:CE X.stack X.prog X.w H s Q u s'):EP X zt σ Q u s':=by obtain ⟨v,H',os,bare,un,hok,r,q⟩:=h;obtain ⟨hh,g,d,t,os'⟩:=s';obtain rfl:os'=s.os:=os;exact ⟨v,H',I.call (h':=hh) (g':=g) (d':=d) (t':=t) (ch:=[]) un hok bare (λb z=>absurd z (by simp)),r,q⟩
end
def vj (sp:Sp) (dvs:List V) (E:XK) (t:TA):TE:=fun σ H Q=>t σ H λvs H1=>sp (vs++dvs) H1 Q E
def yV (C:P4) (m:aB) (sp:Sp) (dvs:List V) (E:XK) (ta:TE) (t:TA):TE:=fun σ H Q=>ta σ H λx H1=>∃ a dx fs,x=.ref a/\H1 a=aa (.ins C dx fs)/\fs.lookup m=af ∧
 t σ H1 λvs H2=>sp (x::(vs++dvs)) H2 Q E
def yW (C:P4) (sp:Sp) (dvs:List V) (E:XK) (t:TA):TE:=fun σ H Q=>t σ H λvs H1=>∀ x dx,H1 x=af->H1 dx=af->dx≠x →
 sp (.ref x::(vs++dvs)) (upd (upd H1 dx (.own x)) x (.ins C dx [])) (λv H2=>v=.non/\Q (.ref x) H2) E
def Binds (K:PP) (fd:Ry) (ps:List aB) (ds:List aC):Prop :=
 ∀ (s:PX) (us:List aC),K.In s.heap->(us++ds).length=ps.length->BindsTo s fd ⟨us,[]⟩ (ps.zip (us++ds))
theorem Binds.all {K:PP}{fd:Ry}{ps:List aB} (h:∀ us:List aC,us.length=ps.length->V1 fd ⟨us,[]⟩=pure (ps.zip us)):Binds K fd ps []:=λs us _ hl=>by rw[Rf] at hl ⊢;exact .of_eq (h us hl)
def iV (CX:CXT) (X:Cx) (E:XK):Prop:=∀ (zt:List (P4×av)) (σ:St) (H:Hp) (s:PX) (e:aC) (s':PX),Inv X zt σ H s->CX X.stack H s E e s'->X.xe e s'
section
variable {X:Cx}{CX:CXT}{k:Nat}{f C:P4}{fd:Ry}{ps:List aB}{sp:Sp}{dvs:List V}{ds:List aC}{E:XK}{x m:aB}{p pos apos:Pos}{e o:SK}{es:List SK}{ta:TE}{t:TA}
theorem mY {zt:List (P4×av)}{σ:St}{H:Hp}{s:PX}{Q:VK}{us:List aC}{vs:List V} (F:iU X.prog X.w X.K X.mg X.base CX k f fd ps sp) (hr:fJ k X.A) (hb:Binds X.K fd ps ds) (hd:dw dvs ds) (hx:iV CX X E)
 (I:Inv X zt σ H s) (r:dw vs us) (h:sp (vs++dvs) H Q E):aA (Qq X.prog X.w) X.A (call (.ref f) us) (EP X zt σ Q) X.xe s:=by
 have r2:dw (vs++dvs) (us++ds):=r.append hd;have hl:(us++ds).length=ps.length:=by rw[← r2.length];exact F.len _ _ _ _ h
 refine wpAny_call (UZ (F.run X.A X.stack s H ⟨us,[]⟩ (us++ds) (vs++dvs) Q E hr I.JW (hb s us I.kIn hl) r2 h) λr s' hq=>?_);cases r with
 | error e=>exact hx zt σ H s e s' I hq
 | ok fl =>
  cases fl with
  | ret u=>exact I.after hq| _=>exact Rl hq
theorem Ct (F:iU X.prog X.w X.K X.mg X.base CX k f fd ps sp) (hr:fJ k X.A) (hg:Gl X x) (hm:X.mg x=aa (.ref f)) (hk:Q3 X.K (.ref f)=ah) (hb:Binds X.K fd ps ds) (hd:dw dvs ds) (hx:iV CX X E)
 (ha:PA X (e::es) t) (hdb:(x==("__debug__":aB))=ai:=by decide) (he:QC (e::es) X.env=(ai,eval e X.env)::QC es X.env:=by rfl) (hpl:(SL pos (QC es X.env)).any (·.1)=ai:=by rfl) :
 PE X (.Call (.Name x p) (e::es) [] pos) (vj sp dvs E t):=by
 intro zt s σ H Q I h;refine RT (kF I hg hm ?_ hdb);refine SN (h₀:=X.base) I.ok.mod.kin hk (thn (ha pos zt s σ H _ I h) λus s1 ⟨vs,H1,I1,r,q⟩=>⟨I1.kIn,?_⟩) he hpl;exact mY F hr hb hd hx I1 r q
theorem yX (F:iU X.prog X.w X.K X.mg X.base CX k f fd ps sp) (hr:fJ k X.A) (hg:Gl X x) (hm:X.mg x=aa (.ref f)) (hk:Q3 X.K (.ref f)=ah) (hb:Binds X.K fd ps ds) (hd:dw dvs ds) (hx:iV CX X E)
 (hdb:(x==("__debug__":aB))=ai:=by decide):PE X (.Call (.Name x p) [] [] pos) (vj sp dvs E yT):=by
 intro zt s σ H Q I h;refine RT (kF I hg hm ?_ hdb);exact TX I.kIn hk (mY (us:=[]) F hr hb hd hx I .nil h)
theorem Cu {pl:Sem Bool} (he:PE X o ta) (c:Cls X.K C) (hm:yS X.K C m f) (F:iU X.prog X.w X.K X.mg X.base CX k f fd ps sp) (hr:fJ k X.A) (hb:Binds X.K fd ps ds) (hd:dw dvs ds) (hx:iV CX X E) (ha:PA X (e::es) t)
 (hst:QC (e::es) X.env=(ai,eval e X.env)::QC es X.env:=by rfl) (hpl:(SL pos (QC es X.env)).any (·.1)=ai:=by rfl)
 (ht:eval (.Call (.Attribute o m apos) (e::es) [] pos) X.env=(do
  let ov ← eval o X.env
  Vl apos.atName
  let (f,first) ← TR [ov] (Vm ov m pl)
  callWith pos f first (SL pos (QC (e::es) X.env)) (Vd pos (TQ [] X.env))):=by rfl) :
 PE X (.Call (.Attribute o m apos) (e::es) [] pos) (yV C m sp dvs E ta t):=by
 intro zt s σ H Q I h;refine Tf (pl:=pl) (thn (he zt s σ H _ I h) λu s1 ⟨x,H1,I1,rx,a,dx,fs,ex,ea,l,q⟩=>?_) ht;subst ex;obtain rfl:u=QF a:=rx;refine mW I1 ea c hm l ?_;refine SN (first:=[.ref a]) (h₀:=X.base) I.ok.mod.kin hm.kp (thn (ha pos zt s1 σ H1 _ I1 q) λus s2 ⟨vs,H2,I2,r,q2⟩=>⟨I2.kIn,?_⟩) hst hpl;exact mY (us:=.ref a::us) (vs:=.ref a::vs) F hr hb hd hx I2 (.cons rfl r) q2
theorem yY {pl:Sem Bool} (he:PE X o ta) (c:Cls X.K C) (hm:yS X.K C m f) (F:iU X.prog X.w X.K X.mg X.base CX k f fd ps sp) (hr:fJ k X.A) (hb:Binds X.K fd ps ds) (hd:dw dvs ds) (hx:iV CX X E)
 (ht:eval (.Call (.Attribute o m apos) [] [] pos) X.env=(do
  let ov ← eval o X.env
  Vl apos.atName
  let (f,first) ← TR [ov] (Vm ov m pl)
  callWith pos f first (SL pos (QC [] X.env)) (Vd pos (TQ [] X.env))):=by rfl) :
 PE X (.Call (.Attribute o m apos) [] [] pos) (yV C m sp dvs E ta yT):=by
 intro zt s σ H Q I h;refine Tf (pl:=pl) (thn (he zt s σ H _ I h) λu s1 ⟨x,H1,I1,rx,a,dx,fs,ex,ea,l,q⟩=>?_) ht;subst ex;obtain rfl:u=QF a:=rx;refine mW I1 ea c hm l ?_;exact TX (first:=[.ref a]) I1.kIn hm.kp (mY (us:=[.ref a]) (vs:=[.ref a]) F hr hb hd hx I1 (.cons rfl .nil) q)
structure Mk (K:PP) (C f:P4):Prop where
 makes:Uv K C=ah
 init:Qp K (.ref C) "__init__"=aa (aa (.ref f))
 fn:Tg K (.ref f)=ah
 kp:Q3 K (.ref C)=ah
theorem rW {zt:List (P4×av)}{σ:St}{H:Hp}{s:PX}{Q:VK}{us:List aC}{vs:List V} (M:Mk X.K C f) (F:iU X.prog X.w X.K X.mg X.base CX k f fd ps sp) (hr:fJ (k+1) X.A) (hb:Binds X.K fd ps ds) (hd:dw dvs ds)
 (hx:iV CX X E) (I:Inv X zt σ H s) (r:dw vs us)
 (h:∀ x dx,H x=af->H dx=af->dx≠x->sp (.ref x::(vs++dvs)) (upd (upd H dx (.own x)) x (.ins C dx [])) (λv H2=>v=.non/\Q (.ref x) H2) E) :
 aA (Qq X.prog X.w) X.A (call (.ref C) us) (EP X zt σ Q) X.xe s:=by
 have hq:=h (s.heap.objs.size+1) s.heap.objs.size (I.hok.fresh (Sx _)) (I.hok.fresh (P6 _)) (Qu (RI _));have I2:=Inv.made (C:=C) I;have r2:dw (V.ref (s.heap.objs.size+1)::(vs++dvs)) (QF (s.heap.objs.size+1)::(us++ds)):=.cons rfl (r.append hd);have hl:(QF (s.heap.objs.size+1)::us++ds).length=ps.length:=by have e:=r2.length;rw[F.len _ _ _ _ hq] at e;exact e.symm
 refine wpAny_call (yR (f:=f) I.kIn M.makes M.init (beq_iff_eq.mp M.fn) (UZ (F.run _ X.stack _ _ ⟨QF (s.heap.objs.size+1)::us,[]⟩ (QF (s.heap.objs.size+1)::(us++ds)) _ _ E (hr.make C us [])
  (I2.JW.make C us []) (hb _ (QF (s.heap.objs.size+1)::us) I2.kIn hl) r2 hq) λr s' hq'=>?_))
 cases r with
 | error e=>exact hx zt σ _ _ e s' I2 hq'
 | ok fl =>
  cases fl with
  | ret u =>
   obtain ⟨v,H',I3,rv,ev,q3⟩:=I2.after hq';subst ev;exact ⟨rv,⟨V.ref (s.heap.objs.size+1),H',I3,rfl,q3⟩⟩
  | _=>exact Rl hq'
theorem Cv (M:Mk X.K C f) (F:iU X.prog X.w X.K X.mg X.base CX k f fd ps sp) (hr:fJ (k+1) X.A) (hg:Gl X x) (hm:X.mg x=aa (.ref C)) (hb:Binds X.K fd ps ds) (hd:dw dvs ds) (hx:iV CX X E)
 (ha:PA X (e::es) t) (hdb:(x==("__debug__":aB))=ai:=by decide) (he:QC (e::es) X.env=(ai,eval e X.env)::QC es X.env:=by rfl) (hpl:(SL pos (QC es X.env)).any (·.1)=ai:=by rfl) :
 PE X (.Call (.Name x p) (e::es) [] pos) (yW C sp dvs E t):=by
 intro zt s σ H Q I h;refine RT (kF I hg hm ?_ hdb);refine SN (h₀:=X.base) I.ok.mod.kin M.kp (thn (ha pos zt s σ H _ I h) λus s1 ⟨vs,H1,I1,r,q⟩=>⟨I1.kIn,?_⟩) he hpl;exact rW M F hr hb hd hx I1 r q
theorem yZ (M:Mk X.K C f) (F:iU X.prog X.w X.K X.mg X.base CX k f fd ps sp) (hr:fJ (k+1) X.A) (hg:Gl X x) (hm:X.mg x=aa (.ref C)) (hb:Binds X.K fd ps ds) (hd:dw dvs ds) (hx:iV CX X E)
 (hdb:(x==("__debug__":aB))=ai:=by decide):PE X (.Call (.Name x p) [] [] pos) (yW C sp dvs E yT):=by
 intro zt s σ H Q I h;refine RT (kF I hg hm ?_ hdb);exact TX I.kIn M.kp (rW (us:=[]) M F hr hb hd hx I .nil h)
end
section
variable {X:Cx}{CX:CXT}{k:Nat}{f C:P4}{fd:Ry}{ps ks:List aB}{sp:Sp}{E:XK}{x m:aB}{p pos apos kpos:Pos}{e o:SK}{es:List SK}{kws:List Ui}{te ta:TE}{t tk:TA}{nm:Option aB}
variable {g:List aC->List aC->List aC}{gV:List V->List V->List V}
end
structure fL (N P:List aB) (sc:QX):Prop where
 kind:sc.kind=.function
 co:sc.isCoroutine=ai
 gen:sc.isGenerator=ai
 nd:N.Nodup
 pre:N.take P.length=P
 par:∀ x∈P,sc.names.lookup x=aa .local\/sc.names.lookup x=aa .cell
 nofree:∀ y∈sc.names,y.2≠.free
theorem pC {kindOf:aB->Option Sy}{x:aB}:∀ {binds:List (aB×aC)}{m:aB->Option aC},(∀ v,(x,v)∉binds)->bindL kindOf binds m x=m x
 | [],_,_=>rfl
 | (n,v)::r,m,h=>by
  unfold bindL;rw[pC λw hw=>h w (Qe _ hw)];split
  ·have:x≠n:=by rintro rfl;exact h v Qn
   simp[this]
  rfl
theorem pF {kindOf:aB->Option Sy}{x:aB}:∀ {binds:List (aB×aC)}{m:aB->Option aC},(∀ v,(x,v)∉binds)->bindC kindOf binds m x=m x
 | [],_,_=>rfl
 | (n,v)::r,m,h=>by
  unfold bindC;rw[pF λw hw=>h w (Qe _ hw)];split;rfl
  ·have:x≠n:=by rintro rfl;exact h v Qn
   simp[this]
theorem pG {kindOf:aB->Option Sy}{x:aB}{v:aC}:∀ {P:List aB}{vs:List aC}{i:Nat}{m:aB->Option aC},P.Nodup->P[i]?=aa x->vs[i]?=aa v->kindOf x=aa .local →
 bindL kindOf (P.zip vs) m x=aa v
 | [],_,_,_,_,h,_,_=>by simp at h
 | _::_,[],_,_,_,_,h,_=>by simp at h
 | p::P,w::vs,0,m,nd,h1,h2,hk=>by simp at h1 h2;subst h1;subst h2;show bindL kindOf ((p,w)::P.zip vs) m p=_;unfold bindL;rw[pC λv hv=>(List.nodup_cons.mp nd).1 (UM hv).1,if_pos hk];simp
 | p::P,w::vs,i+1,m,nd,h1,h2,hk=>by show bindL kindOf ((p,w)::P.zip vs) m x=_;unfold bindL;exact pG (i:=i) (List.nodup_cons.mp nd).2 (by simpa using h1) (by simpa using h2) hk
theorem pH {kindOf:aB->Option Sy}{x:aB}{v:aC}:∀ {P:List aB}{vs:List aC}{i:Nat}{m:aB->Option aC},P.Nodup->P[i]?=aa x->vs[i]?=aa v->kindOf x≠aa .local →
 bindC kindOf (P.zip vs) m x=aa v
 | [],_,_,_,_,h,_,_=>by simp at h
 | _::_,[],_,_,_,_,h,_=>by simp at h
 | p::P,w::vs,0,m,nd,h1,h2,hk=>by simp at h1 h2;subst h1;subst h2;show bindC kindOf ((p,w)::P.zip vs) m p=_;unfold bindC;rw[pF λv hv=>(List.nodup_cons.mp nd).1 (UM hv).1,if_neg hk];simp
 | p::P,w::vs,i+1,m,nd,h1,h2,hk=>by show bindC kindOf ((p,w)::P.zip vs) m x=_;unfold bindC;exact pH (i:=i) (List.nodup_cons.mp nd).2 (by simpa using h1) (by simpa using h2) hk
noncomputable def start (N:List aB) (vs:List V):St:=vs.map aa++Qi (N.length - vs.length) af
noncomputable def ug (CX:CXT) (P:Qg) (w:QA) (K:PP) (mg:aB->Option aC) (base:ay) (N:List aB) (qual:aB) (scope:QX) (f:P4) (cd:aC) (A:QO) (outer:List Env) (s:PX) (H:Hp) (E:XK):Cx where
 prog:=P
 w:=w
 K:=K
 mg:=mg
 base:=base
 A:=A.deeper (Vn qual scope s.heap.objs.size f cd)
 N:=N
 s₀:=s
 H₀:=H
 env:=Vn qual scope s.heap.objs.size f cd
 outer:=outer
 stack:=Vn qual scope s.heap.objs.size f cd::outer
 ex:=[]
 calm:=ah
 fn:=λ_=>ah
 pn:=[]
 xe:=λe s'=>aA (Qq P w) (A.deeper (Vn qual scope s.heap.objs.size f cd)) (leaving (Vn qual scope s.heap.objs.size f cd) e) (λ_ s''=>CX outer H s E e s'') (λe' s''=>CX outer H s E e' s'') s'
theorem rX {sc:QX}{n:Nat}{x:aB} (h:sc.names.lookup x=aa .cell):∃ c,(cellsFrom n sc.names []).lookup x=aa c:=by have q:=U1 sc.names n [] (.inl h);exact Option.isSome_iff_exists.mp q
theorem xr {CX:CXT}{P:Qg}{w:QA}{K:PP}{mg:aB->Option aC}{base:ay}{N ps:List aB}{qual:aB}{scope:QX}{f:P4}{cd:aC}{A:QO}{outer:List Env}{s s1:PX}{H:Hp}{E:XK}{us:List aC}{vs:List V}
 (S:fL N ps scope) (hd:A.handled=af) (e0:rV P w K mg base A outer s H) (hl:vs.length=ps.length) (r:dw vs us)
 (x:InCallC s s.heap.objs.size (bindL (Vn qual scope s.heap.objs.size f cd).kindOf (ps.zip us) λ_=>af) (cellsFrom (s.heap.objs.size+1) scope.names []) (bindC (Vn qual scope s.heap.objs.size f cd).kindOf (ps.zip us) λ_=>af) s1) :
 Inv (ug CX P w K mg base N qual scope f cd A outer s H E) [] (start N vs) H s1:=by
 have hpl:ps.length<=N.length:=by have:=congrArg UN S.pre;rw[Tj] at this;lia
 obtain ⟨h1,tk,rfl,hk⟩:=x.done;have noA:∀ b:P4,b∉(ug CX P w K mg base N qual scope f cd A outer s H E).ex:=λb z=>absurd (show b∈([]:List P4) from z) (by simp);refine ⟨⟨e0.mod,S.kind,rfl,rfl,P6 _,λy z c h1 h2=>?_,λy hy=>?_,λy c _ h=>?_,λ_=>hd,Around.frames_deeper e0.frames,.inr ⟨rfl,rfl⟩,λb z=>absurd z (noA b),e0.bs,e0.bsz,λb _ _=>noA b,λb z=>absurd z (noA b),e0.lA,e0.frf⟩,
  rfl,e0.bare,Un.kept hk,⟨_,x.toInCall.ns,λi y v h1 h2 h3=>?_⟩,λy c h=>⟨_,x.cell y c h⟩,e0.hok.fresh (P6 _),λy c h=>?_,λp hp=>absurd (show p∈([]:List (P4×av)) from hp) (by simp),e0.hok.kept hk,?_⟩
 exact name_of_addr x.apart (Sa h1) (Sa h2)
 ·have hy:scope.names.lookup y=aa .cell\/scope.names.lookup y=aa .free:=hy;rcases hy with hy|hy
  exact rX hy;exact absurd rfl (S.nofree _ (Sa hy))
 exact SC (x.above y c (Sa h))
 ·have hi:i < vs.length:=by
   unfold start at h2
   by_cases hi:i < vs.length
   exact hi
   ·rw[QB (by simpa using hi)] at h2;rw[Sk] at h2;split at h2<;>cases h2
  have ha:vs[i]?=aa v:=by
   unfold start at h2;rw[PV (by simpa using hi),Qj] at h2;cases e:vs[i]? with
   | none=>rw[e] at h2;cases h2| some a=>rw[e] at h2;cases h2;rfl
  obtain ⟨u,hu,rv⟩:=r.get ha;have hp:ps[i]?=aa y:=by rw[← S.pre,Sh (by lia)];exact h1
  have ndP:ps.Nodup:=by rw[← S.pre];exact S.nd.sublist (List.take_sublist _ _)
  refine ⟨u,rv,?_⟩;rcases S.par y (P8 hp) with k|k
  exact .inl ⟨k,pG ndP hp hu k⟩
  ·obtain ⟨c,e⟩:=rX (n:=s.heap.objs.size+1) k;refine .inr ⟨.inl k,c,e,?_⟩;have q:=x.cell y c e;rw[pH ndP hp hu (by show scope.names.lookup y≠_;rw[k];decide)] at q;exact q
 exact e0.hok.fresh (SC (x.above y c (Sa h)))
 ·unfold start;show _=N.length;rw[Qk,Qt,SB];lia
theorem JX {CX:CXT}{P:Qg}{w:QA}{K:PP}{mg:aB->Option aC}{base:ay}{k:Nat}{f:P4}{name qual:aB}{params:UJ}{body:List Us}{scope:QX}{dV kV doc pm cdv ct oc:aC}{an od:Option P4}
 {osl:Array (Option aC)}{N ps:List aB}{sp:Sp} (lk:K.lookup f=aa ⟨oc,od,.func (Rj name qual params body scope dV kV doc pm an cdv ct),osl⟩) (hcd:TJ K cdv qual=ah) (S:fL N ps scope)
 (len:∀ vs H Q E,sp vs H Q E->vs.length=ps.length)
 (hbody:∀ (A:QO) (outer:List Env) (s:PX) (H:Hp) (vs:List V) (Q:VK) (E:XK),fJ k (A.deeper (Vn qual scope s.heap.objs.size f cdv))->sp vs H Q E →
  ∃ t,PSs (ug CX P w K mg base N qual scope f cdv A outer s H E) body t/\t { nx:=λ_ H'=>Q .non H',rt:=Q } (start N vs) H) :
 iU P w K mg base CX (k+1) f (Rj name qual params body scope dV kV doc pm an cdv ct) ps sp:=by
 refine ⟨len,λA outer s H args us vs Q E hr e0 hb r hsp=>?_⟩;have hl:=len _ _ _ _ hsp;have KX:K.In s.heap:=e0.mod.kin.keeps λb o e=>(e0.bs b o e).1;have lim:s.heap.NoLimit:=e0.mod.nolimit.keeps λb o e=>(e0.bs b o e).1;have hkind:∀ y∈ps.zip us,scope.names.lookup y.1=aa .local\/(scope.names.lookup y.1=aa .cell/\((cellsFrom (s.heap.objs.size+1) scope.names []).lookup y.1).isSome=ah):=λ⟨n,v⟩ hy=>by
  rcases S.par n (UM hy).1 with q|q
  exact .inl q;exact .inr ⟨q,U1 _ _ _ (.inl q)⟩
 refine codeAny_call_function hr.depth (KX _ _ lk) rfl S.co S.gen rfl (PySem.W.codeRec_of KX hcd) (hb _ _ _ _ ?_);refine wpAny_newFunctionEnv_cells S.kind hkind λenv he s1 x=>?_;subst he;refine ⟨lim.keeps x.toInCall.keep,codeAny_func ?_⟩;obtain ⟨t,ht,hq⟩:=hbody A outer s H vs Q E (hr.deeper _) hsp;have I:Inv (ug CX P w K mg base N qual scope f cdv A outer s H E) [] (start N vs) H s1:=xr S hr.hd e0 hl r x;refine Ss (ht [] s1 (start N vs) H _ I hq) (λfl s' hs=>?_) λe s' hs=>hs;have fin:∀ {σ':St}{H':Hp}{v:V}{u:aC},Inv (ug CX P w K mg base N qual scope f cdv A outer s H E) [] σ' H' s'->RelV v u->Q v H'->CE outer P w H s Q u s' :=
  λ{σ' H' v u} J rv q=>⟨v,H',J.os,J.bare,J.base,J.hok,rv,q⟩
 cases fl with
 | ret u =>
  obtain ⟨v,σ',H',J,rv,q⟩:=hs;exact fin J rv q
 | next =>
  obtain ⟨σ',H',J,q⟩:=hs;exact fin (v:=V.non) (u:=RE) J rfl q
 | brk =>
  obtain ⟨_,_,_,q⟩:=hs;exact Rl q
 | cont =>
  obtain ⟨_,_,_,q⟩:=hs;exact Rl q
end L2
namespace L2
open PySem PySem.Spec PyProof.Rows
section
variable {X:Cx}{x:aB}{p pos:Pos}{e:SK}{es:List SK}{t:TA}{id T:String}{r:List V->Hp->VK->Prop}
def tCB (r:List V->Hp->VK->Prop) (t:TA):TE:=fun σ H Q=>t σ H λvs H1=>r vs H1 Q
theorem jt (hc:gj X (.builtin id) r) (hg:Gl X x) (hm:X.mg x=af) (hv:S9 x=aa (.builtin id)) (ha:PA X (e::es) t) (hn:x≠"__name__":=by decide) (hdb:(x==("__debug__":aB))=ai:=by decide)
 (he:QC (e::es) X.env=(ai,eval e X.env)::QC es X.env:=by rfl) (hpl:(SL pos (QC es X.env)).any (·.1)=ai:=by rfl):PE X (.Call (.Name x p) (e::es) [] pos) (tCB r t):=by
 intro zt s σ H Q I h;refine RT (jo I hg hm hv ?_ hn hdb);exact PyProof.Rows.callWith_builtin1 (thn (ha pos zt s σ H _ I h) λus s1 ⟨vs,H1,I1,r1,q1⟩=>hc zt s1 σ H1 vs us Q I1 r1 q1) he hpl
theorem jQ (hc:gj X (.type T) r) (hg:Gl X x) (hm:X.mg x=af) (hv:S9 x=aa (.type T)) (ha:PA X (e::es) t) (hn:x≠"__name__":=by decide) (hdb:(x==("__debug__":aB))=ai:=by decide)
 (he:QC (e::es) X.env=(ai,eval e X.env)::QC es X.env:=by rfl) (hpl:(SL pos (QC es X.env)).any (·.1)=ai:=by rfl):PE X (.Call (.Name x p) (e::es) [] pos) (tCB r t):=by
 intro zt s σ H Q I h;refine RT (jo I hg hm hv ?_ hn hdb);exact QT (thn (ha pos zt s σ H _ I h) λus s1 ⟨vs,H1,I1,r1,q1⟩=>hc zt s1 σ H1 vs us Q I1 r1 q1) he hpl
end
end L2
namespace HT
open PySem PyProof.Rows
section
open PySem.SeqAt
open PySem.AutoSeq1 (wpAny_loadPart')
open PySem.MeetsSeq PySem.MeetsSeq2 PySem.MeetsSeq3
end
section
variable {prog:Qg}{w:QA}{A:QO}{E:aC->PX->Prop}{s:PX}
theorem Cw {t b:P4}{vs ws:List aC}{Q:aC->PX->Prop} (ht:IsTup s.heap t vs.toArray) (hb:IsTup s.heap b ws.toArray) (hv:vs≠[])
 (h1:ws=[]->Q (.ref t) s) (h2:ws≠[]->Q (.ref s.heap.objs.size) { s with heap:=s.heap.push { cls:=.type "tuple",data:=.seq (vs++ws).toArray } })
 (hsz:vs.length+ws.length<=ao):aA (Qq prog w) A (Rv .Add (.ref t) (.ref b)) Q E s:=by
 obtain ⟨⟨cls,dd,data,sl⟩,ho,hc,n,hd⟩:=id ht;obtain ⟨⟨cls2,dd2,data2,sl2⟩,ho2,hc2,n2,hd2⟩:=id hb;simp only at hc hd hc2 hd2;subst hc hd hc2 hd2;have e:vs.toArray++ws.toArray=(vs++ws).toArray:=by simp
 by_cases hw:ws=[]
 ·exact concat_meets ⟨_,ho,rfl⟩ ⟨_,ho2,rfl⟩ U8 VW SZ SY (SR _ _)
   (tuple_addW1 t b vs.toArray ws.toArray n n2 dd dd2 sl sl2 (by simpa using hv) (by simp[hw])) ⟨ho,ho2,h1 hw⟩
 ·refine concat_meets ⟨_,ho,rfl⟩ ⟨_,ho2,rfl⟩ U8 VW SZ SY (SR _ _)
   (tuple_addW2 t b vs.toArray ws.toArray n n2 dd dd2 sl sl2 (by simpa using hv) (by simpa using hw) (by rw[PY,PY];exact hsz)) ⟨ho,ho2,?_⟩
  rw[e];exact h2 hw
noncomputable def sIx (n d:Nat):Option Int->Nat
 | none=>d
 | some v=>if v < 0 then (v+(n:Int)).toNat else min v.toNat n
theorem F7 (n d:Nat) (hd:d<=n) (o:Option Int):sIx n d o<=n:=by
 cases o with
 | none=>exact hd
 | some v =>
  show (if v < 0 then (v+(n:Int)).toNat else min v.toNat n)<=n
  by_cases hv:v < 0
  rw[if_pos hv];lia;rw[if_neg hv];exact Nat.min_le_right _ _
theorem vm (v:Int) (n d:Nat):(if v < 0 then max (v+(n:Int)) 0 else min v (n:Int))=((sIx n d (aa v):Nat):Int):=by
 show (if v < 0 then max (v+(n:Int)) 0 else min v (n:Int))=(((if v < 0 then (v+(n:Int)).toNat else min v.toNat n):Nat):Int)
 by_cases hv:v < 0
 simp only[if_pos hv];lia;simp only[if_neg hv];lia
theorem uh (lo hi:Option Int) (n:Nat):SE lo hi 1 (n:Int)=(((sIx n 0 lo:Nat):Int),((sIx n n hi:Nat):Int)):=by
 have h1:¬ ((1:Int) < 0):=by lia
 unfold SE;simp only[h1,if_false];refine Prod.ext ?_ ?_
 ·cases lo with
  | none=>rfl| some v=>exact vm v n 0
 ·cases hi with
  | none=>rfl| some v=>exact vm v n n
theorem um (i j:Nat):RK (i:Int) (j:Int) 1=j - i:=by
 unfold RK;have h1:(1:Int) > 0:=by lia
 simp only[h1,if_true,Int.ediv_one];split<;>lia
theorem mZ {v:aC}{o:Option Int}{Q:Option Int->PX->Prop} (p:U7 v o) (h:Q o s):aA (Qq prog w) A (Builtin.Slice.slicePartIndex v) Q E s:=by
 cases p with
 | none=>exact slicePart_none h| int i t=>exact slicePart_int h
theorem iM {sl:P4}{vl vu:aC}{lo hi:Option Int}{n:Nat}{Q:Int×Int×Nat->PX->Prop} (hs:s.heap.IsSliceOf sl vl vu .none) (pl:U7 vl lo) (pu:U7 vu hi)
 (h:Q (((sIx n 0 lo:Nat):Int),1,sIx n n hi - sIx n 0 lo) s):aA (Qq prog w) A (T7 (.ref sl) (pure (n:Int))) Q E s:=by
 obtain ⟨os,hos,hcs,hds⟩:=id hs;unfold T7 Builtin.Slice.sliceFields;refine PR (PR (QV hos hds (x:=vl) rfl (PR (QV hos hds (x:=vu) rfl (PR (QV hos hds (x:=.none) rfl (az ?_)))))));refine PR (slicePart_none ?_);show aA _ _ (if ((1:Int)==0)=ah then _ else _) _ _ s;rw[if_neg (by decide)];refine PR (mZ pl (PR (mZ pu (PR (az ?_)))));show aA _ _ (match SE lo hi 1 (n:Int) with|(lo,hi)=>pure (lo,(1:Int),RK lo hi 1)) _ _ s;rw[uh lo hi n];show aA _ _ (pure (((sIx n 0 lo:Nat):Int),(1:Int),RK ((sIx n 0 lo:Nat):Int) ((sIx n n hi:Nat):Int) 1)) _ _ s;rw[um];exact az h
theorem za (xs:Array aC) (i k:Nat):((Qm k).filterMap λ(m:Nat)=>xs[((i:Int)+(m:Int)*1).toNat]?).toArray=((xs.toList.drop i).take k).toArray:=by
 have e:(λ(m:Nat)=>xs[((i:Int)+(m:Int)*1).toNat]?)=λm=>xs[i+m]?:=by
  funext m;have:((i:Int)+(m:Int)*1).toNat=i+m:=by lia
  rw[this]
 rw[e];have:=pick_run xs i k;rw[List.filterMap_map] at this;have e2:((λx=>xs[x]?) ∘ λx=>i+x)=λm=>xs[i+m]?:=rfl;rw[e2] at this;rw[this]
theorem kH {t sl:P4}{items:Array aC}{vl vu:aC}{lo hi:Option Int}{Q:aC->PX->Prop} (ht:IsTup s.heap t items) (hs:s.heap.IsSliceOf sl vl vu .none) (pl:U7 vl lo) (pu:U7 vu hi)
 (hw:¬ (sIx items.size 0 lo=0/\sIx items.size items.size hi=items.size))
 (h:Q (.ref s.heap.objs.size) { s with heap:=s.heap.push { cls:=.type "tuple",data:=.seq ((items.toList.drop (sIx items.size 0 lo)).take (sIx items.size items.size hi - sIx items.size 0 lo)).toArray } })
 (hsz:items.size<=ao):aA (Qq prog w) A (UQ (.ref t) (.ref sl)) Q E s:=by
 have htake:sizeOk (.seq ((items.toList.drop (sIx items.size 0 lo)).take (sIx items.size items.size hi - sIx items.size 0 lo)).toArray):=by show ((items.toList.drop (sIx items.size 0 lo)).take (sIx items.size items.size hi - sIx items.size 0 lo)).toArray.size<=ao;rw[PY,Tj,List.length_drop,Q9];lia
 have hj:sIx items.size items.size hi<=items.size:=F7 _ _ (P6 _) hi;obtain ⟨os,hos,hcs,hds⟩:=id hs;have hTs:s.TypeIs (.ref sl) "slice":=⟨os,hos,hcs⟩;unfold UQ
 try with_reducible refine Ru ?_
 first|refine PR (az ?_)|skip
 refine PR (wpAny_sequenceKey ht.typeIs (by decide) ?_);refine PR (QY (name:=Qd "__getitem__") ht.typeIs Rk
  (RL Rk ht.typeIs entry_tuple_getitem ?_ (args_tuple_getitem _ _)))
 show aA _ _ (T6 (.ref t) >>= _) _ _ s;refine PR (tupleItemsOf_ ht ?_);refine PR (UX hTs ?_);rw[if_pos (by decide)];refine PR (iM hs pl pu ?_);have hno:¬ ((((sIx items.size 0 lo:Nat):Int)==0&&(1:Int)==1&&(sIx items.size items.size hi - sIx items.size 0 lo)==items.size)=ah):=by intro q;rw[PZ,PZ] at q;have q1:((sIx items.size 0 lo:Nat):Int)=0:=eq_of_beq q.1.1;have q2:sIx items.size items.size hi - sIx items.size 0 lo=items.size:=eq_of_beq q.2;exact hw ⟨by lia,by lia⟩
 show aA _ _ (if (((sIx items.size 0 lo:Nat):Int)==0&&(1:Int)==1&&(sIx items.size items.size hi - sIx items.size 0 lo)==items.size)=ah then _ else _) _ _ s;rw[if_neg hno,za]
 first
  | exact PR (m:=RQ _) (RB (az ⟨_,rfl,az h⟩) htake)
  | exact PR (m:=RQ _) (RB (PR (az (az ⟨_,rfl,az h⟩))) htake)
  | exact PR (PR (m:=RQ _) (RB (az (az ⟨_,rfl,az h⟩)) htake))
  | exact PR (PR (m:=RQ _) (RB (az ⟨_,rfl,az h⟩) htake))
end
end HT
namespace L2
open PySem PySem.Spec PyProof.Rows
abbrev TO:=St->Hp->(Option Int->Hp->Prop)->Prop
def PO (X:Cx) (e:Option SK) (t:TO):Prop :=
 ∀ (zt:List (P4×av)) (s:PX) (σ:St) (H:Hp) (Q:Option Int->Hp->Prop),Inv X zt σ H s->t σ H Q →
  aA (Qq X.prog X.w) X.A (evalPart e X.env) (λu s'=>∃ o H',Inv X zt σ H' s'/\U7 u o/\Q o H') X.xe s
def Cy:TO:=λ_ H Q=>Q af H
def JY (t:TE):TO:=fun σ H Q=>t σ H λx H1=>∃ i,x=.int i/\Q (aa i) H1
theorem intsAre_of {ns:List Int}:∀ {us:List aC},dw (ns.map V.int) us->Wa us ns:=by
 induction ns with
 | nil=>intro us r;rw[QL] at r;cases r;exact .nil
 | cons n ns ih =>
  intro us r;rw[Qa] at r;cases r with
  | cons r1 r2 =>
   obtain ⟨t,e⟩:=r1;subst e;exact .cons n t (ih r2)
section
variable {X:Cx}{e:SK}{te:TE}{lo hi:Option SK}{tl th:TO}{pos p2:Pos}
theorem Cz:PO X af Cy:=by intro zt s σ H Q I h;rw[VY];exact az ⟨af,H,I,.none,h⟩
theorem CA (h:PE X e te):PO X (aa e) (JY te):=by intro zt s σ H Q I hw;rw[evalPart_some];refine thn (h zt s σ H _ I hw) λu s1 zq=>?_;obtain ⟨x,H1,I1,r1,q1⟩:=zq;obtain ⟨i,rfl,q⟩:=q1;obtain ⟨t,rfl⟩:=r1;exact ⟨aa i,H1,I1,.int i t,q⟩
def SlR (X:Cx) (r:V->Option Int->Option Int->Hp->VK->Prop):Prop :=
 ∀ (zt:List (P4×av)) (s:PX) (σ:St) (H:Hp) (x:V) (v vl vu:aC) (lo hi:Option Int) (sl:P4) (Q:VK),Inv X zt σ H s->RelV x v->s.heap.IsSliceOf sl vl vu .none->U7 vl lo->U7 vu hi->r x lo hi H Q →
  ∃ T id,typeLookup (.type T) "__getitem__"=pure (aa (.builtin id))/\s.TypeIs v T/\aA (Qq X.prog X.w) X.A (UQ v (.ref sl)) (EP X zt σ Q) X.xe s
def tSl (r:V->Option Int->Option Int->Hp->VK->Prop) (te:TE) (tl th:TO):TE:=fun σ H Q=>te σ H λx H1=>tl σ H1 λl H2=>th σ H2 λu H3=>r x l u H3 Q
theorem zb {r:V->Option Int->Option Int->Hp->VK->Prop} (hr:SlR X r) (he:PE X e te) (hl:PO X lo tl) (hu:PO X hi th):PE X (.Subscript e (.Slice lo hi af p2) pos) (tSl r te tl th):=by intro zt s σ H Q I h;refine Subscript_ (thn (he zt s σ H _ I h) λv s1 zq=>?_);obtain ⟨x,H1,I1,r1,q1⟩:=zq;refine wpAny_Slice (thn (hl zt s1 σ H1 _ I1 q1) λvl s2 ⟨l,H2,I2,pl,q2⟩=>thn (hu zt s2 σ H2 _ I2 q2) λvu s3 zq=>?_);obtain ⟨u,H3,I3,pu,q3⟩:=zq;rw[VY];refine az ?_;have I4:Inv X zt σ H3 { s3 with heap:=s3.heap.push { cls:=.type "slice",data:=.fields #[vl,vu,.none] } }:=I3.kept (t':=s3.toks) λb ob q=>PU _ q;obtain ⟨T,id,hT,ht,hg⟩:=hr zt { s3 with heap:=s3.heap.push { cls:=.type "slice",data:=.fields #[vl,vu,.none] } } σ H3 x v vl vu l u s3.heap.objs.size Q I4 r1 (UG ..) pl pu q3;show aA (Qq X.prog X.w) X.A (VV e (.Slice lo hi af p2) v (.ref s3.heap.objs.size)) (EP X zt σ Q) X.xe { s3 with heap:=s3.heap.push { cls:=.type "slice",data:=.fields #[vl,vu,.none] } };exact VU (ops:=[.ref s3.heap.objs.size,v]) ht hT hg (by with_unfolding_all rfl)
noncomputable def rY (xs:List V) (lo hi:Option Int):List V:=(xs.drop (HT.sIx xs.length 0 lo)).take (HT.sIx xs.length xs.length hi - HT.sIx xs.length 0 lo)
theorem lX (xs:List V) (lo hi:Option Int):(rY xs lo hi).length<=xs.length:=by unfold rY;rw[Tj,List.length_drop];lia
def Nb (K:PP):V->Option Int->Option Int->Hp->VK->Prop:=λx lo hi H Q=>∃ a xs,x=.ref a/\SqT K H a xs ∧
 ¬ (HT.sIx xs.length 0 lo=0/\HT.sIx xs.length xs.length hi=xs.length)/\∀ p,H p=af->Q (.ref p) (upd H p (.tup (rY xs lo hi)))
theorem F8:SlR X (Nb X.K):=by
 intro zt s σ H x v vl vu lo hi sl Q I rx hs pl pu h;obtain ⟨a,xs,rfl,hx,hw,q⟩:=h;cases rx;obtain ⟨its,r,ht,hz⟩:=I.tuple hx;have hlen:its.toArray.size=xs.length:=by rw[PY];exact r.length.symm
 refine ⟨"tuple",_,PyProof.Rows.slot_tuple_getitem.lookup,ht.typeIs,?_⟩;refine HT.kH ht hs pl pu (by rw[hlen];exact hw) ?_ (by rw[hlen];exact hz);rw[hlen];refine ⟨.ref s.heap.objs.size,_,I.laid (t':=s.toks) (o:=.tup (rY xs lo hi)) (λb ob q=>PU _ q) (P6 _) ?_,rfl,q _ (I.hok.fresh (P6 _))⟩;exact ⟨QD (lX xs lo hi) hz,_,(r.drop (HT.sIx xs.length 0 lo)).take (HT.sIx xs.length xs.length hi - HT.sIx xs.length 0 lo),IsTup.new _ _⟩
def JZ (K:PP):R2:=λx y H Q=>∃ a b xs ys,x=.ref a/\y=.ref b/\SqT K H a xs/\SqT K H b ys/\xs≠[]/\xs.length+ys.length<=ao ∧
 (ys=[]->Q (.ref a) H)/\(ys≠[]->∀ p,H p=af->Q (.ref p) (upd H p (.tup (xs++ys))))
theorem dw.kI {xs:List V}{us:List aC} (r:dw xs us):us=[]↔xs=[]:=by
 cases r with
 | _=>simp
theorem CB:OpR X (Rv .Add) (JZ X.K):=by intro zt s σ H x y v u Q I rx ry h;obtain ⟨a,b,xs,ys,rfl,rfl,ha,hb,hx,hz,q1,q2⟩:=h;cases rx;cases ry;obtain ⟨its,r1,p1,_⟩:=I.tuple ha;obtain ⟨its2,r2,p2,_⟩:=I.tuple hb;refine HT.Cw p1 p2 (λz=>hx (r1.kI.mp z)) (λz=>⟨.ref a,H,I,rfl,q1 (r2.kI.mp z)⟩) (λz=>?_) (by rw[← r1.length,← r2.length];exact hz);refine ⟨.ref s.heap.objs.size,_,I.laid (t':=s.toks) (o:=.tup (xs++ys)) (λb ob q=>PU _ q) (P6 _) ?_,rfl,q2 (λw=>z (r2.kI.mpr w)) _ (I.hok.fresh (P6 _))⟩;exact ⟨by rw[Qk];exact hz,_,r1.append r2,IsTup.new _ _⟩
end
end L2
namespace L2
open PySem PySem.Spec PyProof.Rows
noncomputable def ixN (n:Nat) (i:Int):Option Nat:=if 0<=i then (if i < n then aa i.toNat else af) else if -(n:Int)<=i then aa (i+n).toNat else af
noncomputable def atI {α:Type} (xs:List α) (i:Int):Option α:=(ixN xs.length i).bind λj=>xs[j]?
theorem vn {n:Nat}{i:Int}{j:Nat} (h:ixN n i=aa j):seqIndex? i n=aa j/\j < n/\-(n:Int)<=i/\i < n:=by
 unfold ixN at h
 by_cases h0:0<=i
 ·rw[if_pos h0] at h
  by_cases h1:i < n
  ·rw[if_pos h1] at h;have e:i.toNat=j:=P5 h;exact ⟨by rw[seqIndex_of h0 h1,e],by lia,by lia,h1⟩
  rw[if_neg h1] at h;cases h
 ·rw[if_neg h0] at h
  by_cases h1:-(n:Int)<=i
  ·rw[if_pos h1] at h;have e:(i+n).toNat=j:=P5 h;exact ⟨by rw[seqIndex_neg (by lia) h1,e],by lia,h1,by lia⟩
  rw[if_neg h1] at h;cases h
theorem qh {α:Type}{xs:List α}{i:Int}{v:α} (h:atI xs i=aa v):∃ j,seqIndex? i xs.length=aa j/\xs[j]?=aa v/\j < xs.length/\-(xs.length:Int)<=i/\i < xs.length:=by
 unfold atI at h;cases e:ixN xs.length i with
 | none=>rw[e] at h;cases h
 | some j =>
  rw[e] at h;obtain ⟨h1,h2,h3,h4⟩:=vn e;exact ⟨j,h1,h,h2,h3,h4⟩
def vo (b:SK):Prop:=∀ o i,subscripted b ai o i=operate [o,i] (UQ o i)
def IxR (X:Cx) (r:R2):Prop :=
 ∀ (value slice:SK) (zt:List (P4×av)) (s:PX) (σ:St) (H:Hp) (x y:V) (v u:aC) (Q:VK),Inv X zt σ H s->RelV x v->RelV y u->r x y H Q →
  subscripted slice ai v u=operate [v,u] (UQ v u)->aA (Qq X.prog X.w) X.A (VV value slice v u) (EP X zt σ Q) X.xe s
def MtR (X:Cx) (id:String) (r:V->List V->Hp->VK->Prop):Prop :=
 ∀ (zt:List (P4×av)) (s:PX) (σ:St) (H:Hp) (x:V) (xs:List V) (v:aC) (us:List aC) (Q:VK),Inv X zt σ H s->RelV x v->dw xs us->r x xs H Q →
  aA (Qq X.prog X.w) X.A (call (.builtin id) (v::us)) (EP X zt σ Q) X.xe s
section
variable {X:Cx}{a b:SK}{ta tb:TE}{pos:Pos}
theorem E1 {r:R2} (hr:IxR X r) (ha:PE X a ta) (hb:PE X b tb) (hs:vo b):PE X (.Subscript a b pos) (tOp r ta tb):=by intro zt s σ H Q I h;exact Subscript_ (FU ha hb I h λv u s2 x y H2 I2 rx ry q=>hr a b zt s2 σ H2 x y v u Q I2 rx ry q (hs _ _))
def Nc (K:PP):R2:=λx y H Q=>∃ p xs i v,x=.ref p/\y=.int i/\SqL K H p xs/\atI xs i=aa v/\Q v H
def Nf (K:PP):R2:=λx y H Q=>∃ p xs i v,x=.ref p/\y=.int i/\SqT K H p xs/\atI xs i=aa v/\Q v H
def Ng:R2:=λx y H Q=>∃ z i c,x=.str z/\y=.int i/\z.length<=ao/\atI z.cps.toList i=aa c/\Q (.str ⟨#[c]⟩) H
theorem vp:IxR X (Nc X.K):=by
 intro value slice zt s σ H x y v u Q I rx ry h hs;obtain ⟨p,xs,i,z,rfl,rfl,hq,he,q⟩:=h;cases rx;obtain ⟨t,rfl⟩:=ry;obtain ⟨its,r,pl,hz⟩:=I.list hq;obtain ⟨j,h1,h2,h3,h4,h5⟩:=qh he;obtain ⟨w,ew,rw'⟩:=r.get h2;have hl:=r.length;have hn:=lC;have fin:EP X zt σ Q w s:=⟨z,H,I,rw',q⟩
 by_cases h0:0<=i
 ·have hj:i.toNat=j:=by rw[seqIndex_of h0 h5] at h1;exact P5 h1
  exact item_listR pl.isList h0 (by lia) (by rw[hj];simpa using ew) fin hs
 ·have hj:(i+(its.toArray.size:Int)).toNat=j:=by rw[seqIndex_neg (by lia) h4] at h1;rw[PY,← hl];exact P5 h1
  exact subscriptTail_builtinR (x:=w) pl.isList.typeIs slot_list_getitem.lookup
   (wpAny_getItem_list_neg (Q:=λr s'=>r=w/\EP X zt σ Q r s') pl.isList (by lia) (by rw[PY]<;>lia) (by lia) (by rw[hj];simpa using ew) ⟨rfl,fin⟩) hs
theorem F9:IxR X (Nf X.K):=by
 intro value slice zt s σ H x y v u Q I rx ry h hs;obtain ⟨p,xs,i,z,rfl,rfl,hq,he,q⟩:=h;cases rx;obtain ⟨t,rfl⟩:=ry;obtain ⟨its,r,pl,hz⟩:=I.tuple hq;obtain ⟨j,h1,h2,h3,h4,h5⟩:=qh he;obtain ⟨w,ew,rw'⟩:=r.get h2;have hl:=r.length;have hn:=lC;have fin:EP X zt σ Q w s:=⟨z,H,I,rw',q⟩;exact subscriptTail_builtinR (x:=w) pl.typeIs slot_tuple_getitem.lookup
  (getItem_tuple (j:=j) (Q:=λr s'=>r=w/\EP X zt σ Q r s') pl (by lia) (by lia) (by rw[PY,← hl];exact h1) (by simpa using ew) ⟨rfl,fin⟩) hs
theorem Ga:IxR X Ng:=by
 intro value slice zt s σ H x y v u Q I rx ry h hs;obtain ⟨z,i,c,rfl,rfl,hz,he,q⟩:=h;obtain ⟨t,rfl⟩:=rx;obtain ⟨t',rfl⟩:=ry;obtain ⟨j,h1,h2,h3,h4,h5⟩:=qh he;have hl:z.cps.toList.length=z.length:=by simp[Str.length]
 rw[hl] at h1 h4 h5;have hn:=lC;exact VU (typeIs_str s z t) slot_str_getitem.lookup (getItem_str (c:=c) (by
  have e1:decide (i < -(2 ^ 63:Int))=ai:=decide_eq_false (by lia);have e2:decide (i ≥ 2 ^ 63)=ai:=decide_eq_false (by lia);rw[e1,e2,Td]) (by rw[h1];simpa using h2) ⟨.str ⟨#[c]⟩,H,I.tok _,⟨_,rfl⟩,q⟩) hs
theorem uq (its:List aC) (n j:Nat) (u:aC):Ro (·.setIfInBounds j u) { cls:=.type "list",data:=.seq its.toArray n }={ cls:=.type "list",data:=.seq (its.set j u).toArray n }:=by simp[Ro]
theorem Inv.lst {zt:List (P4×av)}{σ:St}{H:Hp}{s:PX}{p:P4}{xs:List V} (I:Inv X zt σ H s) (h:H p=aa (.lst xs)) :
 ∃ (its:List aC) (n:Nat),dw xs its/\s.heap.get? p=aa { cls:=.type "list",data:=.seq its.toArray n }/\xs.length<=ao:=by
 obtain ⟨z,its,n,r,e⟩:=I.hok p _ h;exact ⟨its,n,r,e,z⟩
theorem Inv.Gb {zt:List (P4×av)}{σ:St}{H:Hp}{s:PX}{p:P4}{xs ys:List V}{its its':List aC}{n n':Nat}{f:av->av} (I:Inv X zt σ H s) (h:H p=aa (.lst xs))
 (ho:s.heap.get? p=aa { cls:=.type "list",data:=.seq its.toArray n }) (hf:f { cls:=.type "list",data:=.seq its.toArray n }={ cls:=.type "list",data:=.seq its'.toArray n' }) (r:dw ys its') (hz:ys.length<=ao) (t:Nat) :
 Inv X zt σ (upd H p (.lst ys)) { s with heap:=s.heap.update p f,toks:=t }:=by
 have e:(s.heap.update p f).get? p=aa { cls:=.type "list",data:=.seq its'.toArray n' }:=by rw[Rr f ho (by rw[hf]<;>rfl),hf]
 refine I.write (x:=p) (e:=p) (by rw[h];trivial) (.inl rfl) (λb u hb q=>(Rg _ _ (QW hb)).trans q) ⟨_,e⟩ ?_;exact ⟨hz,its',n',r,e⟩
noncomputable def E2:V->V->V->Hp->(Hp->Prop)->Prop:=λo i v H Q=>∃ p xs k j,o=.ref p/\i=.int k/\H p=aa (.lst xs)/\ixN xs.length k=aa j/\Q (upd H p (.lst (xs.set j v)))
theorem set_list:JE X E2:=by
 intro zt s σ H o i v ov iv u Q I ro ri rv h;obtain ⟨p,xs,k,j,rfl,rfl,hp,hj,q⟩:=h;cases ro;obtain ⟨t,rfl⟩:=ri;obtain ⟨its,n,r,ho,hz⟩:=I.lst hp;obtain ⟨h1,h2,h3,h4⟩:=vn hj;have hl:=r.length;have hn:=lC;have I':Inv X zt σ (upd H p (.lst (xs.set j v))) { s with heap:=s.heap.update p (Ro (·.setIfInBounds j u)) } :=
  I.Gb hp ho (uq its n j u) (r.set rv j) (by rw[QS];exact hz) s.toks
 by_cases h0:0<=k
 ·have hk:k.toNat=j:=by rw[seqIndex_of h0 h4] at h1;exact P5 h1
  exact PySem.W.ki_setAt ho h0 (by lia) (by rw[PY,← hl];exact h4) (by rw[hk];exact ⟨_,I',q⟩)
 ·have hk:(k+(its.toArray.size:Int)).toNat=j:=by rw[seqIndex_neg (by lia) h3] at h1;rw[PY,← hl];exact P5 h1
  exact PySem.W.ki_setBack ho (by lia) (by rw[PY,← hl];exact h3) (by lia) (by rw[hk];exact ⟨_,I',q⟩)
theorem qi (lo hi:Option Int) (n:Nat):(Qz lo hi af n).1=((HT.sIx n 0 lo:Nat):Int)/\(Qz lo hi af n).2.1=((HT.sIx n n hi:Nat):Int)/\(Qz lo hi af n).2.2=1:=by
 refine ⟨?_,?_,rfl⟩
 ·cases lo with
  | none=>simp[Qz,HT.sIx]
  | some i =>
   simp only[Qz,HT.sIx,V7,show (1:Int) > 0 by decide,if_true]
   by_cases h:i < 0
   simp only[h,if_true]<;>lia;simp only[h,if_false]<;>lia
 ·cases hi with
  | none=>simp[Qz,HT.sIx]
  | some i =>
   simp only[Qz,HT.sIx,V7,show (1:Int) > 0 by decide,if_true]
   by_cases h:i < 0
   simp only[h,if_true]<;>lia;simp only[h,if_false]<;>lia
theorem oM (its:List aC) (lo hi:Option Int):slicePick its.toArray lo hi af=((its.drop (HT.sIx its.length 0 lo)).take (HT.sIx its.length its.length hi - HT.sIx its.length 0 lo)).toArray:=by obtain ⟨h1,h2,h3⟩:=qi lo hi its.toArray.size;unfold slicePick;rw[h1,h2,h3];simp only[sliceRange_one,pick_run,PY]<;>rfl
def Nh (K:PP):V->Option Int->Option Int->Hp->VK->Prop:=λx lo hi H Q=>∃ a xs,x=.ref a/\SqL K H a xs/\∀ p,H p=af->Q (.ref p) (upd H p (.lst (rY xs lo hi)))
theorem CD:SlR X (Nh X.K):=by intro zt s σ H x v vl vu lo hi sl Q I rx hs pl pu h;obtain ⟨a,xs,rfl,hx,q⟩:=h;cases rx;obtain ⟨its,r,ht,hz⟩:=I.list hx;have hlen:=r.length;refine ⟨"list",_,slot_list_getitem.lookup,ht.isList.typeIs,?_⟩;refine VL ht.isList hs pl pu .none (by simp) ?_ (by rw[PY]<;>lia);rw[oM,← hlen];refine ⟨.ref s.heap.objs.size,_,I.laid (t':=s.toks) (o:=.lst (rY xs lo hi)) (λb ob q=>PU _ q) (P6 _) ?_,rfl,q _ (I.hok.fresh (P6 _))⟩;exact ⟨QD (lX xs lo hi) hz,_,0,(r.drop (HT.sIx xs.length 0 lo)).take (HT.sIx xs.length xs.length hi - HT.sIx xs.length 0 lo),Qf _ rfl⟩
theorem iW:gj X (.builtin "len") (λxs H Q=>∃ p ys,xs=[.ref p]/\(SqL X.K H p ys\/SqT X.K H p ys)/\Q (.int ys.length) H):=by
 intro zt s σ H xs us Q I r h;obtain ⟨p,ys,rfl,hq,q⟩:=h;obtain ⟨u,rfl,rx⟩:=vals1 r;cases rx;have hn:=lC;rcases hq with hq|hq
 ·obtain ⟨its,r',pl,hz⟩:=I.list hq;have hlen:=r'.length;exact Calls.call_len_list pl.isList (by simp only[PY]<;>lia) ⟨.int ys.length,H,I.tok _,⟨s.toks+1,by rw[PY,hlen]⟩,q⟩
 ·obtain ⟨its,r',pl,hz⟩:=I.tuple hq;have hlen:=r'.length;exact len_tuple pl (by simp only[PY]<;>lia) ⟨.int ys.length,H,I.tok _,⟨s.toks+1,by rw[PY,hlen]⟩,q⟩
theorem qj:gj X (.builtin "len") (λxs H Q=>∃ z,xs=[.str z]/\z.length<=ao/\Q (.int z.length) H):=by intro zt s σ H xs us Q I r h;obtain ⟨z,rfl,hz,q⟩:=h;obtain ⟨u,rfl,t,rfl⟩:=vals1 r;have hn:=lC;exact len_str (by lia) ⟨.int z.length,H,I.tok _,⟨_,rfl⟩,q⟩
theorem kJ:gj X (.type "list") (λxs H Q=>∃ p ys,xs=[.ref p]/\(SqL X.K H p ys\/SqT X.K H p ys)/\∀ l,H l=af->Q (.ref l) (upd H l (.lst ys))):=by
 intro zt s σ H xs us Q I r h;obtain ⟨p,ys,rfl,hq,q⟩:=h;obtain ⟨u,rfl,rx⟩:=vals1 r;cases rx;have fin:∀ (its:List aC),dw ys its->ys.length<=ao->∀ (h':ay) (c':Nat),(∀ b o',s.heap.get? b=aa o'->h'.get? b=aa o') →
  h'.get? s.heap.objs.size=aa { cls:=.type "list",dict:=af,data:=.seq its.toArray c',slots:=#[] }->EP X zt σ Q (.ref s.heap.objs.size) { s with heap:=h' }:=λits r' hz h' c' kp e =>
  ⟨.ref s.heap.objs.size,_,I.laid (t':=s.toks) kp (P6 _) (show gi X.prog X.w _ h' _ (.lst ys) from ⟨hz,its,c',r',e⟩),rfl,q _ (I.hok.fresh (P6 _))⟩
 rcases hq with hq|hq
 ·obtain ⟨its,r',pl,hz⟩:=I.list hq;have hlen:=r'.length;obtain ⟨o,ho,hc,n,hd⟩:=pl.isList;exact call_list_seq p (.inl rfl) ho hc hd (λh' c' kp e=>fin its r' hz h' c' kp e) (by simp only[PY]<;>lia)
 ·obtain ⟨its,r',pl,hz⟩:=I.tuple hq;have hlen:=r'.length;obtain ⟨o,ho,hc,n,hd⟩:=pl;exact call_list_seq p (.inr rfl) ho hc hd (λh' c' kp e=>fin its r' hz h' c' kp e) (by simp only[PY]<;>lia)
theorem j0:gj X (.type "tuple") (λxs H Q=>∃ p ys,xs=[.ref p]/\((SqL X.K H p ys/\∀ l,H l=af->Q (.ref l) (upd H l (.tup ys)))\/(SqT X.K H p ys/\Q (.ref p) H))):=by
 intro zt s σ H xs us Q I r h;obtain ⟨p,ys,rfl,h⟩:=h;obtain ⟨u,rfl,rx⟩:=vals1 r;cases rx;rcases h with ⟨hq,q⟩|⟨hq,q⟩
 ·obtain ⟨its,r',pl,hz⟩:=I.list hq;have hlen:=r'.length;refine call_tuple_list pl.isList (λh' kp=>?_) (by simp only[PY]<;>lia);have I1:Inv X zt σ H { s with heap:=h' }:=I.kept (t':=s.toks) kp;have I2:Inv X zt σ (upd H h'.objs.size (.tup ys)) { s with heap:=h'.push { cls:=.type "tuple",data:=.seq its.toArray } } :=
   I1.laid (t':=s.toks) (λb o e=>PU _ e) (P6 _) (show gi X.prog X.w _ _ _ (.tup ys) from ⟨hz,its,r',IsTup.new _ _⟩)
  exact ⟨.ref h'.objs.size,_,I2,rfl,q _ (I1.hok.fresh (P6 _))⟩
 ·obtain ⟨its,r',pl,hz⟩:=I.tuple hq;exact call_tuple_same pl ⟨.ref p,H,I,rfl,q⟩
def tyV (K:PP) (T:String) (x:V) (H:Hp):Prop:=match x with
 | .str _=>T="str"| .int _=>T="int"| .ref p=>(T="list"/\∃ xs,SqL K H p xs)\/(T="tuple"/\∃ o,K.lookup p=aa o/\o.cls=.type "tuple"/\o.dict=af) ∨
  (T="dict"/\((∃ kvs,H p=aa (.dK kvs))\/∃ kvs,H p=aa (.dT kvs)))\/(T="set"/\∃ S n,H p=aa (.set S n))
 | _=>False
theorem zc {zt:List (P4×av)}{σ:St}{H:Hp}{s:PX}{T:String}{x:V}{v:aC} (I:Inv X zt σ H s) (r:RelV x v) (ty:tyV X.K T x H) :
 s.TypeIs v T/\∀ a,v=.ref a->∃ ob,s.heap.get? a=aa ob/\ob.dict=af:=by
 cases x with
 | str z =>
  obtain ⟨t,rfl⟩:=r;cases (show T="str" from ty);exact ⟨typeIs_str s z t,λ_ e=>nomatch e⟩
 | int i =>
  obtain ⟨t,rfl⟩:=r;cases (show T="int" from ty);exact ⟨typeIs_int s i t,λ_ e=>nomatch e⟩
 | ref p =>
  cases r;rcases ty with ⟨rfl,xs,hq⟩|⟨rfl,o,hk,hc,hd⟩|⟨rfl,hk⟩|⟨rfl,S,n,hk⟩
  ·obtain ⟨its,_,pl,_⟩:=I.list hq;refine ⟨pl.isList.typeIs,λa e=>?_⟩;cases e;obtain ⟨o,n,e,c,hd,_⟩:=pl;exact ⟨o,e,hd⟩
  ·refine ⟨⟨o,I.kIn p o hk,hc⟩,λa e=>?_⟩;cases e;exact ⟨o,I.kIn _ o hk,hd⟩
  ·have z:∃ o,s.heap.get? p=aa o/\o.ExactDict:=by
    rcases hk with ⟨kvs,hk⟩|⟨kvs,hk⟩
    ·obtain ⟨_,_,_,_,o,_,_,e,ex,_⟩:=I.hok p _ hk;exact ⟨o,e,ex⟩
    ·obtain ⟨_,_,_,_,o,_,_,e,ex,_⟩:=I.hok p _ hk;exact ⟨o,e,ex⟩
   obtain ⟨o,e,ex⟩:=z;refine ⟨⟨o,e,ex.1⟩,λa e2=>?_⟩;cases e2;exact ⟨o,e,ex.2.1⟩
  ·obtain ⟨o,_,_,_,e,ex,_⟩:=I.hok p _ hk;refine ⟨⟨o,e,ex.1⟩,λa e2=>?_⟩;cases e2;exact ⟨o,e,ex.2.1⟩
 | _=>exact Rl ty
def Ni (K:PP) (T:String) (r:V->List V->Hp->VK->Prop) (to:TE):TE:=fun σ H Q=>to σ H λx H1=>tyV K T x H1/\r x [] H1 Q
def tBM (K:PP) (T:String) (r:V->List V->Hp->VK->Prop) (to:TE) (t:TA):TE:=fun σ H Q=>to σ H λx H1=>tyV K T x H1/\t σ H1 λxs H2=>r x xs H2 Q
variable {o e:SK}{es:List SK}{to:TE}{t:TA}{name:aB}{apos cpos:Pos}{T id:String}{r:V->List V->Hp->VK->Prop}
theorem Gc (pa:PlainAttrs T) (slot:Slot T name id) (hty:typeOf (.builtin id)=pure (.type "method_descriptor")) (hm:MtR X id r) (ho:PE X o to)
 (hbase:TU o name X.env (eval o X.env)=eval o X.env:=by rfl) (hline:(apos.endLine==cpos.line)=ah:=by rfl):PE X (.Call (.Attribute o name apos) [] [] cpos) (Ni X.K T r to):=by
 intro zt s σ H Q I h;refine wpAny_Call_method0_late hbase hline (thn (ho zt s σ H _ I h) λv s1 zq=>?_);obtain ⟨x,H1,I1,r1,ty,q1⟩:=zq;obtain ⟨h1,h2⟩:=zc I1 r1 ty;exact ⟨T,id,pa,slot,hty,h1,h2,Vi rfl (PySem.evalArgs_none (hm zt s1 σ H1 x [] v [] Q I1 r1 .nil q1))⟩
theorem zd (pa:PlainAttrs T) (slot:Slot T name id) (hty:typeOf (.builtin id)=pure (.type "method_descriptor")) (hm:MtR X id r) (ho:PE X o to) (ha:PA X (e::es) t)
 (hbase:TU o name X.env (eval o X.env)=eval o X.env:=by rfl)
 (hfew:((SL cpos (QC (e::es) X.env)).all (λx=>!x.1)&&(Vd cpos (TQ [] X.env)).all (λx=>x.1.isSome)
 &&decide ((e::es).length+([]:List Ui).length+(if ([]:List Ui).isEmpty then 0 else 1) < 30))=ah:=by rfl)
 (hline:(apos.endLine==cpos.line)=ah:=by rfl) (hs:QC (e::es) X.env=(ai,eval e X.env)::QC es X.env:=by rfl) (hplain:(SL cpos (QC es X.env)).any (·.1)=ai:=by rfl) :
 PE X (.Call (.Attribute o name apos) (e::es) [] cpos) (tBM X.K T r to t):=by
 intro zt s σ H Q I h;refine wpAny_Call_method_late hbase hfew hline rfl (thn (ho zt s σ H _ I h) λv s1 zq=>?_);obtain ⟨x,H1,I1,r1,ty,q1⟩:=zq;obtain ⟨h1,h2⟩:=zc I1 r1 ty;refine ⟨T,id,pa,slot,hty,h1,h2,?_⟩;have hA:=ha cpos zt s1 σ H1 _ I1 q1;rw[hs] at hA ⊢;refine Vi (by show (ai||(SL cpos (QC es X.env)).any (·.1))=ai;rw[hplain]<;>rfl) (Calls.evalArgs_plain ?_);exact thn hA λus s2 ⟨vs,H2,I2,r2,q2⟩=>hm zt s2 σ H2 x vs v us Q I2 r1 r2 q2
/- xs.append(e),list.index on a module's tuple .. are MtR facts of 06m -/
end
end L2
namespace L2
open PySem PySem.Spec PyProof.Rows
def MtM (X:Cx) (id:String) (r:V->List V->Hp->VK->Prop):Prop :=
 ∀ (zt:List (P4×av)) (s:PX) (σ:St) (H:Hp) (x:V) (xs:List V) (v:aC) (us:List aC) (Q:VK),Inv X zt σ H s->RelV x v->dw xs us->r x xs H Q →
  aA (Qq X.prog X.w) X.A (call (.builtin id) (v::us)) (EP X zt σ Q) X.xe s
theorem dw.one {x:V}{us:List aC} (h:dw [x] us):∃ u,us=[u]/\RelV x u:=by cases h with|cons r t=>cases t;exact ⟨_,rfl,r⟩
theorem dw.two {x y:V}{us:List aC} (h:dw [x,y] us):∃ u v,us=[u,v]/\RelV x u/\RelV y v:=by cases h with|cons r t=>obtain ⟨v,rfl,q⟩:=dw.one t;exact ⟨_,v,rfl,r,q⟩
theorem dw.zero:∀ {us:List aC},dw [] us->us=[]
 | _,.nil=>rfl
theorem dw.dropLast {xs:List V}{us:List aC} (h:dw xs us):dw xs.dropLast us.dropLast:=by
 induction h with
 | nil=>exact .nil
 | cons r t ih =>
  cases t with
  | nil=>exact .nil| cons q t'=>exact .cons r ih
theorem dw.rep {xs:List V}{us:List aC} (h:dw xs us):∀ k:Nat,dw (Qi k xs).flatten (Qi k us).flatten
 | 0=>.nil
 | k+1=>by rw[Rc,Rc,RU,RU];exact dw.append h (dw.rep h k)
theorem ur {α:Type} (l:List α):l.eraseIdx (l.length - 1)=l.dropLast:=by
 induction l with
 | nil=>rfl
 | cons a r ih =>
  cases r with
  | nil=>rfl
  | cons b r =>
   have e:(a::b::r).length - 1=((b::r).length - 1)+1:=by have h1:(a::b::r).length=r.length+2:=rfl;have h2:(b::r).length=r.length+1:=rfl;lia
   rw[e,List.eraseIdx_cons_succ,ih]
   all_goals rfl
theorem foldl_rep (its:List aC):∀ (k:Nat) (acc:List aC),
 Vb (λx1 x2=>x1++x2) acc.toArray (Qi k its.toArray)=(acc++(Qi k its).flatten).toArray
 | 0,acc=>by simp
 | k+1,acc=>by
  have e:acc.toArray++its.toArray=(acc++its).toArray:=by simp
  have e2:(acc++its)++(Qi k its).flatten=acc++(Qi (k+1) its).flatten:=by rw[Rc,RU,QU]
  rw[← e2,← foldl_rep its k (acc++its),← e,Rc,List.foldl_cons]
section
variable {X:Cx}{zt:List (P4×av)}{σ:St}{H:Hp}{s:PX}{l b:P4}{xs ys zs:List V}
theorem Inv.CF {its its':List aC}{n:Nat}{f:Array aC->Array aC}{t':Nat} (I:Inv X zt σ H s) (hH:H l=aa (.lst xs))
 (e:s.heap.get? l=aa { cls:=.type "list",data:=.seq its.toArray n }) (hf:f its.toArray=its'.toArray) (hv:dw ys its') (hz:ys.length<=ao) :
 Inv X zt σ (upd H l (.lst ys)) { s with heap:=s.heap.update l (Ro f),toks:=t' }:=by
 have q:=PySem.IsL.update e f;rw[hf] at q;refine I.write (x:=l) (e:=l) (by rw[hH];exact trivial) (.inl rfl) (λb' u hb hu=>(Rg s.heap (Ro f) (QW hb)).trans hu) ⟨_,q⟩ ?_;exact ⟨hz,its',_,hv,q⟩
theorem Inv.J0 {its:List aC}{t':Nat} (I:Inv X zt σ H s) (hv:dw ys its) (hz:ys.length<=ao) :
 Inv X zt σ (upd H s.heap.objs.size (.lst ys)) { s with heap:=s.heap.push { cls:=.type "list",data:=.seq its.toArray },toks:=t' } :=
 I.laid (λ_ _ q=>PU _ q) (P6 _) ⟨hz,its,0,hv,Qf _ rfl⟩
theorem Inv.fresh (I:Inv X zt σ H s):H s.heap.objs.size=af:=I.hok.fresh (P6 _)
theorem Inv.CG (I:Inv X zt σ H s) (hH:H l=aa (.lst xs)):xs.length<=ao/\∃ (its:List aC) (n:Nat),dw xs its/\xs.length=its.length/\s.heap.get? l=aa { cls:=.type "list",data:=.seq its.toArray n }:=by obtain ⟨z,its,n,r,e⟩:=I.hok l _ hH;exact ⟨z,its,n,r,r.length,e⟩
theorem m6 {n:Nat} (h:n<=ao):Q4 n=ai:=by unfold Q4;exact decide_eq_false (by lia)
end
section
variable {X:Cx}
def CH:V->List V->Hp->VK->Prop:=λx vs H Q=>∃ l xs y,x=.ref l/\vs=[y]/\H l=aa (.lst xs)/\xs.length < ao/\Q .non (upd H l (.lst (xs++[y])))
theorem pI:MtM X "list.append" CH:=by intro zt s σ H x vs v us Q I rx rv h;obtain ⟨l,xs,y,rfl,rfl,hH,hz,q⟩:=h;cases rx;obtain ⟨u,rfl,ru⟩:=rv.one;obtain ⟨z,its,n,r,hl,e⟩:=I.CG hH;refine SI F.slot_list_append ⟨_,e,rfl⟩ F.entry_list_append (F.args_list_append_2 _ _) (PySem.list_append l its.toArray n u (by rw[PY];lia)) ⟨e,?_⟩;refine ⟨.non,_,I.CF (its':=its++[u]) hH e (by simp) (r.append (.cons ru .nil)) ?_,rfl,q⟩;rw[Qk,SA];lia
def Nj:V->List V->Hp->VK->Prop:=λx vs H Q=>∃ l xs y,x=.ref l/\vs=[]/\H l=aa (.lst xs)/\xs[xs.length - 1]?=aa y/\Q y (upd H l (.lst xs.dropLast))
theorem Gd:MtM X "list.pop" Nj:=by
 intro zt s σ H x vs v us Q I rx rv h;obtain ⟨l,xs,y,rfl,rfl,hH,hy,q⟩:=h;cases rx;have hus:=rv.zero;subst hus;obtain ⟨z,its,n,r,hl,e⟩:=I.CG hH;obtain ⟨u,hu,ru⟩:=r.get hy;have hy':its.toArray[its.toArray.size - 1]?=aa u:=by show its.toArray[its.length - 1]?=aa u;rw[← Vr,← hl];exact hu
 refine SI F.slot_list_pop ⟨_,e,rfl⟩ F.entry_list_pop (F.args_list_pop_1 _) (MeetsSeq.list_pop_last l its.toArray n u hy' (by rw[PY];lia)) ⟨e,?_⟩;refine ⟨y,_,I.CF (its':=its.dropLast) hH e ?_ r.dropLast ?_,ru,q⟩
 ·show its.toArray.eraseIdxIfInBounds (its.toArray.size - 1)=its.dropLast.toArray;rw[PY,List.eraseIdxIfInBounds_toArray,ur]
 ·rw[List.length_dropLast];lia
theorem len_rep {α:Type} (xs:List α) (k:Nat):(Qi k xs).flatten.length=k*xs.length:=by
 induction k with
 | zero=>simp| succ k ih=>rw[Rc,RU,Qk,ih,Nat.succ_mul,Nat.add_comm]
end
section
variable {prog:Qg}{w:QA}{A:QO}{E:aC->PX->Prop}{s:PX}
set_option maxRecDepth 100000 in
end
section
variable {X:Cx}
end
end L2
namespace Att
open PySem PySem.W PySem.Calls PyProof.Rows
theorem mh {P:Params}{h:ay}:∀ (ns:List Int) (vs:List aC),WellAll P h vs (ns.map WData.int)->Wa vs ns:=by
 intro ns
 induction ns with
 | nil =>
  intro vs w;rw[QL] at w;cases w;exact .nil
 | cons n ns ih =>
  intro vs w;rw[Qa] at w;cases w with
  | cons a b =>
   cases a;exact .cons _ _ (ih _ b)
theorem xu {l:OpenLaw}{n:Nat} (hn:l.most=aa n) {P:Params}{h:ay}{args:List WData}{vals:List aC}
 (hpre:l.row.toRowW.claim.pre args=ah) (hwl:WellAll P h vals args) :
 ∃ a vs ns,vals=[QF a]/\args=[WData.list (ns.map WData.int)]/\h.get? a=aa { cls:=.type "list",data:=.seq vs.toArray }/\Wa vs ns/\ns.length<=n:=by
 have hsh:WShape.hasAll [] args [.list .int]=ah:=(pre_splitW hpre).1;have hc:l.pre.holds [] { args:=args }=ah:=(pre_splitW hpre).2;obtain ⟨d,r,rfl,h1,h2⟩:=hasAllW_cons hsh;obtain rfl:=hasAllW_nil h2;obtain ⟨xs,rfl,h3⟩:=hasW_list h1;obtain ⟨ns,rfl⟩:=items_int h3;have hlen:ns.length<=n:=by
  unfold OpenLaw.pre at hc;have h4:(WTm.not (.lt (.lit (.int (n:Int))) (.len (.arg 0)))).holds [] { args:=[.list (ns.map .int)] }=ah:=by have h4:=(holds_andW hc).1;rw[hn] at h4;exact h4
  have h5:=condW_of h4 (w_not (w_lt w_lit (w_len_list (w_arg rfl))));rw[Qt] at h5;refine Nat.le_of_not_lt λq=>?_;have q':(n:Int) < ((ns.length:Nat):Int):=by lia
  first
   | (rw[decide_eq_true q'] at h5;exact absurd h5 (by decide))
   | (simp at h5;lia)
 cases hwl with
 | cons w1 w2 =>
  cases w2;cases w1 with
  | list ho hall=>exact ⟨_,_,ns,rfl,rfl,ho,mh ns _ hall,hlen⟩
theorem xw (l:OpenLaw) (args:List WData):l.row.toRowW.claim.post args (.bool ah) args=ah :=
 postW_of (r:=l.row.toRowW) (X:=(ah==ah))
  (show WShape.has [] (.bool ah) .bool=ah by first|rfl|decide|simp[WShape.has,WShape.arms,WShape.armsAll])
  (show (WTm.eq .res (.lit (.bool ah))).value [] { args:=args,res:=aa (.bool ah),after:=args }=aa (.bool (ah==ah)) from w_eq_bool (w_res rfl) w_lit) rfl
theorem rZ {l:OpenLaw}{n:Nat}{q:Qg}{loose:List aB}{XP:(aB->Option aC)->ay->Prop}{YP:QA->ay->Prop}{d:DefRec}
 (hn:l.most=aa n) (hdf:d.params.defaults=[])
 (call:∀ (w:QA) (s₀ s₁:PX) (mg mb:aB->Option aC) (fa:P4) (o:av) (pm cd doc:aC) (a:P4) (vs:List aC) (ns:List Int),
  Ground q loose [] XP w s₀ mg mb s₁.heap->YP w s₁.heap →
  s₁.heap.get? fa=aa o->o.data=.func (docDef d.name d.params d.body d.scope pm cd doc)->s₁.heap.CodeRec cd d.name->mg d.name=aa (.ref fa) →
  s₁.heap.get? a=aa { cls:=.type "list",data:=.seq vs.toArray }->Wa vs ns->ns.length<=n->s₁.gens=#[] →
  au (Qq l.prog w) V0 (.call (.ref fa) ⟨[.ref a],[]⟩) (λr s'=>r=.ok (.ret (.bool ah))/\OldK s₁.heap s'.heap/\s'.os=s₁.os/\Vt s'.gens) s₁) :
 WalkO q loose XP YP l.row.toRowW d [] (λf vs=>V4 f vs):=by
 intro w s₀ s₁ mg mb G Y fa o pm cd doc dV kV ho hd hcd hD hmg hg args vals as hpre hlay hrd hwl hlo;obtain rfl:dV=.none:=Dflts.none hD hdf;obtain rfl:kV=.none:=Dflts.noKw hD;obtain ⟨a,vs,ns,rfl,rfl,hobj,hints,hlen⟩:=xu hn hpre hwl;refine enter_call (UZ (call w s₀ s₁ mg mb fa o pm cd doc a vs ns G Y ho (fd_plain hd) hcd hmg hobj hints hlen hg) λr s' hq=>?_);obtain ⟨rfl,h2,h3,h4⟩:=hq;exact ⟨.inl ⟨.bool ah,.bool ah,[],rfl,λ_=>rfl,.bool ah,xw l _,λ_=>⟨UW,λ_ hm=>(nomatch hm)⟩⟩,h2,h3,h4⟩
section
variable {prog:Qg}{w:QA}{A:QO}{E:aC->PX->Prop}{s:PX}{K:Frag}
noncomputable def ledger (h:ay) (L d:P4):List (P4×av):=(Qm h.objs.size).filterMap λa=>if a=L\/a=d then af else (h.get? a).map λo=>(a,o)
end
end Att
namespace L2
open PySem PySem.Spec PyProof.Rows
theorem pJ:∀ {vs:List aC}{ns:List Int},Wa vs ns->dw (ns.map V.int) vs
 | _,_,.nil=>.nil| _,_,.cons n t h=>.cons ⟨t,rfl⟩ (pJ h)
end L2
namespace L2
open PySem PySem.Spec PyProof.Rows
noncomputable abbrev KOf {K:PP}{h:ay} (_:K.In h):PP:=K
end L2
/- THE LAST THEOREM (shape;LID,My.* are yours):
 My.Adr: a structure of the addresses that your layer names (classes,functions);My.Txt K t: a structure (Prop) of the equations over K;
 My.txt_mk:{K}{implicit addresses ..} (e1:nsIn K Qh "law"=aa (aa (.ref f))) (e2:K.lookup f=aa ⟨oc,od,.func (fnOf "law" "law" params body scope dV kV doc pm an cdv ct),sl⟩) (e3:codeIn K cdv "law"=ah) ..:∃ t,My.Txt K t
set_option maxRecDepth 100000 in
set_option maxHeartbeats 0 in
theorem PySem.Challenge.CJ:PySem.Challenge.rw_LID.Holds:=by
 w_on;o_law;k_head;(case hw=>w_witness2)
 k_fill
 refine L2.walk_of (l:=PySem.Challenge.rw_LID) (n:=63) (k:=40) (x:="script") (CX:=λw=>..) (sp:=λ_=>My.BJ) rfl (by decide) rfl ⟨rfl,by decide,by decide⟩ (λw h Y=>PySem.W.kIn_of Y) ?F ?S ?C
 case F =>
  intro w mg fa h KX G hmg;have T:∃ t,My.Txt (L2.KOf KX) t:=by
   dsimp only[L2.KOf] -- K must stand as «<heap const> w.params» for k_is;refine' My.txt_mk ?e1 ?e2 ?e3 ..
   (case e1=>PySem.W.k_is) -- in the order: a name->its address->its object->its parts
   (case e2=>PySem.W.k_is)
   ..
  obtain ⟨t,T⟩:=T;have e0:=hmg.symm.trans (Se KX G T.law);cases e0 -- fa is the law's own address;exact ⟨_,λs u=>.of_eq rfl,λbase kb nb=>My.law_fn T kb nb⟩ -- if «.of_eq rfl» comes too early: refine' ⟨_,?b,λbase kb nb=>My.law_fn T kb nb⟩;exact λs u=>.of_eq rfl
 case S=>exact λw H a ns hl hO hS=>..
 case C=>exact ..
(the tactic k_is has no namespace: write k_is) -/
namespace L2
open PySem PySem.Spec PyProof.Rows
abbrev CX0:CXT:=λ_ _ _ _ _ _=>False
abbrev E0:XK:=λ_ _ _=>False
theorem m7 {X:Cx}:iV CX0 X E0:=λ_ _ _ _ _ _ _ h=>h.elim
inductive J1 (K:PP) (x qual:aB) (st:Us) (f:P4) (fd:Ry):Prop where
 | mk (oc:aC) (od:Option P4) (kV doc pm:aC) (an:Option P4) (cdv ct:aC) (osl:Array (Option aC)) (h1:fd=Rj x qual (fK st) (dR st) (dh st) .none kV doc pm an cdv ct) (h2:K.lookup f=aa ⟨oc,od,.func fd,osl⟩) (h3:TJ K cdv qual=ah):J1 K x qual st f fd
structure Fun (K:PP) (x qual:aB) (st:Us) (f:P4) (fd:Ry):Prop where
 ex:J1 K x qual st f fd
 kp:Q3 K (.ref f)=ah
section
variable {P:Qg}{w:QA}{K:PP}{mg:aB->Option aC}{base:ay}
theorem Fun.binds {x qual:aB}{st:Us}{f:P4}{fd:Ry}{ps:List aB} (F:Fun K x qual st f fd)
 (h:∀ (kV doc pm:aC) (an:Option P4) (cdv ct:aC) (us:List aC),us.length=ps.length->V1 (Rj x qual (fK st) (dR st) (dh st) .none kV doc pm an cdv ct) ⟨us,[]⟩=pure (ps.zip us)):Binds K fd ps []:=by
 obtain ⟨oc,od,kV,doc,pm,an,cdv,ct,osl,rfl,lk,hcd⟩:=F.ex;exact .all (h kV doc pm an cdv ct)
theorem Ge {x qual:aB}{st:Us}{f:P4}{oc:aC}{od an:Option P4}{osl:Array (Option aC)}{kV doc pm cdv ct:aC} (l:K.lookup f=aa ⟨oc,od,.func (Rj x qual (fK st) (dR st) (dh st) .none kV doc pm an cdv ct),osl⟩)
 (c:TJ K cdv qual=ah) (k:Q3 K (.ref f)=ah):Fun K x qual st f (Rj x qual (fK st) (dR st) (dh st) .none kV doc pm an cdv ct):=⟨⟨oc,od,kV,doc,pm,an,cdv,ct,osl,rfl,l,c⟩,k⟩
end
theorem xy {n:Nat} (h:n<=1000):n < ao:=Nat.lt_of_le_of_lt h (by decide)
section
variable {X:Cx}
end
end L2
end
section
namespace L2
open PySem PySem.Spec PyProof.Rows
section
variable {κ:Type} [DecidableEq κ]
noncomputable def r8 (kvs:List (κ×V)) (k:κ):Option V:=(kvs.find? λkv=>decide (kv.1=k)).map (·.2)
noncomputable def putK (kvs:List (κ×V)) (k:κ) (v:V):List (κ×V) :=
 if (kvs.any λkv=>decide (kv.1=k))=ah then kvs.map (λkv=>if kv.1=k then (kv.1,v) else kv) else kvs++[(k,v)]
theorem r9 {p:κ×V}{r:List (κ×V)}{k:κ} (e:p.1=k):r8 (p::r) k=aa p.2:=by simp[r8,Sn,e]
theorem sf {p:κ×V}{r:List (κ×V)}{k:κ} (e:¬ p.1=k):r8 (p::r) k=r8 r k:=by simp[r8,Sn,e]
theorem KV.val {kvs:List (κ×V)}{vs:List (κ×aC)} (r:KV kvs vs) (k:κ):mT (r8 kvs k) (valueAt vs k):=by
 unfold KV at r
 induction r with
 | nil=>exact Sd
 | @cons p q ps qs h t ih =>
  obtain ⟨h1,h2⟩:=h
  by_cases e:p.1=k
  ·have e':q.1=k:=h1.symm.trans e;have b:valueAt (q::qs) k=aa q.2:=by simp[valueAt,Sn,e']
   rw[r9 e,b];exact h2
  ·have e':¬ q.1=k:=λz=>e (h1.trans z);have b:valueAt (q::qs) k=valueAt qs k:=by simp[valueAt,Sn,e']
   rw[sf e,b];exact ih
end
theorem ze {P:Qg}{w:QA}{k:Key}{u:aC} (r:RelV (kV k) u):(dM P w).is k u=ah:=by
 cases k with
 | inl i=>obtain ⟨t,e⟩:=(show ∃ t,u=Ud i t from r);subst e;exact rN P w i t| inr x=>obtain ⟨t,e⟩:=(show ∃ t,u=Vo x t from r);subst e;exact jn P w x t
section
variable {P:Qg}{w:QA}{H:Hp}{h:ay}{a:P4}
theorem J2 {u:HO} (ok:HOk P w H h) (e:Rd H a u):gi P w H h a u:=e.ok ok
theorem J3 {kvs:List (Key×V)} (ok:HOk P w H h) (e:Rd H a (.dK kvs)):kvs.length<=ao/\(a==SH)=ai/\∃ vs,KV kvs vs/\h.DictOf (dM P w) a vs :=
 show gi P w H h a (.dK kvs) from J2 ok e
end
section
variable {X:Cx}{zt:List (P4×av)}{σ:St}{H:Hp}{s:PX}{a:P4}{y v:V}{u r:aC}{o:Option V}{A:QO}{E:aC->PX->Prop}
end
end L2
end
section
namespace BT
open PySem PySem.W PyProof.Rows
noncomputable def Ends {α:Type} (n:Nat) (P:α->Prop):KasT α->Prop
 | .ret a=>P a| .ask i j k=>i < n/\j < n/\∀ b,Ends n P (k b)
end BT
end
section
namespace BS
open PySem PySem.W PySem.Spec PyProof.Rows
section
variable {E:aC->PX->Prop}
end
end BS
end
section
namespace BX
open PySem PyProof.Rows
section
variable {prog:Qg}{w:QA}{A:QO}{E:aC->PX->Prop}{s:PX}
end
section
variable {prog:Qg}{w:QA}{A:QO}{E:aC->PX->Prop}{R:Result->PX->Prop}
end
section
variable {prog:Qg}{w:QA}{A:QO}{E:aC->PX->Prop}{s:PX}
end
section
variable {prog:Qg}{w:QA}{A:QO}{E:aC->PX->Prop}{s:PX}
end
end BX
end
section
namespace BX
open PySem PySem.Spec PyProof.Rows
section
variable {prog:Qg}{w:QA}{A:QO}{E:aC->PX->Prop}{h:ay}{g:Array GenState}{d:Drawn}{t:Nat}{os:OsState}{a:P4}{o:av}
end
section
variable {prog:Qg}{w:QA}{K:Type} [DecidableEq K] {knd:KeyKind prog w K}{A:QO}{E:aC->PX->Prop}{s:PX}
end
end BX
end
section
namespace BT
open PySem
theorem eW {P:Prop} (h:ai=ah):P:=nomatch h
theorem CK {P:Prop} (h:ah=ai):P:=nomatch h
theorem gZ {β:Type}{a:β}{P:Prop} (h:(af:Option β)=aa a):P:=nomatch h
inductive D where
 | non|bl (b:Bool)|int (i:Int)|str (x:aB)|tup (xs:List D)|lst (xs:List D)
inductive FK where
 | f (x:aB)|m (c x:aB)|l (i:Nat)
 deriving DecidableEq
instance:Coe String FK:=⟨λs=>.f (Qd s)⟩
inductive Cp where
 | p (d:D)|o (n:Nat)
noncomputable abbrev Ky:=Int ⊕ aB
inductive Kd where
 | t (kvs:List (aB×D))|l (kvs:List (Ky×D))
inductive W where
 | p (d:D)|r (n:Nat)|k (kvs:Kd)|o (n:Nat)|c (f:FK) (cs:List Cp)|x (c:aB)
noncomputable def Cp.w:Cp->W
 | .p d=>.p d| .o n=>.o n
@[simp] theorem Cp.w_p (d:D):Cp.w (.p d)=.p d:=rfl
@[simp] theorem Cp.w_o (n:Nat):Cp.w (.o n)=.o n:=rfl
noncomputable def vq:W->Option Cp
 | .p d=>aa (.p d)| .o n=>aa (.o n)| .r _=>af| .k _=>af| .c _ _=>af| .x _=>af
@[simp] theorem L4 (d:D):vq (.p d)=aa (.p d):=rfl
@[simp] theorem L5 (n:Nat):vq (.o n)=aa (.o n):=rfl
inductive Cl where
 | l (xs:List D)|o (c:aB) (fs:List (aB×W))|d (kvs:List (Ky×D))|z|b (ns:List Nat)
noncomputable abbrev HH:=List Cl
noncomputable abbrev Sl:=List (Option W)
set_option genInjectivity false in
inductive Bin where
 | add|sub|mul|mod|fdiv
set_option genInjectivity false in
inductive Cm where
 | eq|ne|lt|le|gt|ge|isN|notN|mem
set_option genInjectivity false in
inductive Sr where
 | seq|rng1|rng2|rev|enu|zip2|rng3|itm|chs|zipG
inductive Bi where
 | len|int|str|list|tuple|all|isInt|isBool|isStr|isTuple|max2
 | lzip|min1
set_option genInjectivity false in
inductive Me where
 | append|pop|extend|tindex|sindex|dget|count|lindex
inductive Tx where
 | join|split|str|intS|all|inS|ninS|dget|pre
inductive Dk where
 | of|ks|so|it
set_option genInjectivity false in
mutual
inductive E where
 | var (i:Nat)
 | cst (d:D)
 | glo (x:aB)
 | bin (o:Bin) (a b:E)
 | neg (a:E)
 | not (a:E)
 | and (a b:E)
 | or (a b:E)
 | cmp (o:Cm) (a b:E)
 | chain (o o':Cm) (a b c:E)
 | ite (c a b:E)
 | tup (as:Es)
 | lst (mu:Bool) (as:Es)
 | idx (a i:E)
 | slc (a:E) (lo hi:Es)
 | rvs (a:E)
 | stp (mu:Bool) (k:Int) (a:E)
 | call (f:aB) (as:Es)
 | fld (a:E) (f:aB)
 | meth (o:E) (m:aB) (as:Es)
 | make (c:aB) (as:Es)
 | bi (b:Bi) (mu:Bool) (as:Es)
 | me (m:Me) (o:E) (as:Es)
 | comp (mu:Bool) (sr:Sr) (sa:Es) (tg:List aB) (fv:List (Nat×aB)) (cond:Es) (elt:E)
 | callv (i:Nat) (as:Es)
 | methL (o:E) (m:aB) (as:Es) (L:Nat) (fv:List (Nat×aB))
 | obl (a:E)
 | oba (o a:E)
 | obi (o i:E)
 | obn (o:E)
 | sup (c:aB) (as:Es)
inductive Es where
 | nil
 | cons (a:E) (as:Es)
end
set_option genInjectivity false in
inductive S where
 | nil
 | seq (a b:S)
 | set (i:Nat) (e:E)
 | unp (xs:List (Nat×aB)) (e:E)
 | aug (i:Nat) (o:Bin) (e:E)
 | put (i:Nat) (k e:E)
 | setf (o:E) (f:aB) (e:E)
 | augf (o:E) (f:aB) (op:Bin) (e:E)
 | ex (e:E)
 | ret (e:E)
 | ife (c:E) (a b:S)
 | whl (c:E) (b:S)
 | for (tg:List (Nat×aB)) (sr:Sr) (sa:Es) (b:S)
 | brk|cnt
 | bad
 | rai (c:aB) (e:E)
set_option genInjectivity false in
structure Fn where
 ps:List aB
 ns:List aB
 body:S
noncomputable abbrev Z9 (a:E):Es:=.cons a .nil
noncomputable abbrev Z8 (a b:E):Es:=.cons a (.cons b .nil)
noncomputable abbrev Z7 (a b c:E):Es:=.cons a (.cons b (.cons c .nil))
noncomputable abbrev Z6 (a b c d:E):Es:=.cons a (.cons b (.cons c (.cons d .nil)))
noncomputable abbrev Z5 (a b c d e:E):Es:=.cons a (.cons b (.cons c (.cons d (.cons e .nil))))
noncomputable abbrev Z4 (a b c d e f:E):Es:=.cons a (.cons b (.cons c (.cons d (.cons e (.cons f .nil)))))
noncomputable abbrev Z2 (a b c d e f g h:E):Es:=.cons a (.cons b (.cons c (.cons d (.cons e (.cons f (.cons g (.cons h .nil)))))))
noncomputable def bnd {α β:Type} (x:Option (α×HH)) (k:α->HH->Option β):Option β :=
 match x with|some (a,h)=>k a h|none=>af
@[simp] theorem dQ (a:α) (h:HH) (k:α->HH->Option β):bnd (aa (a,h)) k=k a h:=rfl
@[simp] theorem J4 (k:α->HH->Option β):bnd af k=af:=rfl
@[simp] noncomputable def lim:Nat:=100000
mutual
@[simp] noncomputable def eqv:D->D->Bool
 | .non,.non=>ah| .bl a,.bl b=>a==b| .bl a,.int j=>(if a then (1:Int) else 0)==j| .int i,.bl b=>i==(if b then (1:Int) else 0)| .int i,.int j=>i==j| .str x,.str y=>x==y| .tup xs,.tup ys=>oN xs ys| .lst xs,.lst ys=>oN xs ys| _,_=>ai
@[simp] noncomputable def oN:List D->List D->Bool
 | [],[]=>ah| x::xs,y::ys=>eqv x y&&oN xs ys| _,_=>ai
end
noncomputable def m8:Cl->Option (List D)
 | .l xs=>aa xs| .o _ _=>af| .d _=>af| .z=>af| .b _=>af
noncomputable def oO:Cl->Option (aB×List (aB×W))
 | .l _=>af| .o c fs=>aa (c,fs)| .d _=>af| .z=>af| .b _=>af
noncomputable def xA:Cl->Option (List (Ky×D))
 | .l _=>af| .o _ _=>af| .d kvs=>aa kvs| .z=>af| .b _=>af
noncomputable def lY:Cl->Option (List Nat)
 | .b ns=>aa ns| _=>af
@[simp] theorem Nk (ns:List Nat):m8 (.b ns)=af:=rfl
@[simp] theorem Nl (ns:List Nat):oO (.b ns)=af:=rfl
@[simp] theorem Nn (ns:List Nat):xA (.b ns)=af:=rfl
@[simp] theorem L6 (ns:List Nat):lY (.b ns)=aa ns:=rfl
@[simp] theorem L7 (xs:List D):lY (.l xs)=af:=rfl
@[simp] theorem L8 (c:aB) (fs:List (aB×W)):lY (.o c fs)=af:=rfl
@[simp] theorem Np (kvs:List (Ky×D)):m8 (.d kvs)=af:=rfl
@[simp] theorem Nq (kvs:List (Ky×D)):oO (.d kvs)=af:=rfl
@[simp] theorem Nr (kvs:List (Ky×D)):xA (.d kvs)=aa kvs:=rfl
@[simp] theorem Nt:m8 .z=af:=rfl
@[simp] theorem Nu:oO .z=af:=rfl
@[simp] theorem Nv:xA .z=af:=rfl
@[simp] theorem Nx (xs:List D):xA (.l xs)=af:=rfl
@[simp] theorem Ny (c:aB) (fs:List (aB×W)):xA (.o c fs)=af:=rfl
@[simp] theorem Gf (xs:List D):m8 (.l xs)=aa xs:=rfl
@[simp] theorem Nz (c:aB) (fs:List (aB×W)):m8 (.o c fs)=af:=rfl
@[simp] theorem NB (xs:List D):oO (.l xs)=af:=rfl
@[simp] theorem Gg (c:aB) (fs:List (aB×W)):oO (.o c fs)=aa (c,fs):=rfl
noncomputable def lat (h:HH) (n:Nat):Option (List D):=(h[n]?).bind m8
noncomputable def oat (h:HH) (n:Nat):Option (aB×List (aB×W)):=(h[n]?).bind oO
noncomputable def dat (h:HH) (n:Nat):Option (List (Ky×D)):=(h[n]?).bind xA
noncomputable def bat (h:HH) (n:Nat):Option (List Nat):=(h[n]?).bind lY
noncomputable def oQ:D->Option Ky
 | .non=>af| .bl _=>af| .int i=>aa (.inl i)| .str x=>aa (.inr x)| .tup _=>af| .lst _=>af
@[simp] theorem J5 (i:Int):oQ (.int i)=aa (.inl i):=rfl
@[simp] theorem J6 (x:aB):oQ (.str x)=aa (.inr x):=rfl
noncomputable def Gi:Ky->D
 | .inl i=>.int i| .inr x=>.str x
@[simp] theorem NC (i:Int):Gi (.inl i)=.int i:=rfl
@[simp] theorem ND (x:aB):Gi (.inr x)=.str x:=rfl
noncomputable def fM (kvs:List (Ky×D)) (k:Ky):Option D:=(kvs.find? λkv=>decide (kv.1=k)).map (·.2)
noncomputable def E3 (kvs:List (Ky×D)) (k:Ky) (v:D):List (Ky×D) :=
 if (kvs.any λkv=>decide (kv.1=k))=ah then kvs.map (λkv=>if kv.1=k then (kv.1,v) else kv) else kvs++[(k,v)]
noncomputable def rd (w:W) (h:HH):Option D:=match w with
 | .p d=>aa d| .r n=>(lat h n).map D.lst| .k _=>af| .o _=>af| .c _ _=>af| .x _=>af
@[simp] theorem PC (d:D) (h:HH):rd (.p d) h=aa d:=rfl
noncomputable def big (i:Int):Bool:=decide (i.natAbs < 2 ^ 64)
noncomputable def rep (k:Nat) (xs:List D):List D:=(Qi k xs).flatten
noncomputable def j7:Bin->D->D->Option D
 | .add,.int i,.int j=>aa (.int (i+j))
 | .add,.str x,.str y=>if x.length+y.length<=lim then aa (.str (x++y)) else af
 | .add,.tup xs,.tup ys=>if xs.length+ys.length<=lim then aa (.tup (xs++ys)) else af
 | .add,.lst xs,.lst ys=>if xs.length+ys.length<=lim then aa (.lst (xs++ys)) else af
 | .sub,.int i,.int j=>aa (.int (i - j))
 | .mul,.int i,.int j=>if big i||big j then aa (.int (i*j)) else af
 | .mul,.tup xs,.int k=>if 2<=k&&k<=1000&&!xs.isEmpty&&xs.length*k.toNat<=lim then aa (.tup (rep k.toNat xs)) else af
 | .mul,.lst xs,.int k=>if -1000<=k&&k<=1000&&xs.length*k.toNat<=lim then aa (.lst (rep k.toNat xs)) else af
 | .mod,.int i,.int j=>if 0 < j then aa (.int (i % j)) else af
 | .fdiv,.int i,.int j=>if 0 < j&&j < 1073741824 then aa (.int (i / j)) else af
 | _,_,_=>af
noncomputable def ng:Bin->D->D->Option D
 | .add,.int i,.int j=>aa (.int (i+j))| .sub,.int i,.int j=>aa (.int (i - j))
 | .mul,.int i,.int j=>if big i||big j then aa (.int (i*j)) else af
 | _,_,_=>af
@[simp] theorem J7 (i j:Int):ng .add (.int i) (.int j)=aa (.int (i+j)):=rfl
@[simp] theorem J8 (i j:Int):ng .sub (.int i) (.int j)=aa (.int (i - j)):=rfl
@[simp] theorem sj (i j:Int):ng .mul (.int i) (.int j)=if big i||big j then aa (.int (i*j)) else af:=rfl
@[simp] noncomputable def place (n:Nat) (i:Int):Option Nat :=
 if 0<=i then (if i < n then aa i.toNat else af) else if -(n:Int)<=i then aa (i+n).toNat else af
@[simp] noncomputable def atP {α:Type} (xs:List α) (i:Int):Option α:=(place xs.length i).bind λj=>xs[j]?
@[simp] noncomputable def fG (k:aB):List (aB×D)->Option D
 | []=>af
 | (x,d)::r=>if k=x then aa d else fG k r
noncomputable def dN:D->D->Option D
 | .tup xs,.int i=>atP xs i| .lst xs,.int i=>atP xs i
 | .str x,.int i=>if x.length<=lim then (atP x.cps.toList i).map λc=>.str ⟨#[c]⟩ else af
 | _,_=>af
@[simp] noncomputable def clip (n d:Nat):Option Int->Nat
 | none=>d
 | some v=>if v < 0 then (v+(n:Int)).toNat else if v<=(n:Int) then v.toNat else n
@[simp] noncomputable def cut (xs:List D) (lo hi:Option Int):List D:=(xs.drop (clip xs.length 0 lo)).take (clip xs.length xs.length hi - clip xs.length 0 lo)
@[simp] noncomputable def qk:List D->Option (Option Int)
 | []=>aa af| [.int i]=>aa (aa i)| _=>af
noncomputable def qm (x:D) (lo hi:Option Int):Option D:=match x with
 | .tup xs=>aa (.tup (cut xs lo hi))| .lst xs=>aa (.lst (cut xs lo hi))| _=>af
noncomputable def dok:Nat->D->Bool
 | _,.non=>ah| _,.bl _=>ah| _,.int _=>ah| _,.str _=>ah| 0,.tup _=>ai| 0,.lst _=>ai| n+1,.tup xs=>xs.all (dok n)| n+1,.lst xs=>xs.all (dok n)
@[simp] theorem Ma (n:Nat):dok n .non=ah:=by cases n<;>rfl
@[simp] theorem NF (n:Nat) (b:Bool):dok n (.bl b)=ah:=by cases n<;>rfl
@[simp] theorem CM (n:Nat) (i:Int):dok n (.int i)=ah:=by cases n<;>rfl
@[simp] theorem Mb (n:Nat) (x:aB):dok n (.str x)=ah:=by cases n<;>rfl
@[simp] theorem vv (n:Nat) (xs:List D):dok (n+1) (.tup xs)=xs.all (dok n):=rfl
@[simp] theorem qo (n:Nat) (xs:List D):dok (n+1) (.lst xs)=xs.all (dok n):=rfl
noncomputable def eU (x y:D):Bool:=dok 100 x||dok 100 y
@[simp] theorem J9 (x:D) (y:aB):eU x (.str y)=ah:=by simp[eU]
@[simp] theorem Ka (x:D) (y:Int):eU x (.int y)=ah:=by simp[eU]
@[simp] theorem IR (x:D) (y:aB):eU (.str y) x=ah:=by simp[eU]
@[simp] theorem IS (x:D) (y:Int):eU (.int y) x=ah:=by simp[eU]
@[simp] theorem IT (x:D):eU x (.tup [])=ah:=by simp[eU,dok]
@[simp] theorem IU (x:D):eU x (.lst [])=ah:=by simp[eU,dok]
@[simp] theorem Mc (x:D) (b:Bool):eU x (.bl b)=ah:=by simp[eU]
theorem j8 (h:dok 100 y=ah):eU x y=ah:=by simp[eU,h]
noncomputable def ju:D->Bool
 | .non=>ah| .bl _=>ai| .int _=>ai| .str _=>ai| .tup _=>ai| .lst _=>ai
@[simp] theorem IV:ju .non=ah:=rfl
@[simp] theorem Kc (z:Bool):ju (.bl z)=ai:=rfl
@[simp] theorem IW (z:Int):ju (.int z)=ai:=rfl
@[simp] theorem IX (z:aB):ju (.str z)=ai:=rfl
@[simp] theorem IY (z:List D):ju (.tup z)=ai:=rfl
@[simp] theorem IZ (z:List D):ju (.lst z)=ai:=rfl
noncomputable def qp (b:Bool):D->Bool
 | .non=>ai| .bl c=>c==b| .int _=>ai| .str _=>ai| .tup _=>ai| .lst _=>ai
@[simp] theorem Ke (b:Bool):qp b .non=ai:=rfl
@[simp] theorem Mf (b z:Bool):qp b (.bl z)=(z==b):=rfl
@[simp] theorem Kf (b:Bool) (z:Int):qp b (.int z)=ai:=rfl
@[simp] theorem Kg (b:Bool) (z:aB):qp b (.str z)=ai:=rfl
@[simp] theorem Kl (b:Bool) (z:List D):qp b (.tup z)=ai:=rfl
@[simp] theorem Km (b:Bool) (z:List D):qp b (.lst z)=ai:=rfl
noncomputable def fN:Cm->D->D->Option Bool
 | .eq,x,y=>if eU x y then aa (eqv x y) else af
 | .ne,x,y=>if eU x y then aa (!eqv x y) else af
 | .lt,.int i,.int j=>aa (decide (i < j))| .le,.int i,.int j=>aa (decide (i<=j))| .gt,.int i,.int j=>aa (decide (j < i))| .ge,.int i,.int j=>aa (decide (j<=i))| .isN,x,.non=>aa (ju x)| .notN,x,.non=>aa (!ju x)| .notN,x,.bl b=>aa (!qp b x)
 | .mem,x,.tup ys=>if ys.all λy=>eU y x then aa (ys.any λy=>eqv y x) else af
 | .mem,x,.lst ys=>if ys.all λy=>eU y x then aa (ys.any λy=>eqv y x) else af
 | _,_,_=>af
@[simp] noncomputable def intsOf:List D->Option (List Int)
 | []=>aa []| .int i::r=>(intsOf r).map (i :: ·)| _=>af
@[simp] noncomputable def allB:List D->Option Bool
 | []=>aa ah
 | .bl b::r=>if b then allB r else aa ai
 | _=>af
@[simp] noncomputable def anyB:List D->Option Bool
 | []=>aa ai
 | .bl b::r=>if b then aa ah else anyB r
 | _=>af
noncomputable def isI:D->Bool
 | .non=>ai| .bl _=>ah| .int _=>ah| .str _=>ai| .tup _=>ai| .lst _=>ai
@[simp] theorem Mg:isI .non=ai:=rfl
@[simp] theorem NG (z:Bool):isI (.bl z)=ah:=rfl
@[simp] theorem Mh (z:Int):isI (.int z)=ah:=rfl
@[simp] theorem Mi (z:aB):isI (.str z)=ai:=rfl
@[simp] theorem Mj (z:List D):isI (.tup z)=ai:=rfl
@[simp] theorem Ml (z:List D):isI (.lst z)=ai:=rfl
noncomputable def isB:D->Bool
 | .non=>ai| .bl _=>ah| .int _=>ai| .str _=>ai| .tup _=>ai| .lst _=>ai
@[simp] theorem Mm:isB .non=ai:=rfl
@[simp] theorem NH (z:Bool):isB (.bl z)=ah:=rfl
@[simp] theorem Mn (z:Int):isB (.int z)=ai:=rfl
@[simp] theorem Mp (z:aB):isB (.str z)=ai:=rfl
@[simp] theorem Mq (z:List D):isB (.tup z)=ai:=rfl
@[simp] theorem Mr (z:List D):isB (.lst z)=ai:=rfl
noncomputable def isS:D->Bool
 | .non=>ai| .bl _=>ai| .int _=>ai| .str _=>ah| .tup _=>ai| .lst _=>ai
@[simp] theorem Ms:isS .non=ai:=rfl
@[simp] theorem NI (z:Bool):isS (.bl z)=ai:=rfl
@[simp] theorem Mt (z:Int):isS (.int z)=ai:=rfl
@[simp] theorem Mu (z:aB):isS (.str z)=ah:=rfl
@[simp] theorem Mv (z:List D):isS (.tup z)=ai:=rfl
@[simp] theorem Mw (z:List D):isS (.lst z)=ai:=rfl
noncomputable def isT:D->Bool
 | .non=>ai| .bl _=>ai| .int _=>ai| .str _=>ai| .tup _=>ah| .lst _=>ai
@[simp] theorem Mx:isT .non=ai:=rfl
@[simp] theorem NJ (z:Bool):isT (.bl z)=ai:=rfl
@[simp] theorem Mz (z:Int):isT (.int z)=ai:=rfl
@[simp] theorem MA (z:aB):isT (.str z)=ai:=rfl
@[simp] theorem MB (z:List D):isT (.tup z)=ah:=rfl
@[simp] theorem MC (z:List D):isT (.lst z)=ai:=rfl
noncomputable def isL:D->Bool
 | .non=>ai| .bl _=>ai| .int _=>ai| .str _=>ai| .tup _=>ai| .lst _=>ah
noncomputable def sortI (ns:List Int):List Int:=ns.mergeSort λa b=>decide (a<=b)
noncomputable def PD:List Int->Option Int
 | []=>af| n::ns=>aa (ns.foldl max n)
noncomputable def Gj:List Int->Option Int
 | []=>af| n::ns=>aa (ns.foldl min n)
@[simp] noncomputable def oR:List D->List D->List D
 | x::xs,y::ys=>.tup [x,y]::oR xs ys| _,_=>[]
noncomputable def ded (ns:List Int):List Int:=ns.foldl (fun σ v=>if σ.any (·==v) then σ else σ++[v]) []
noncomputable def O9 (a b c:Int):Nat:=if a < b then ((b - a - 1) / c+1).toNat else 0
noncomputable def stepI (a c:Int) (n:Nat):List Int:=(Qm n).map λ(k:Nat)=>a+(k:Int)*c
noncomputable def biD:Bi->List D->Option D
 | .len,[.tup xs]=>aa (.int xs.length)| .len,[.lst xs]=>aa (.int xs.length)
 | .len,[.str x]=>if x.length<=lim then aa (.int x.length) else af
 | .int,[.int i]=>aa (.int i)| .int,[.bl b]=>aa (.int (if b then 1 else 0))
 | .str,[.int i]=>if big i then aa (.str (toString i)) else af
 | .tuple,[.lst xs]=>aa (.tup xs)| .tuple,[.tup xs]=>aa (.tup xs)| .list,[.lst xs]=>aa (.lst xs)| .list,[.tup xs]=>aa (.lst xs)| .all,[.lst xs]=>(allB xs).map .bl| .isInt,[x]=>aa (.bl (isI x))| .isBool,[x]=>aa (.bl (isB x))| .isStr,[x]=>aa (.bl (isS x))| .isTuple,[x]=>aa (.bl (isT x))| .max2,[.int i,.int j]=>aa (.int (if j > i then j else i))
 | .lzip,[.tup xs,.tup ys]=>if 0 < xs.length/\xs.length=ys.length then aa (.lst (oR xs ys)) else af
 | .min1,[.lst xs]=>(intsOf xs).bind λns=>(Gj ns).map .int
 | _,_=>af
@[simp] noncomputable def pK:Nat->List D->List D
 | _,[]=>[]| k,x::r=>.tup [.int k,x]::pK (k+1) r
noncomputable def qq:D->Option (List D)
 | .tup xs=>aa xs| .lst xs=>aa xs| _=>af
noncomputable def upto (lo:Int) (n:Nat):List D:=(Qm n).map λ(k:Nat)=>D.int (lo+(k:Int))
noncomputable def down (a:Int) (n:Nat):List D:=(Qm n).map λi=>.int (a - (i:Nat))
noncomputable def Gk (x:aB):List D:=x.cps.toList.map λc=>.str ⟨#[c]⟩
noncomputable def CO:D->Option (List D)
 | .tup xs=>aa xs| .lst xs=>aa xs| .str x=>aa (Gk x)| _=>af
noncomputable def gP:Sr->List D->Option (List D)
 | .seq,[x]=>qq x
 | .rng1,[.int n]=>if -100000<=n&&n<=100000 then aa (upto 0 n.toNat) else af
 | .rng2,[.int a,.int b]=>if -100000<=a&&a<=100000&&-100000<=b&&b<=100000 then aa (upto a (b - a).toNat) else af
 | .rev,[.lst xs]=>aa xs.reverse| .enu,[.lst xs]=>aa (pK 0 xs)| .zip2,[.lst xs,.lst ys]=>aa (oR xs ys)| .itm,[.lst xs]=>aa xs| .chs,[.str x]=>aa (Gk x)
 | .zipG,[x,y]=>(CO x).bind λxs=>(CO y).map (oR xs)
 | .rng3,[.int a,.int b,.int c]=>if c=-1/\-100000<=a/\a<=100000/\-100000<=b/\b<=100000 then aa (down a (a - b).toNat) else af
 | _,_=>af
@[simp] noncomputable def jv (x:D):List D->Nat->Option Nat
 | [],_=>af
 | y::r,k=>if eqv y x then aa k else jv x r (k+1)
@[simp] noncomputable def Kn (c:Nat):List Nat->Nat->Option Nat
 | [],_=>af
 | y::r,k=>if y=c then aa k else Kn c r (k+1)
@[simp] noncomputable def dP:List W->Option (List D)
 | []=>aa []| .p d::r=>(dP r).map (d :: ·)| .r _::_=>af| .k _::_=>af| .o _::_=>af| .c _ _::_=>af| .x _::_=>af
noncomputable def meD:Me->D->List D->Option D
 | .tindex,.tup xs,[x]=>if xs.all λy=>eU y x then (jv x xs 0).map λ(q:Nat)=>D.int (q:Int) else af
 | .sindex,.str x,[.str y]=>match RZ x y 0 x.length 1 with
  | i::_=>aa (.int (i:Int))| []=>af
 | .count,.lst xs,[x]=>if xs.all λy=>eU y x then aa (.int ((xs.countP λy=>eqv y x:Nat):Int)) else af
 | .lindex,.lst xs,[x]=>if xs.all λy=>eU y x then (jv x xs 0).map λ(q:Nat)=>D.int (q:Int) else af
 | _,_,_=>af
theorem zf:meD .tindex (.tup xs) [x]=if xs.all λy=>eU y x then (jv x xs 0).map λ(q:Nat)=>D.int (q:Int) else af:=rfl
theorem zh:meD .sindex (.str x) [.str y]=match RZ x y 0 x.length 1 with
 | i::_=>aa (.int (i:Int))| []=>af:=rfl
noncomputable def meW (m:Me) (o:W) (as:List W) (h:HH):Option (W×HH):=match m,o,as with
 | .append,.r n,[.p d]=>match lat h n with
  | some xs=>if xs.length < lim then aa (.p .non,h.set n (.l (xs++[d]))) else af
  | none=>af
 | .pop,.r n,[]=>match lat h n with
  | some xs=>match xs.getLast? with
   | some d=>aa (.p d,h.set n (.l xs.dropLast))| none=>af
  | none=>af
 | .extend,.r n,[w]=>match lat h n,(rd w h).bind qq with
  | some xs,aa ys=>if xs.length+ys.length<=lim then aa (.p .non,h.set n (.l (xs++ys))) else af
  | _,_=>af
 | .dget,.k (.t kvs),[.p (.str x)]=>aa (.p ((fG x kvs).getD .non),h)| .dget,.k (.t _),[.p .non]=>aa (.p .non,h)| .dget,.k (.t kvs),[.p (.str x),.p d]=>aa (.p ((fG x kvs).getD d),h)
 | m,.p d,as=>match dP as with
  | some ds=>(meD m d ds).map λx=>(.p x,h)
  | none=>af
 | _,_,_=>af
section
variable (n:Nat) (d:D) (h:HH) (kvs:List (aB×D)) (x:aB) (as:List W)
@[simp] theorem j9:meW .append (.r n) [.p d] h=match lat h n with
 | some xs=>if xs.length < lim then aa (.p .non,h.set n (.l (xs++[d]))) else af
 | none=>af:=rfl
@[simp] theorem CP:meW .pop (.r n) [] h=match lat h n with
 | some xs=>match xs.getLast? with
  | some d=>aa (.p d,h.set n (.l xs.dropLast))| none=>af
 | none=>af:=rfl
@[simp] theorem uu (w:W):meW .extend (.r n) [w] h=match lat h n,(rd w h).bind qq with
 | some xs,aa ys=>if xs.length+ys.length<=lim then aa (.p .non,h.set n (.l (xs++ys))) else af
 | _,_=>af:=rfl
@[simp] theorem nh:meW .tindex (.p d) as h=match dP as with
 | some ds=>(meD .tindex d ds).map λx=>(.p x,h)
 | none=>af:=rfl
@[simp] theorem I0:meW .count (.p d) as h=match dP as with
 | some ds=>(meD .count d ds).map λx=>(.p x,h)
 | none=>af:=rfl
@[simp] theorem Gm:meW .lindex (.p d) as h=match dP as with
 | some ds=>(meD .lindex d ds).map λx=>(.p x,h)
 | none=>af:=rfl
@[simp] theorem nj:meW .sindex (.p d) as h=match dP as with
 | some ds=>(meD .sindex d ds).map λx=>(.p x,h)
 | none=>af:=rfl
end
noncomputable def new (mu:Bool) (xs:List D) (h:HH):W×HH:=if mu then (.r h.length,h++[.l xs]) else (.p (.lst xs),h)
@[simp] theorem Pa (xs:List D) (h:HH):new ai xs h=(.p (.lst xs),h):=rfl
@[simp] theorem Pb (xs:List D) (h:HH):new ah xs h=(.r h.length,h++[.l xs]):=rfl
@[simp] noncomputable def rds (ws:List W) (h:HH):Option (List D):=match ws with
 | []=>aa []
 | w::r=>(rd w h).bind λd=>(rds r h).map (d :: ·)
noncomputable def unpack (n:Nat):D->Option (List D)
 | .tup xs=>if xs.length=n then aa xs else af
 | .lst xs=>if xs.length=n then aa xs else af
 | _=>af
noncomputable def target (n:Nat) (d:D):Option (List D):=if n=1 then aa [d] else unpack n d
section
variable (i j k a b:Int) (c:Bool) (x y:aB) (xs ys:List D) (kvs:List (aB×D)) (d e:D) (lo hi:Option Int)
@[simp] theorem su:j7 .add (.int i) (.int j)=aa (.int (i+j)):=rfl
@[simp] theorem nk:j7 .add (.str x) (.str y)=if x.length+y.length<=lim then aa (.str (x++y)) else af:=rfl
@[simp] theorem nq:j7 .add (.tup xs) (.tup ys)=if xs.length+ys.length<=lim then aa (.tup (xs++ys)) else af:=rfl
@[simp] theorem kg:j7 .add (.lst xs) (.lst ys)=if xs.length+ys.length<=lim then aa (.lst (xs++ys)) else af:=rfl
@[simp] theorem nt:j7 .sub (.int i) (.int j)=aa (.int (i - j)):=rfl
@[simp] theorem sy:j7 .mul (.int i) (.int j)=if big i||big j then aa (.int (i*j)) else af:=rfl
@[simp] theorem nu:j7 .mul (.tup xs) (.int k)=if 2<=k&&k<=1000&&!xs.isEmpty&&xs.length*k.toNat<=lim then aa (.tup (rep k.toNat xs)) else af:=rfl
@[simp] theorem nv:j7 .mul (.lst xs) (.int k)=if -1000<=k&&k<=1000&&xs.length*k.toNat<=lim then aa (.lst (rep k.toNat xs)) else af:=rfl
@[simp] theorem ny:j7 .mod (.int i) (.int j)=if 0 < j then aa (.int (i % j)) else af:=rfl
@[simp] theorem lE:j7 .fdiv (.int i) (.int j)=if 0 < j&&j < 1073741824 then aa (.int (i / j)) else af:=rfl
@[simp] theorem gw:dN (.tup xs) (.int i)=atP xs i:=rfl
@[simp] theorem dI:dN (.lst xs) (.int i)=atP xs i:=rfl
@[simp] theorem jw:dN (.str x) (.int i)=if x.length<=lim then (atP x.cps.toList i).map λc=>.str ⟨#[c]⟩ else af:=rfl
@[simp] theorem zj:qm (.tup xs) lo hi=aa (.tup (cut xs lo hi)):=rfl
@[simp] theorem NK:qm (.lst xs) lo hi=aa (.lst (cut xs lo hi)):=rfl
@[simp] theorem qt:fN .eq d e=if eU d e then aa (eqv d e) else af:=rfl
@[simp] theorem g7:fN .ne d e=if eU d e then aa (!eqv d e) else af:=rfl
@[simp] theorem qu:fN .lt (.int i) (.int j)=aa (decide (i < j)):=rfl
@[simp] theorem qv:fN .le (.int i) (.int j)=aa (decide (i<=j)):=rfl
@[simp] theorem qw:fN .gt (.int i) (.int j)=aa (decide (j < i)):=rfl
@[simp] theorem qx:fN .ge (.int i) (.int j)=aa (decide (j<=i)):=rfl
@[simp] theorem nA:fN .isN d .non=aa (ju d):=rfl
@[simp] theorem lF:fN .notN d .non=aa (!ju d):=rfl
@[simp] theorem xB {b:Bool}:fN .notN d (.bl b)=aa (!qp b d):=rfl
@[simp] theorem iX:fN .mem d (.tup ys)=if ys.all λy=>eU y d then aa (ys.any λy=>eqv y d) else af:=rfl
@[simp] theorem kh:fN .mem d (.lst ys)=if ys.all λy=>eU y d then aa (ys.any λy=>eqv y d) else af:=rfl
@[simp] theorem pL:biD .len [.tup xs]=aa (.int xs.length):=rfl
@[simp] theorem pM:biD .len [.lst xs]=aa (.int xs.length):=rfl
@[simp] theorem xC:biD .len [.str x]=if x.length<=lim then aa (.int x.length) else af:=rfl
@[simp] theorem MD:biD .int [.int i]=aa (.int i):=rfl
@[simp] theorem Ja:biD .int [.bl c]=aa (.int (if c then 1 else 0)):=rfl
@[simp] theorem ME:biD .str [.int i]=if big i then aa (.str (toString i)) else af:=rfl
@[simp] theorem E4:biD .tuple [.lst xs]=aa (.tup xs):=rfl
@[simp] theorem E5:biD .tuple [.tup xs]=aa (.tup xs):=rfl
theorem sA {ys:List D}:biD .lzip [.tup xs,.tup ys]=if 0 < xs.length/\xs.length=ys.length then aa (.lst (oR xs ys)) else af:=rfl
theorem zk:biD .min1 [.lst xs]=(intsOf xs).bind λns=>(Gj ns).map .int:=rfl
theorem foldl_min:∀ (l:List Int) (n:Int),(l.foldl min n=n\/l.foldl min n∈l)/\l.foldl min n<=n/\∀ a∈l,l.foldl min n<=a
 | [],n=>⟨.inl rfl,Int.le_refl _,λa h=>absurd h (by simp)⟩
 | b::l,n=>by
  obtain ⟨h1,h2,h3⟩:=foldl_min l (min n b);rw[List.foldl_cons];refine ⟨?_,by lia,λa ha=>?_⟩
  ·rcases h1 with h|h
   ·rw[h];rcases Int.le_total n b with q|q
    exact .inl (by lia);exact .inr (by rw[show min n b=b by lia];exact Qn)
   exact .inr (Qe _ h)
  ·rcases List.mem_cons.mp ha with rfl|ha
   lia;exact h3 a ha
theorem xD {ns:List Int}{M:Int} (h:Gj ns=aa M):M∈ns/\∀ a∈ns,M<=a:=by
 cases ns with
 | nil=>cases h
 | cons n l =>
  cases h;obtain ⟨h1,h2,h3⟩:=foldl_min l n;refine ⟨?_,λa ha=>?_⟩
  ·rcases h1 with q|q
   rw[q];exact Qn;exact Qe _ q
  ·rcases List.mem_cons.mp ha with rfl|ha
   exact h2;exact h3 a ha
@[simp] theorem Gn:biD .list [.lst xs]=aa (.lst xs):=rfl
@[simp] theorem Gp:biD .list [.tup xs]=aa (.lst xs):=rfl
@[simp] theorem MF:biD .all [.lst xs]=(allB xs).map .bl:=rfl
@[simp] theorem Jb:biD .isInt [d]=aa (.bl (isI d)):=rfl
@[simp] theorem Gq:biD .isBool [d]=aa (.bl (isB d)):=rfl
@[simp] theorem Jc:biD .isStr [d]=aa (.bl (isS d)):=rfl
@[simp] theorem E6:biD .isTuple [d]=aa (.bl (isT d)):=rfl
@[simp] theorem MG:biD .max2 [.int i,.int j]=aa (.int (if j > i then j else i)):=rfl
@[simp] theorem NL:qq (.tup xs)=aa xs:=rfl
@[simp] theorem NN:qq (.lst xs)=aa xs:=rfl
@[simp] theorem zm:gP .seq [d]=qq d:=rfl
@[simp] theorem gK:gP .rng1 [.int a]=if -100000<=a&&a<=100000 then aa (upto 0 a.toNat) else af:=rfl
@[simp] theorem jR:gP .rng2 [.int a,.int b]=if -100000<=a&&a<=100000&&-100000<=b&&b<=100000 then aa (upto a (b - a).toNat) else af:=rfl
@[simp] theorem Ko:gP .rev [.lst xs]=aa xs.reverse:=rfl
@[simp] theorem Kp {x:aB}:gP .chs [.str x]=aa (Gk x):=rfl
@[simp] theorem Jd {x y:D}:gP .zipG [x,y]=(CO x).bind λxs=>(CO y).map (oR xs):=rfl
@[simp] theorem Kq:gP .itm [.lst xs]=aa xs:=rfl
@[simp] theorem Gs:meD .tindex (.tup xs) [d]=if xs.all λy=>eU y d then (jv d xs 0).map λ(q:Nat)=>D.int (q:Int) else af:=rfl
@[simp] theorem sC (n:Nat):unpack n (.lst xs)=if xs.length=n then aa xs else af:=rfl
@[simp] theorem sD (n:Nat):unpack n (.tup xs)=if xs.length=n then aa xs else af:=rfl
end
@[simp] theorem kK (d:D):target 1 d=aa [d]:=rfl
@[simp] theorem Kr (d:D):target 2 d=unpack 2 d:=rfl
noncomputable def vz (o:Option D) (out:List D) (h:HH):Option (List D×HH):=aa (match o with|some x=>x::out|none=>out,h)
noncomputable def zo (r:HH->Option (List D×HH)) (o:Option D) (h:HH):Option (List D×HH):=bnd (r h) (vz o)
@[simp] theorem sF (o:Option D) (out:List D) (h:HH):vz o out h=aa (match o with|some x=>x::out|none=>out,h):=rfl
@[simp] theorem vA (r:HH->Option (List D×HH)) (o:Option D) (h:HH):zo r o h=bnd (r h) (vz o):=rfl
noncomputable def d7 (f:List D->HH->Option (Option D×HH)) (n:Nat):List D->HH->Option (List D×HH)
 | [],h=>aa ([],h)
 | d::r,h=>match target n d with
  | some ds=>bnd (f ds h) (zo (d7 f n r))| none=>af
noncomputable def fO (d:D):Option W:=aa (.p d)
noncomputable abbrev EH:=HH->Option (W×HH)
noncomputable abbrev OpW:=W->W->HH->Option (W×HH)
@[simp] noncomputable def k2 (eb:EH) (op:OpW) (x:W) (h:HH):Option (W×HH):=bnd (eb h) (op x)
@[simp] noncomputable def qy (o:Bin) (x y:W) (h:HH):Option (W×HH):=match rd x h,rd y h with
 | some d,aa e=>(j7 o d e).map λz=>(.p z,h)
 | _,_=>af
noncomputable def inT (o:Cm) (x:W) (kvs:List (aB×D)):Option Bool:=match o,x with
 | .mem,.p (.str s)=>aa (fG s kvs).isSome| .mem,.p .non=>aa ai| _,_=>af
noncomputable def inL (o:Cm) (x:W) (kvs:List (Ky×D)):Option Bool:=match o,x with
 | .mem,.p d=>(oQ d).map λk=>(fM kvs k).isSome
 | _,_=>af
noncomputable def inK (o:Cm) (x:W) (q:Kd):Option Bool:=match q with
 | .t kvs=>inT o x kvs| .l kvs=>inL o x kvs
noncomputable def memC:Cm->Bool
 | .mem=>ah| _=>ai
theorem nB {o:Cm}{x:W}{q:Kd}{b:Bool} (h:memC o=ai):¬ inK o x q=aa b:=by intro e;cases o<;>first|exact CK h|exact gZ e|(cases q<;>first|exact gZ e|(cases x<;>exact gZ e))
@[simp] noncomputable def kL (o:Cm) (x y:W) (h:HH):Option (W×HH):=match y with
 | .k kvs=>(inK o x kvs).map λz=>(.p (.bl z),h)
 | y=>match rd x h,rd y h with
  | some d,aa e=>(fN o d e).map λz=>(.p (.bl z),h)
  | _,_=>af
noncomputable def atT (kvs:List (aB×D)) (y:W):Option D:=match y with
 | .p (.str s)=>fG s kvs| _=>af
noncomputable def atL (kvs:List (Ky×D)) (y:W):Option D:=match y with
 | .p d=>(oQ d).bind (fM kvs)| _=>af
noncomputable def atK (q:Kd) (y:W):Option D:=match q with
 | .t kvs=>atT kvs y| .l kvs=>atL kvs y
@[simp] theorem Pc (kvs:List (aB×D)) (x:aB):atK (.t kvs) (.p (.str x))=fG x kvs:=rfl
@[simp] theorem Pd (kvs:List (Ky×D)) (i:Int):atK (.l kvs) (.p (.int i))=fM kvs (.inl i):=rfl
@[simp] theorem Pe (kvs:List (aB×D)) (x:aB):inK .mem (.p (.str x)) (.t kvs)=aa (fG x kvs).isSome:=rfl
@[simp] theorem Pf (kvs:List (aB×D)):inK .mem (.p .non) (.t kvs)=aa ai:=rfl
@[simp] theorem Ph (kvs:List (Ky×D)) (i:Int):inK .mem (.p (.int i)) (.l kvs)=aa (fM kvs (.inl i)).isSome:=rfl
@[simp] noncomputable def CU (x y:W) (h:HH):Option (W×HH):=match x with
 | .k kvs=>(atK kvs y).map λz=>(.p z,h)
 | x=>match rd x h,rd y h with
  | some d,aa e=>(dN d e).map λz=>(.p z,h)
  | _,_=>af
@[simp] noncomputable def CV (x:W) (h:HH):Option (W×HH):=match x with | .p (.int i)=>aa (.p (.int (-i)),h)|_=>af
@[simp] noncomputable def CW (x:W) (h:HH):Option (W×HH):=match x with | .p (.bl b)=>aa (.p (.bl (!b)),h)|_=>af
@[simp] noncomputable def CY (eb:EH) (x:W) (h:HH):Option (W×HH):=match x with | .p (.bl c)=>if c then eb h else aa (.p (.bl ai),h)|_=>af
@[simp] noncomputable def kOr (eb:EH) (x:W) (h:HH):Option (W×HH):=match x with | .p (.bl c)=>if c then aa (.p (.bl ah),h) else eb h|_=>af
@[simp] noncomputable def CZ (ea eb:EH) (x:W) (h:HH):Option (W×HH):=match x with | .p (.bl c)=>if c then ea h else eb h|_=>af
@[simp] noncomputable def Ks (o':Cm) (e:D) (z:W) (h:HH):Option (W×HH):=match rd z h with
 | some f=>(fN o' e f).map λr=>(.p (.bl r),h)
 | none=>af
@[simp] noncomputable def oCh (o o':Cm) (ec:EH) (x y:W) (h:HH):Option (W×HH):=match rd x h,y with
 | some d,.p e=>match fN o d e with
  | some ah=>bnd (ec h) (Ks o' e)| some ai=>aa (.p (.bl ai),h)| none=>af
 | _,_=>af
@[simp] noncomputable def Gu (ws:List W) (h:HH):Option (W×HH):=match dP ws with|some ds=>if ds.length<=lim then aa (.p (.tup ds),h) else af|none=>af
@[simp] noncomputable def Gv (mu:Bool) (ws:List W) (h:HH):Option (W×HH):=match dP ws with|some ds=>if ds.length<=lim then aa (new mu ds h) else af|none=>af
@[simp] noncomputable def Ku (x:W) (l u:List W) (h:HH):Option (W×HH):=match rd x h,(dP l).bind qk,(dP u).bind qk with
 | some d,aa l',aa u'=>(qm d l' u').map λz=>(.p z,h)
 | _,_,_=>af
@[simp] noncomputable def Kv (eu:HH->Option (List W×HH)) (x:W) (l:List W) (h:HH):Option (W×HH):=bnd (eu h) (Ku x l)
@[simp] noncomputable def Kw (el eu:HH->Option (List W×HH)) (x:W) (h:HH):Option (W×HH):=bnd (el h) (Kv eu x)
@[simp] noncomputable def NO (x:W) (h:HH):Option (W×HH):=match x with
 | .p (.tup xs)=>aa (.p (.tup xs.reverse),h)| _=>af
noncomputable def lZ (k:Int) (xs:List D):List D:=(Tw (Qz af af (aa k) xs.length).1 (Qz af af (aa k) xs.length).2.1 (Qz af af (aa k) xs.length).2.2).filterMap λi=>xs[i]?
@[simp] noncomputable def Gw (mu:Bool) (k:Int) (x:W) (h:HH):Option (W×HH):=match rd x h with
 | some (.lst xs)=>aa (new mu (lZ k xs) h)| _=>af
@[simp] noncomputable def kBi (b:Bi) (mu:Bool) (ws:List W) (h:HH):Option (W×HH):=match rds ws h with
 | some ds=>match biD b ds with
  | some d=>if mu then (match d with | .lst xs=>aa (new ah xs h)|_=>af) else aa (.p d,h)
  | none=>af
 | none=>af
noncomputable def mj (x:W) (h:HH):Bool:=match x with
 | .r n=>(lat h n).isSome| .k (.l _)=>ai| _=>ah
@[simp] theorem NP (n:Nat) (h:HH):mj (.r n) h=(lat h n).isSome:=rfl
@[simp] theorem NQ (d:D) (h:HH):mj (.p d) h=ah:=rfl
@[simp] theorem NR (d:List (aB×D)) (h:HH):mj (.k (.t d)) h=ah:=rfl
@[simp] noncomputable def kMe (m:Me) (ea:HH->Option (List W×HH)) (x:W) (h:HH):Option (W×HH):=if mj x h then bnd (ea h) (meW m x) else af
@[simp] noncomputable def kLs (mu:Bool) (sr:Sr) (ws:List W) (h:HH):Option (W×HH):=match (rds ws h).bind (gP sr) with
 | some ds=>if ds.length<=lim then aa (new mu ds h) else af
 | none=>af
@[simp] noncomputable def oS (w:W) (h:HH):Option (Option D×HH):=match w with | .p d=>aa (aa d,h)|_=>af
noncomputable def vB (ee:EH) (cs:List W) (h:HH):Option (Option D×HH):=match cs with
 | []=>bnd (ee h) oS| [.p (.bl ah)]=>bnd (ee h) oS| [.p (.bl ai)]=>aa (af,h)| _=>af
@[simp] theorem MH (ee:EH) (h:HH):vB ee [] h=bnd (ee h) oS:=rfl
@[simp] theorem MI (ee:EH) (h:HH):vB ee [.p (.bl ah)] h=bnd (ee h) oS:=rfl
@[simp] theorem MJ (ee:EH) (h:HH):vB ee [.p (.bl ai)] h=aa (af,h):=rfl
@[simp] noncomputable def gA (ec:Sl->HH->Option (List W×HH)) (ee:Sl->EH) (fs:Sl) (xs:List D) (h:HH):Option (Option D×HH) :=
 bnd (ec (xs.map fO++fs) h) (vB (ee (xs.map fO++fs)))
@[simp] noncomputable def iN (mu:Bool) (out:List D) (h:HH):Option (W×HH):=if out.length<=lim then aa (new mu out h) else af
noncomputable def dU (f:aB):List (aB×W)->Option W
 | []=>af
 | (x,w)::r=>if f=x then aa w else dU f r
noncomputable def eH (f:aB) (w:W):List (aB×W)->List (aB×W)
 | []=>[(f,w)]
 | (x,u)::r=>if f=x then (f,w)::r else (x,u)::eH f w r
@[simp] theorem Kx (f:aB):dU f []=af:=rfl
@[simp] theorem pN (f x:aB) (w:W) (r:List (aB×W)):dU f ((x,w)::r)=if f=x then aa w else dU f r:=rfl
@[simp] theorem Kz (f:aB) (w:W):eH f w []=[(f,w)]:=rfl
@[simp] theorem xE (f x:aB) (w u:W) (r:List (aB×W)):eH f w ((x,u)::r)=if f=x then (f,w)::r else (x,u)::eH f w r:=rfl
noncomputable def attrOk:W->Bool
 | .p _=>ah| .r _=>ah| .k _=>ai| .o _=>ah| .c _ _=>ai| .x _=>ai
@[simp] theorem KA (d:D):attrOk (.p d)=ah:=rfl
@[simp] theorem KB (n:Nat):attrOk (.r n)=ah:=rfl
@[simp] theorem KC (n:Nat):attrOk (.o n)=ah:=rfl
noncomputable def C1 (f:aB) (x:W) (h:HH):Option (W×HH):=match x with
 | .o n=>match oat h n with
  | some (_,fs)=>(dU f fs).map λw=>(w,h)
  | none=>af
 | _=>af
@[simp] theorem Gx (f:aB) (n:Nat) (h:HH):C1 f (.o n) h=match oat h n with
 | some (_,fs)=>(dU f fs).map λw=>(w,h)
 | none=>af:=rfl
noncomputable def uv (F:FK->List W->HH->Option (W×HH)) (q:FK) (n:Nat) (ws:List W) (h:HH):Option (W×HH):=F q (.o n::ws) h
@[simp] theorem Je (F:FK->List W->HH->Option (W×HH)) (q:FK) (n:Nat) (ws:List W) (h:HH):uv F q n ws h=F q (.o n::ws) h:=rfl
noncomputable def zu (F:FK->List W->HH->Option (W×HH)) (m:aB) (ea:HH->Option (List W×HH)) (x:W) (h:HH):Option (W×HH):=match x with
 | .o n=>match oat h n with
  | some (c,fs)=>if (dU m fs).isNone then bnd (ea h) (uv F (.m c m) n) else af
  | none=>af
 | _=>af
@[simp] theorem C2 (F:FK->List W->HH->Option (W×HH)) (m:aB) (ea:HH->Option (List W×HH)) (n:Nat) (h:HH):zu F m ea (.o n) h=match oat h n with
 | some (c,fs)=>if (dU m fs).isNone then bnd (ea h) (uv F (.m c m) n) else af
 | none=>af:=rfl
noncomputable def vC (n:Nat) (x:W) (h:HH):Option (W×HH):=match x with
 | .p .non=>aa (.o n,h)| _=>af
@[simp] theorem MK (n:Nat) (h:HH):vC n (.p .non) h=aa (.o n,h):=rfl
noncomputable def E7 (F:FK->List W->HH->Option (W×HH)) (c:aB) (ws:List W) (h:HH):Option (W×HH):=bnd (F (.m c "__init__") (.o h.length::ws) (h++[.o c []])) (vC h.length)
@[simp] theorem zx (F:FK->List W->HH->Option (W×HH)) (c:aB) (ws:List W) (h:HH):E7 F c ws h=bnd (F (.m c "__init__") (.o h.length::ws) (h++[.o c []])) (vC h.length):=rfl
noncomputable def jx:List W->Bool
 | []=>ah| .p _::r=>jx r| _=>ai
open Classical in
noncomputable def chk (q:Nat) (ds:List D) (f:List D->HH->Option (Option D×HH)) (xs:List D) (h:HH):Option (Option D×HH):=match f xs h with
 | some (o,h')=>if lat h' q=aa ds then aa (o,h') else af
 | none=>af
noncomputable def uw (mu:Bool) (sr:Sr) (n:Nat) (f:List D->HH->Option (Option D×HH)) (ws:List W) (ds:List D) (h:HH):Option (W×HH):=match ws,sr with
 | [.r q],.seq=>bnd (d7 (chk q ds f) n ds h) (iN mu)| _,_=>af
theorem zy (mu:Bool) (n:Nat) (f:List D->HH->Option (Option D×HH)) (q:Nat) (ds:List D) (h:HH):uw mu .seq n f [.r q] ds h=bnd (d7 (chk q ds f) n ds h) (iN mu):=rfl
@[simp] noncomputable def nC (mu:Bool) (sr:Sr) (n:Nat) (fs:Option Sl) (ec:Sl->HH->Option (List W×HH)) (ee:Sl->EH) (ws:List W) (h:HH):Option (W×HH) :=
 match (rds ws h).bind (gP sr),fs with
 | some ds,aa fs=>if jx ws then bnd (d7 (gA ec ee fs) n ds h) (iN mu) else uw mu sr n (gA ec ee fs) ws ds h
 | _,_=>af
@[simp] noncomputable def gQ (w:W) (ws:List W) (h:HH):Option (List W×HH):=aa (w::ws,h)
@[simp] noncomputable def j3 (er:HH->Option (List W×HH)) (w:W) (h:HH):Option (List W×HH):=bnd (er h) (gQ w)
@[simp] noncomputable def frees (s:Sl):List (Nat×aB)->Option Sl
 | []=>aa []
 | q::r=>match s[q.1]? with
  | some w=>(frees s r).map (w :: ·)| none=>af
noncomputable def caps (s:Sl):List (Nat×aB)->Option (List Cp)
 | []=>aa []
 | q::r=>match s[q.1]? with
  | some (aa w)=>(vq w).bind λx=>(caps s r).map (x :: ·)
  | _=>af
@[simp] theorem KG (s:Sl):caps s []=aa []:=rfl
@[simp] theorem Jf (s:Sl) (q:Nat×aB) (r:List (Nat×aB)):caps s (q::r)=match s[q.1]? with
 | some (aa w)=>(vq w).bind λx=>(caps s r).map (x :: ·)
 | _=>af:=rfl
noncomputable def noC:List W->Bool
 | []=>ah| .p _::r=>noC r| .r _::r=>noC r| .k _::_=>ai| .o _::r=>noC r| .c _ _::_=>ai| .x _::_=>ai
@[simp] theorem ML:noC []=ah:=rfl
@[simp] theorem Pi (d:D) (r:List W):noC (.p d::r)=noC r:=rfl
@[simp] theorem Pj (d:Nat) (r:List W):noC (.r d::r)=noC r:=rfl
@[simp] theorem Pk (d:Nat) (r:List W):noC (.o d::r)=noC r:=rfl
noncomputable def zA (F:FK->List W->HH->Option (W×HH)) (o:Option (Option W)) (ws:List W) (h:HH):Option (W×HH):=match o with
 | some (aa (.c k cs))=>if noC ws then F k (ws++cs.map Cp.w) h else af
 | _=>af
@[simp] theorem KH (F:FK->List W->HH->Option (W×HH)) (k:FK) (cs:List Cp) (ws:List W) (h:HH):zA F (aa (aa (.c k cs))) ws h=if noC ws then F k (ws++cs.map Cp.w) h else af:=rfl
noncomputable def zB (w:W) (h:HH):Option (W×HH):=match w with
 | .c _ _=>af| .x _=>af| .k _=>af| w=>aa (w,h)
@[simp] theorem NS (d:D) (h:HH):zB (.p d) h=aa (.p d,h):=rfl
@[simp] theorem NT (n:Nat) (h:HH):zB (.r n) h=aa (.r n,h):=rfl
@[simp] theorem NU (n:Nat) (h:HH):zB (.o n) h=aa (.o n,h):=rfl
noncomputable def qz (F:FK->List W->HH->Option (W×HH)) (q:FK) (n:Nat) (L:Nat) (cs:Option (List Cp)) (ws:List W) (h:HH):Option (W×HH):=match cs with
 | some cs=>bnd (F q (.o n::(ws++[.c (.l L) cs])) h) zB| none=>af
@[simp] theorem Jg (F:FK->List W->HH->Option (W×HH)) (q:FK) (n:Nat) (L:Nat) (cs:List Cp) (ws:List W) (h:HH):qz F q n L (aa cs) ws h=bnd (F q (.o n::(ws++[.c (.l L) cs])) h) zB:=rfl
noncomputable def zC (F:FK->List W->HH->Option (W×HH)) (m:aB) (ea:HH->Option (List W×HH)) (L:Nat) (cs:Option (List Cp)) (x:W) (h:HH):Option (W×HH):=match x with
 | .o n=>match oat h n with
  | some (c,fs)=>if (dU m fs).isNone then bnd (ea h) (qz F (.m c m) n L cs) else af
  | none=>af
 | _=>af
@[simp] theorem KI (F:FK->List W->HH->Option (W×HH)) (m:aB) (ea:HH->Option (List W×HH)) (L:Nat) (cs:Option (List Cp)) (n:Nat) (h:HH):zC F m ea L cs (.o n) h=match oat h n with
 | some (c,fs)=>if (dU m fs).isNone then bnd (ea h) (qz F (.m c m) n L cs) else af
 | none=>af:=rfl
noncomputable def NV (c cn:aB):Bool:=cn==c||cn=="TapeError"||cn=="ValueError"
noncomputable def NW (c cn:aB):Bool:=!(c=="NoText"&&cn=="NoRun")
noncomputable def strsOf:List D->Option (List aB)
 | []=>aa []| .str x::r=>(strsOf r).map (x :: ·)| _=>af
noncomputable def boolsOf:List D->Option (List Bool)
 | []=>aa []| .bl b::r=>(boolsOf r).map (b :: ·)| _=>af
noncomputable def txD:Tx->List D->Option D
 | .join,[.str x,.lst ys]=>(strsOf ys).bind λts=>if ts.length<=4000/\x.length<=10/\∀ t∈ts,t.length<=4000 then aa (.str (Str.join x ts)) else af
 | .split,[.str x,.str y]=>if y.length=1/\x.length<=lim then aa (.lst ((Txt.split x y).map .str)) else af
 | .str,[.int i]=>if big i then aa (.str (toString i)) else af
 | .str,[.str x]=>aa (.str x)
 | .intS,[.str x]=>if x.length<=640 then (PySem.intText? x).map .int else af
 | .all,[.lst xs]=>(boolsOf xs).map λbs=>.bl (bs.all id)
 | .inS,[.str x,.str y]=>aa (.bl (Txt.contains y x))| .ninS,[.str x,.str y]=>aa (.bl (!Txt.contains y x))
 | .pre,[.str x,.int i]=>if 0<=i/\x.length<=lim then aa (.str ⟨x.cps.extract 0 i.toNat⟩) else if i=-1/\x.length<=lim then aa (.str ⟨x.cps.extract 0 (x.length - 1)⟩) else af
 | _,_=>af
noncomputable def zD (kvs:List (aB×D)) (as:List W) (h:HH):Option (W×HH):=match as with
 | [.p .non]=>aa (.p .non,h)| [.p (.str x)]=>aa (.p ((fG x kvs).getD .non),h)| [.p (.str x),.p d]=>aa (.p ((fG x kvs).getD d),h)| _=>af
noncomputable def ux (kvs:List (Ky×D)) (as:List W) (h:HH):Option (W×HH):=match as with
 | [.p (.str x)]=>aa (.p ((fM kvs (.inr x)).getD .non),h)| [.p (.str x),.p d]=>aa (.p ((fM kvs (.inr x)).getD d),h)| _=>af
noncomputable def kTx (k:Tx) (ws:List W) (h:HH):Option (W×HH):=match k,ws with
 | .dget,.k (.t kvs)::as=>zD kvs as h| .dget,.k (.l kvs)::as=>ux kvs as h
 | k,ws=>(rds ws h).bind λds=>(txD k ds).map λd=>(.p d,h)
noncomputable def KJ (w:W) (h:HH):Option (W×HH):=match w with
 | .o n=>aa (.r h.length,h++[.b [n]])| _=>af
noncomputable def Gy (r:Nat) (y:W) (h:HH):Option (W×HH):=match y with
 | .o n=>(bat h r).bind λns=>if ns.length < lim then aa (.p .non,h.set r (.b (ns++[n]))) else af
 | _=>af
noncomputable def KM (ea:EH) (x:W) (h:HH):Option (W×HH):=match x with
 | .r r=>if (bat h r).isSome then bnd (ea h) (Gy r) else af
 | _=>af
noncomputable def Gz (x y:W) (h:HH):Option (W×HH):=match x,y with
 | .r r,.p (.int i)=>(bat h r).bind λns=>(atP ns i).map λn=>(.o n,h)
 | _,_=>af
noncomputable def KN (x:W) (h:HH):Option (W×HH):=match x with
 | .r r=>(bat h r).bind λns=>if ns.length<=lim then aa (.p (.int ns.length),h) else af
 | _=>af
@[simp] theorem NX (n:Nat) (h:HH):KJ (.o n) h=aa (.r h.length,h++[.b [n]]):=rfl
@[simp] theorem GA (r n:Nat) (h:HH):Gy r (.o n) h=(bat h r).bind λns=>if ns.length < lim then aa (.p .non,h.set r (.b (ns++[n]))) else af:=rfl
@[simp] theorem GB (ea:EH) (r:Nat) (h:HH):KM ea (.r r) h=if (bat h r).isSome then bnd (ea h) (Gy r) else af:=rfl
@[simp] theorem C3 (r:Nat) (i:Int) (h:HH):Gz (.r r) (.p (.int i)) h=(bat h r).bind λns=>(atP ns i).map λn=>(.o n,h):=rfl
@[simp] theorem GC (r:Nat) (h:HH):KN (.r r) h=(bat h r).bind λns=>if ns.length<=lim then aa (.p (.int ns.length),h) else af:=rfl
section
variable (F:FK->List W->HH->Option (W×HH)) (G:aB->Option W)
mutual
@[simp] noncomputable def ev:E->Sl->HH->Option (W×HH)
 | .var i,s,h=>match s[i]? with|some (aa w)=>aa (w,h)|_=>af
 | .cst d,_,h=>aa (.p d,h)
 | .glo x,_,h=>(G x).map λw=>(w,h)
 | .bin o a b,s,h=>bnd (ev a s h) (k2 (ev b s) (qy o))| .neg a,s,h=>bnd (ev a s h) CV| .not a,s,h=>bnd (ev a s h) CW| .and a b,s,h=>bnd (ev a s h) (CY (ev b s))| .or a b,s,h=>bnd (ev a s h) (kOr (ev b s))| .cmp o a b,s,h=>bnd (ev a s h) (k2 (ev b s) (kL o))| .chain o o' a b c,s,h=>bnd (ev a s h) (k2 (ev b s) (oCh o o' (ev c s)))| .ite c a b,s,h=>bnd (ev c s h) (CZ (ev a s) (ev b s))| .tup as,s,h=>bnd (evs as s h) Gu| .lst mu as,s,h=>bnd (evs as s h) (Gv mu)| .idx a i,s,h=>bnd (ev a s h) (k2 (ev i s) CU)| .slc a lo hi,s,h=>bnd (ev a s h) (Kw (evs lo s) (evs hi s))| .rvs a,s,h=>bnd (ev a s h) NO| .stp mu k a,s,h=>bnd (ev a s h) (Gw mu k)| .call f as,s,h=>bnd (evs as s h) (F (.f f))| .fld a f,s,h=>bnd (ev a s h) (C1 f)| .meth o m as,s,h=>bnd (ev o s h) (zu F m (evs as s))| .make c as,s,h=>bnd (evs as s h) (E7 F c)| .bi b mu as,s,h=>bnd (evs as s h) (kBi b mu)| .me m o as,s,h=>bnd (ev o s h) (kMe m (evs as s))| .comp mu sr sa tg fv cond elt,s,h=>bnd (evs sa s h) (nC mu sr tg.length (frees s fv) (evs cond) (ev elt))| .callv i as,s,h=>bnd (evs as s h) (zA F s[i]?)| .methL o m as L fv,s,h=>bnd (ev o s h) (zC F m (evs as s) L (caps s fv))| .obl a,s,h=>bnd (ev a s h) KJ| .oba o a,s,h=>bnd (ev o s h) (KM (ev a s))| .obi o i,s,h=>bnd (ev o s h) (k2 (ev i s) Gz)| .obn o,s,h=>bnd (ev o s h) KN| .sup c as,s,h=>bnd (evs as s h) (F (.m c "__init__"))
@[simp] noncomputable def evs:Es->Sl->HH->Option (List W×HH)
 | .nil,_,h=>aa ([],h)| .cons a as,s,h=>bnd (ev a s h) (j3 (evs as s))
end
inductive Fl where
 | nx (s:Sl) (h:HH)|rt (w:W) (h:HH)|bk (s:Sl) (h:HH)|ct (s:Sl) (h:HH)
noncomputable def KO (k:Bool->HH->Option Fl) (w:W) (h:HH):Option Fl:=match w with | .p (.bl b)=>k b h|_=>af
noncomputable def tst (x:Option (W×HH)) (k:Bool->HH->Option Fl):Option Fl:=bnd x (KO k)
@[simp] theorem iJ (b:Bool) (h:HH) (k:Bool->HH->Option Fl):tst (aa (.p (.bl b),h)) k=k b h:=rfl
noncomputable def nE (x:Option Fl) (k:Sl->HH->Option Fl):Option Fl:=match x with
 | some (.nx s h)=>k s h| y=>y
@[simp] theorem KP (s:Sl) (h:HH) (k:Sl->HH->Option Fl):nE (aa (.nx s h)) k=k s h:=rfl
@[simp] theorem KQ (w:W) (h:HH) (k:Sl->HH->Option Fl):nE (aa (.rt w h)) k=aa (.rt w h):=rfl
@[simp] theorem KR (s:Sl) (h:HH) (k:Sl->HH->Option Fl):nE (aa (.bk s h)) k=aa (.bk s h):=rfl
@[simp] theorem KS (s:Sl) (h:HH) (k:Sl->HH->Option Fl):nE (aa (.ct s h)) k=aa (.ct s h):=rfl
@[simp] theorem GD (k:Sl->HH->Option Fl):nE af k=af:=rfl
noncomputable def j4 (x:Option Fl) (k:Sl->HH->Option Fl):Option Fl:=match x with
 | some (.nx s h)=>k s h| some (.ct s h)=>k s h| some (.bk s h)=>aa (.nx s h)| y=>y
@[simp] theorem gk (s:Sl) (h:HH) (k:Sl->HH->Option Fl):j4 (aa (.nx s h)) k=k s h:=rfl
@[simp] theorem KU (s:Sl) (h:HH) (k:Sl->HH->Option Fl):j4 (aa (.ct s h)) k=k s h:=rfl
@[simp] theorem KW (s:Sl) (h:HH) (k:Sl->HH->Option Fl):j4 (aa (.bk s h)) k=aa (.nx s h):=rfl
@[simp] theorem KY (w:W) (h:HH) (k:Sl->HH->Option Fl):j4 (aa (.rt w h)) k=aa (.rt w h):=rfl
@[simp] theorem GE (k:Sl->HH->Option Fl):j4 af k=af:=rfl
@[simp] noncomputable def sets:List (Nat×aB)->List D->Sl->Sl
 | (i,_)::r,d::ds,s=>sets r ds (s.set i (aa (.p d)))| _,_,s=>s
noncomputable def GF (b:Sl->HH->Option Fl) (again:Sl->HH->Option Fl) (s:Sl) (t:Bool) (h:HH):Option Fl:=if t then j4 (b s h) again else aa (.nx s h)
@[simp] theorem kj (b again:Sl->HH->Option Fl) (s:Sl) (h:HH):GF b again s ah h=j4 (b s h) again:=rfl
@[simp] theorem nF (b again:Sl->HH->Option Fl) (s:Sl) (h:HH):GF b again s ai h=aa (.nx s h):=rfl
noncomputable def eg (c:Sl->HH->Option (W×HH)) (b:Sl->HH->Option Fl):Nat->Sl->HH->Option Fl
 | 0,_,_=>af| n+1,s,h=>tst (c s h) (GF b (eg c b n) s)
@[simp] noncomputable def gB (b:Sl->HH->Option Fl) (tg:List (Nat×aB)):List D->Sl->HH->Option Fl
 | [],s,h=>aa (.nx s h)
 | d::r,s,h=>match target tg.length d with
  | some ds=>j4 (b (sets tg ds s) h) (gB b tg r)| none=>af
noncomputable def turns:Nat:=100000
@[simp] noncomputable def zE (s:Sl) (i:Nat) (w:W) (h:HH):Option Fl:=aa (.nx (s.set i (aa w)) h)
@[simp] noncomputable def GG (s:Sl) (xs:List (Nat×aB)) (w:W) (h:HH):Option Fl:=match w with
 | .p d=>match unpack xs.length d with|some ds=>aa (.nx (sets xs ds s) h)|none=>af
 | _=>af
@[simp] noncomputable def KZ (s:Sl) (i:Nat) (o:Bin) (w:W) (h:HH):Option Fl:=match s[i]?,w with
 | some (aa (.p d)),.p d'=>(ng o d d').map λz=>.nx (s.set i (aa (.p z))) h
 | _,_=>af
@[simp] noncomputable def E8 (s:Sl) (n:Nat) (d:D) (q:W) (h:HH):Option Fl:=match q,lat h n with
 | .p (.int j),aa xs=>match place xs.length j with
  | some m=>aa (.nx s (h.set n (.l (xs.set m d))))| none=>af
 | _,_=>af
@[simp] noncomputable def GH (ek:EH) (s:Sl) (i:Nat) (w:W) (h:HH):Option Fl:=match w,s[i]? with
 | .p d,aa (aa (.r n))=>bnd (ek h) (E8 s n d)| _,_=>af
noncomputable def zF (s:Sl) (n:Nat) (d:D) (q:W) (h:HH):Option Fl:=match q with
 | .p k=>(dat h n).bind λkvs=>(oQ k).bind λy=>if kvs.length < lim then aa (.nx s (h.set n (.d (E3 kvs y d)))) else af
 | _=>af
@[simp] theorem K0 (s:Sl) (n:Nat) (d k:D) (h:HH):zF s n d (.p k) h=(dat h n).bind λkvs=>(oQ k).bind λy=>if kvs.length < lim then aa (.nx s (h.set n (.d (E3 kvs y d)))) else af:=rfl
noncomputable def Pn (ek:EH) (s:Sl) (i:Nat) (w:W) (h:HH):Option Fl:=match w,s[i]? with
 | .p d,aa (aa (.r n))=>bnd (ek h) (zF s n d)| _,_=>af
noncomputable def qA (s:Sl) (f:aB) (v:W) (x:W) (h:HH):Option Fl:=match x with
 | .o n=>match oat h n with
  | some (c,fs)=>if attrOk v&&fs.length < 1000 then aa (.nx s (h.set n (.o c (eH f v fs)))) else af
  | none=>af
 | _=>af
@[simp] theorem zG (s:Sl) (f:aB) (v:W) (n:Nat) (h:HH):qA s f v (.o n) h=match oat h n with
 | some (c,fs)=>if attrOk v&&fs.length < 1000 then aa (.nx s (h.set n (.o c (eH f v fs)))) else af
 | none=>af:=rfl
noncomputable def zH (eo:EH) (s:Sl) (f:aB) (v:W) (h:HH):Option Fl:=bnd (eo h) (qA s f v)
@[simp] theorem zI (eo:EH) (s:Sl) (f:aB) (v:W) (h:HH):zH eo s f v h=bnd (eo h) (qA s f v):=rfl
noncomputable def qB (s:Sl) (f:aB) (op:Bin) (n:Nat) (c:aB) (d:D) (v:W) (h:HH):Option Fl:=match v,oat h n with
 | .p e,aa (c',fs)=>match ng op d e with
  | some z=>if c'=c/\fs.length < 1000 then aa (.nx s (h.set n (.o c' (eH f (.p z) fs)))) else af
  | none=>af
 | _,_=>af
@[simp] theorem zJ (s:Sl) (f:aB) (op:Bin) (n:Nat) (c:aB) (d e:D) (h:HH):qB s f op n c d (.p e) h=match oat h n with
 | some (c',fs)=>match ng op d e with
  | some z=>if c'=c/\fs.length < 1000 then aa (.nx s (h.set n (.o c' (eH f (.p z) fs)))) else af
  | none=>af
 | none=>af:=by unfold qB;cases oat h n<;>rfl
noncomputable def vD (ee:EH) (s:Sl) (f:aB) (op:Bin) (x:W) (h:HH):Option Fl:=match x with
 | .o n=>match oat h n with
  | some (c,fs)=>match dU f fs with
   | some (.p d)=>bnd (ee h) (qB s f op n c d)| _=>af
  | none=>af
 | _=>af
@[simp] theorem C4 (ee:EH) (s:Sl) (f:aB) (op:Bin) (n:Nat) (h:HH):vD ee s f op (.o n) h=match oat h n with
 | some (c,fs)=>match dU f fs with
  | some (.p d)=>bnd (ee h) (qB s f op n c d)| _=>af
 | none=>af:=rfl
@[simp] noncomputable def kEx (s:Sl) (_:W) (h:HH):Option Fl:=aa (.nx s h)
@[simp] noncomputable def GI (w:W) (h:HH):Option Fl:=aa (.rt w h)
@[simp] noncomputable def kIf (fa fb:HH->Option Fl) (t:Bool) (h:HH):Option Fl:=if t then fa h else fb h
@[simp] noncomputable def kFor (b:Sl->HH->Option Fl) (tg:List (Nat×aB)) (sr:Sr) (s:Sl) (ws:List W) (h:HH):Option Fl:=match (rds ws h).bind (gP sr) with
 | some ds=>if jx ws then gB b tg ds s h else af
 | none=>af
@[simp] noncomputable def evS:S->Sl->HH->Option Fl
 | .nil,s,h=>aa (.nx s h)| .seq a b,s,h=>nE (evS a s h) (evS b)| .set i e,s,h=>bnd (ev F G e s h) (zE s i)| .unp xs e,s,h=>bnd (ev F G e s h) (GG s xs)| .aug i o e,s,h=>bnd (ev F G e s h) (KZ s i o)| .put i k e,s,h=>bnd (ev F G e s h) (GH (ev F G k s) s i)| .setf o f e,s,h=>bnd (ev F G e s h) (zH (ev F G o s) s f)| .augf o f op e,s,h=>bnd (ev F G o s h) (vD (ev F G e s) s f op)| .ex e,s,h=>bnd (ev F G e s h) (kEx s)| .ret e,s,h=>bnd (ev F G e s h) GI| .ife c a b,s,h=>tst (ev F G c s h) (kIf (evS a s) (evS b s))| .whl c b,s,h=>eg (ev F G c) (evS b) turns s h| .for tg sr sa b,s,h=>bnd (evs F G sa s h) (kFor (evS b) tg sr s)| .brk,s,h=>aa (.bk s h)| .cnt,s,h=>aa (.ct s h)| .bad,_,_=>af| .rai _ _,_,_=>af
open Classical in
noncomputable def fin (h:HH) (w:W) (h':HH):Option (W×HH) :=
 if h'.length=h.length then aa (w,h')
 else if h'.take h.length=h then (match w with
  | .p d=>aa (.p d,h)
  | .r n=>if n < h.length then aa (.r n,h) else (lat h' n).map λxs=>(.p (.lst xs),h)
  | .o n=>if n < h.length then aa (.o n,h) else aa (.o n,h')
  | .k _=>af| .c _ _=>af
  | .x _=>af)
 else aa (w,h')
@[simp] noncomputable def fc (n:Nat) (ws:List W):Sl:=ws.map aa++Qi (n - ws.length) af
noncomputable def kM (x:Option Fl) (k:W->HH->Option (W×HH)):Option (W×HH):=match x with
 | some (.rt w h)=>k w h| some (.nx _ h)=>k (.p .non) h| _=>af
@[simp] theorem mH (w:W) (h:HH) (k:W->HH->Option (W×HH)):kM (aa (.rt w h)) k=k w h:=rfl
@[simp] theorem MM (s:Sl) (h:HH) (k:W->HH->Option (W×HH)):kM (aa (.nx s h)) k=k (.p .non) h:=rfl
@[simp] theorem Jh (k:W->HH->Option (W×HH)):kM af k=af:=rfl
end
section
variable (T:FK->Option Fn) (G:aB->Option W)
noncomputable def runN:Nat->FK->List W->HH->Option (W×HH)
 | 0,_,_,_=>af
 | k+1,f,ws,h=>match T f with
  | some fn=>if ws.length=fn.ps.length then kM (evS (runN k) G fn.body (fc fn.ns.length ws) h) (fin h) else af
  | none=>af
theorem run_eq {T:FK->Option Fn}{G:aB->Option W}{f:FK}{fn:Fn}{ws:List W}{h:HH}{k:Nat} (hT:T f=aa fn) (hl:ws.length=fn.ps.length) :
 runN T G (k+1) f ws h=kM (evS (runN T G k) G fn.body (fc fn.ns.length ws) h) (fin h):=by
 rw[runN,hT];exact if_pos hl
end
noncomputable def NY:Fn:=⟨["state","thing"],["state","thing"],.ret (.call "worth_in" (Z8 (.var 0) (.var 1)))⟩
noncomputable def NZ:Fn:=⟨["state","thing","worth"],["state","thing","worth"],.ret (.cmp .ne (.call "worth_in" (Z8 (.var 0) (.var 1))) (.var 2))⟩
noncomputable def N1:Fn:=⟨["state","thing","worth"],["state","thing","worth"],.ret (.cmp .ne (.call "worth_in" (Z8 (.var 0) (.var 1))) (.var 2))⟩
noncomputable def N2:Fn:=⟨["state","term"],["state","term"],.ret (.call "reckoned" (Z8 (.var 1) (.var 0)))⟩
noncomputable def N3:Fn:=⟨["state","term"],["state","term"],.ret (.cmp .ne (.call "reckoned" (Z8 (.var 1) (.var 0))) (.cst (.int 0)))⟩
noncomputable def N4:Fn:=⟨["state","term"],["state","term"],.ret (.cmp .ne (.call "reckoned" (Z8 (.var 1) (.var 0))) (.cst (.int 0)))⟩
noncomputable def N5:Fn:=⟨["state"],["state"],.ret (.idx (.var 0) (.glo "ROW"))⟩
noncomputable def N6:Fn:=⟨["state","row"],["state","row"],.ret (.cmp .eq (.idx (.var 0) (.glo "ROW")) (.var 1))⟩
noncomputable def N7:Fn:=⟨["state","number"],["state","number"],.ret (.cmp .gt (.bi .len ai (Z9 (.idx (.var 0) (.glo "SAID")))) (.var 1))⟩
noncomputable def N8:Fn:=⟨["state","bound"],["state","bound"],.ret (.cmp .le (.call "open_in" (Z9 (.var 0))) (.var 1))⟩
noncomputable def K1:Fn:=⟨["state","bound"],["state","bound"],.ret (.cmp .le (.call "open_in" (Z9 (.var 0))) (.var 1))⟩
noncomputable def K2:Fn:=⟨["state","wanted"],["state","wanted"],.ret (.and (.cmp .eq (.idx (.var 0) (.glo "NAMES")) (.idx (.var 1) (.glo "NAMES"))) (.cmp .eq (.idx (.var 0) (.glo "CELLS")) (.idx (.var 1) (.glo "CELLS"))))⟩
noncomputable def K3:Fn:=⟨["state","tape","thing"],["state","tape","thing"],.ret (.cmp .eq (.call "written_next" (Z8 (.var 1) (.var 0))) (.var 2))⟩
noncomputable def K4:Fn:=⟨[],[],.ret (.cst .non)⟩
noncomputable def K5:Fn:=⟨[],[],.ret (.cst .non)⟩
noncomputable def GJ (i:Nat):Option Fn:=([NY,NZ,N1,N2,N3,N4,N5,N6,N7,N8,K1,K2,K3,K4,K5]:List Fn)[i]?
noncomputable def g8:List aB:=["worths_of","last_change","next_change","moments_so","last_so","next_so","visits","last_visit","when_said","next_within","last_within","first_other","writer_of","judged","remade"]
noncomputable def E9 (i:Nat):aB:=g8.getD i ""
noncomputable def jy (x:aB):aB:="<"++x++">"
end BT
end
section
namespace BS
open PySem PySem.Spec PyProof.Rows L2
variable {K:PP}
theorem dG {β:Type}{c:Prop} [Decidable c] {a b:β} (h:(if c then aa a else af)=aa b):c/\a=b:=by
 by_cases z:c
 rw[if_pos z] at h;exact ⟨z,P5 h⟩;rw[if_neg z] at h;exact nomatch h
theorem cW {β:Type}{a:β}{P:Prop} (h:(af:Option β)=aa a):P:=nomatch h
noncomputable def attrName (f:aB):Bool:=(["program","asked","gap","most","kept","farthest","front","now","origins","branches","tape","named"]:List aB).contains f
noncomputable def sG:BT.Bi->Option (String×(BT.D->Bool))
 | .isInt=>aa ("int",BT.isI)| .isBool=>aa ("bool",BT.isB)| .isStr=>aa ("str",BT.isS)| .isTuple=>aa ("tuple",BT.isT)| _=>af
noncomputable def sH (sc:QX) (x:aB):Bool:=match sc.names.lookup x with
 | some .local=>ah| some .cell=>ah| some .free=>ah| _=>ai
noncomputable def dX (sc:QX) (x:aB):Bool:=sc.names.lookup x==aa .globalImplicit
noncomputable def fB (x:aB):Bool:=!(x=="__debug__")&&!(x=="__classdict__")&&!(x=="__name__")
noncomputable def noStar:P1->Bool
 | .Starred _ _=>ai| _=>ah
noncomputable def kN:P1->Bool
 | .Slice _ _ _ _=>ai| _=>ah
noncomputable def dW:P1->Bool
 | .Name _ _=>ah| .Constant _ _ _=>ah| .Subscript _ _ _=>ah| .Attribute _ _ _=>ah| .Call (.Attribute _ _ _) _ _ _=>ah| .Dict _ _ _=>ah| _=>ai
noncomputable def K6:BT.Bin->Tc
 | .add=>.Add| .sub=>.Sub| .mul=>.Mult| .mod=>.Mod| .fdiv=>.FloorDiv
noncomputable def Fb (o:BT.Bin) (op:Tc):Bool:=decide (op=K6 o)
noncomputable def N9:BT.Cm->CmpOp
 | .eq=>.Eq| .ne=>.NotEq| .lt=>.Lt| .le=>.LtE| .gt=>.Gt| .ge=>.GtE| .isN=>.Is| .notN=>.IsNot| .mem=>.In
noncomputable def C5 (o:BT.Cm) (op:CmpOp):Bool:=decide (op=N9 o)
noncomputable def Fc:BT.D->Const->Bool
 | .non,.none=>ah| .bl a,.bool b=>a==b| .int i,.int j=>i==j| .str x,.str y=>x==y&&PyData.strOk x| _,_=>ai
noncomputable def zK:BT.Bi->Bool->Option aB
 | .len,ai=>aa "len"| .int,ai=>aa "int"| .list,_=>aa "list"| .tuple,ai=>aa "tuple"| .min1,ai=>aa "min"| _,_=>af
noncomputable def Fd (b:BT.Bi) (mu:Bool) (x:aB):Bool:=zK b mu==aa x
noncomputable def zL:BT.Bi->aB->Bool
 | .max2,x=>x=="max"| _,_=>ai
noncomputable def C6:P1->Option Const
 | .Constant c _ _=>aa c| _=>af
noncomputable def cInt:Const->Option Int
 | .int j=>aa j| _=>af
noncomputable def unE:P1->Option P1
 | .UnaryOp o e _=>if o=.USub then aa e else af
 | _=>af
noncomputable def qC (k:Int) (e:P1):Bool:=((C6 e).bind cInt==aa k&&decide (0 < k))||(((unE e).bind C6).bind cInt==aa (-k)&&decide (k < 0))
noncomputable def zM:BT.Me->aB
 | .append=>"append"| .pop=>"pop"| .extend=>"extend"| .tindex=>"index"| .sindex=>"index"| .dget=>"get"| .count=>"count"| .lindex=>"index"
noncomputable def uy:BT.E->Bool
 | .glo _=>ah| _=>ai
noncomputable def zN (m:BT.Me) (o:BT.E):Bool:=match m with
 | .append=>ah| .pop=>ah| .extend=>ah| .sindex=>ah| .tindex=>uy o| .dget=>ai| .count=>ai| .lindex=>ai
noncomputable def Fe (c:aB):Bool:=(["NoMoment","NoThing","NoRun","NoText"]:List aB).contains c
noncomputable def Po (cn:aB):Bool:=Fe cn||cn=="ValueError"
noncomputable def gR (N:List aB):Bool:=!N.contains "_law_flags"
noncomputable def tOK:BT.E->Bool
 | .ite _ _ _=>ai| .not a=>tOK a| .and a b=>tOK a&&tOK b| .or a b=>tOK a&&tOK b| .tup _=>ai| .lst _ _=>ai| .obl _=>ai| .comp _ _ _ _ _ _ _=>ai| _=>ah
noncomputable def ko:P1->Bool
 | .Set _ _ _=>ai| _=>ah
noncomputable def sI:BT.Sr->P1->Bool
 | .zip2,.Tuple _ _ _=>ah| .enu,.Tuple _ _ _=>ah| .itm,.Tuple _ _ _=>ah| .zipG,.Tuple _ _ _=>ah| .zip2,_=>ai| .enu,_=>ai| .itm,_=>ai| .zipG,_=>ai| _,_=>ah
noncomputable def d8 (scope sc:QX):QX :=
 { scope with names:=scope.names.map λ(n,k)=>if (k==.free&&sc.kind==.function&&sc.names.lookup n==aa .cell) then (n,.cell) else (n,k) }
noncomputable def nmE:P1->Option aB
 | .Name y _=>aa y| _=>af
noncomputable def GK:P1->List P1
 | .Tuple xs _ _=>xs| _=>[]
noncomputable def sJ (sc:QX) (tg:List aB) (te:P1):Bool:=((tg.map aa==[nmE te])||(Nat.ble 2 tg.length&&tg.map aa==(GK te).map nmE))&&tg.all λx=>sc.names.lookup x==aa .local
noncomputable def nG:List aB->Bool
 | []=>ah| x::r=>!r.contains x&&nG r
noncomputable def kq (sc:QX) (N:List aB) (tg:List aB) (fv:List (Nat×aB)) (scope:QX):Bool :=
 scope.kind==.function&&sc.kind==.function&&scope.names.all (λy=>!(y.2==.cell))&&scope.names.all (λy=>!(y.2==.local)||scope.names.lookup y.1==aa .local) &&
 scope.names.all (λy=>!(y.2==.free)||sc.names.lookup y.1==aa .cell) &&
 fv.all (λq=>N[q.1]?==aa q.2&&scope.names.contains (q.2,.free)&&sc.names.lookup q.2==aa .cell&&(d8 scope sc).names.lookup q.2==aa .cell)&&nG (tg++fv.map (·.2))
noncomputable def dlQ:BT.D->PyData
 | .str x=>.str x| .int i=>.int i| _=>.none
noncomputable def K7:BT.D->Bool
 | .str x=>PyData.strOk x| .int _=>ah| _=>ai
noncomputable def dlD (kvs:List (aB×BT.D)):List (PyData×PyData):=kvs.map λp=>(.str p.1,dlQ p.2)
noncomputable def dlV:List (aB×BT.D)->Bool
 | []=>ah| p::r=>PyData.strOk p.1&&K7 p.2&&dlV r
noncomputable def dlB (kvs:List (aB×BT.D)) (keys:List (Option P1)) (values:List P1):Bool:=dlV kvs&&(keys.all λx=>x.isSome)&&decide (keys.length=values.length)&&!keys.isEmpty&&decide (keys.length<=15)&&decide (kvs.length<=15)
inductive Tq where
 | e (a:BT.E) (x:P1)|es (as:BT.Es) (xs:List P1)|o (as:BT.Es) (x:Option P1)|c (as:BT.Es) (xs:List P1)|i (sr:BT.Sr) (sa:BT.Es) (x:P1)
set_option autoImplicit true in
class inductive CQ:QX->List aB->Tq->Prop where
 | var (h1:N[i]?=aa x) (h2:sH sc x=ah) (h3:fB x=ah):CQ sc N (.e (.var i) (.Name x p))
 | cst (h:Fc d c=ah):CQ sc N (.e (.cst d) (.Constant c k p))
 | glo (h2:dX sc x=ah) (h3:fB x=ah):CQ sc N (.e (.glo x) (.Name x p))
 | bin (h:Fb o op=ah) (ha:CQ sc N (.e a l)) (hb:CQ sc N (.e b r)):CQ sc N (.e (.bin o a b) (.BinOp l op r p))
 | neg (ha:CQ sc N (.e a x)):CQ sc N (.e (.neg a) (.UnaryOp .USub x p))
 | not (ha:CQ sc N (.e a x)):CQ sc N (.e (.not a) (.UnaryOp .Not x p))
 | and2 (ha:CQ sc N (.e a x)) (hb:CQ sc N (.e b y)):CQ sc N (.e (.and a b) (.BoolOp .And [x,y] p))
 | and3 (ha:CQ sc N (.e a x)) (hb:CQ sc N (.e b (.BoolOp .And (y::z::r) p))):CQ sc N (.e (.and a b) (.BoolOp .And (x::y::z::r) p))
 | or2 (ha:CQ sc N (.e a x)) (hb:CQ sc N (.e b y)):CQ sc N (.e (.or a b) (.BoolOp .Or [x,y] p))
 | or3 (ha:CQ sc N (.e a x)) (hb:CQ sc N (.e b (.BoolOp .Or (y::z::r) p))):CQ sc N (.e (.or a b) (.BoolOp .Or (x::y::z::r) p))
 | cmp (h:C5 o op=ah) (ha:CQ sc N (.e a l)) (hb:CQ sc N (.e b r)) (hm:V2 op r=ai):CQ sc N (.e (.cmp o a b) (.Compare l [op] [r] p))
 | chain (h:C5 o op=ah) (h':C5 o' op'=ah) (ha:CQ sc N (.e a l)) (hb:CQ sc N (.e b r)) (hc:CQ sc N (.e c r')) (hm:lastMarks [op,op'] [r,r']=ai):CQ sc N (.e (.chain o o' a b c) (.Compare l [op,op'] [r,r'] p))
 | ite (h:tOK c=ah) (hc:CQ sc N (.e c t)) (ha:CQ sc N (.e a x)) (hb:CQ sc N (.e b y)):CQ sc N (.e (.ite c a b) (.IfExp t x y p))
 | tup (h:CQ sc N (.es as es)):CQ sc N (.e (.tup as) (.Tuple es k p))
 | lst (h:CQ sc N (.es as es)):CQ sc N (.e (.lst mu as) (.List es p))
 | idx (ha:CQ sc N (.e a x)) (hi:CQ sc N (.e i sl)) (hs:kN sl=ah):CQ sc N (.e (.idx a i) (.Subscript x sl p))
 | slc {lo:BT.Es} (ha:CQ sc N (.e a x)) (hl:CQ sc N (.o lo l)) (hu:CQ sc N (.o hi u)):CQ sc N (.e (.slc a lo hi) (.Subscript x (.Slice l u af p2) p))
 | call (hg:dX sc f=ah) (hn:fB f=ah) (ha:CQ sc N (.es as es)):CQ sc N (.e (.call f as) (.Call (.Name f np) es [] p))
 | bi (hu:gR N=ah) (hb:Fd b mu x=ah) (hg:dX sc x=ah) (hs:noStar e=ah) (ha:CQ sc N (.e a e)):CQ sc N (.e (.bi b mu (.cons a .nil)) (.Call (.Name x np) [e] [] p))
 | inst (hb:sG b=aa (c,f)) (hg:dX sc "isinstance"=ah) (hg2:dX sc (Qd c)=ah) (hs:noStar e=ah) (ha:CQ sc N (.e a e)) :
  CQ sc N (.e (.bi b ai (.cons a .nil)) (.Call (.Name "isinstance" np) [e,.Name (Qd c) p2] [] p))
 | me (h1:zN m o=ah) (h2:name=zM m) (h3:dW oe=ah) (h6:(apos.endLine==cpos.line)=ah) (h7:es.length < 20) (ho:CQ sc N (.e o oe)) (ha:CQ sc N (.es as es)) :
  CQ sc N (.e (.me m o as) (.Call (.Attribute oe name apos) es [] cpos))
 | comp {cond:BT.Es}
  (hu:gR N=ah) (hk:kq sc N tg fv scope=ah) (ht:sJ (d8 scope sc) tg te=ah) (hz:sI sr te=ah) (hs:ko iter=ah) (hi:CQ sc N (.i sr sa iter))
  (hc:CQ (d8 scope sc) (tg++fv.map (·.2)) (.c cond ifs)) (he:CQ (d8 scope sc) (tg++fv.map (·.2)) (.e elt elt')):CQ sc N (.e (.comp mu sr sa tg fv cond elt) (.ListComp elt' [⟨te,iter,ifs,0⟩] scope pos))
 | fld (hb:dW x=ah) (hf:attrName f=ah) (ha:CQ sc N (.e a x)):CQ sc N (.e (.fld a f) (.Attribute x f p))
 | meth (h3:dW oe=ah) (h6:(apos.endLine==cpos.line)=ah) (h7:es.length < 20) (ho:CQ sc N (.e o oe)) (ha:CQ sc N (.es as es)) :
  CQ sc N (.e (.meth o m as) (.Call (.Attribute oe m apos) es [] cpos))
 | stp (hk:qC k se=ah) (ha:CQ sc N (.e a x)):CQ sc N (.e (.stp mu k a) (.Subscript x (.Slice af af (aa se) p2) p))
 | bi2 (hu:gR N=ah) (hb:zL b x=ah) (hg:dX sc x=ah) (hs1:noStar e1=ah) (hs2:noStar e2=ah) (h1:CQ sc N (.e a1 e1)) (h2:CQ sc N (.e a2 e2)) :
  CQ sc N (.e (.bi b ai (.cons a1 (.cons a2 .nil))) (.Call (.Name x np) [e1,e2] [] p))
 | lzip (hu:gR N=ah) (hg:dX sc "list"=ah) (hg2:dX sc "zip"=ah) (hs1:noStar e1=ah) (hs2:noStar e2=ah) (h1:CQ sc N (.e a1 e1)) (h2:CQ sc N (.e a2 e2)) :
  CQ sc N (.e (.bi .lzip ai (.cons a1 (.cons a2 .nil))) (.Call (.Name "list" np) [.Call (.Name "zip" zp) [e1,e2] [] pos] [] p))
 | make (hg:dX sc c=ah) (hn:fB c=ah) (ha:CQ sc N (.es as es)):CQ sc N (.e (.make c as) (.Call (.Name c np) es [] p))
 | obl (hs:noStar e=ah) (h:CQ sc N (.e a e)):CQ sc N (.e (.obl a) (.List [e] p))
 | oba (h3:dW oe=ah) (h6:(apos.endLine==cpos.line)=ah) (hs:noStar e=ah) (ho:CQ sc N (.e o oe)) (ha:CQ sc N (.e a e)):CQ sc N (.e (.oba o a) (.Call (.Attribute oe "append" apos) [e] [] cpos))
 | obi (ha:CQ sc N (.e a x)) (hi:CQ sc N (.e i sl)) (hs:kN sl=ah):CQ sc N (.e (.obi a i) (.Subscript x sl p))
 | obn (hg:dX sc "len"=ah) (hs:noStar e=ah) (h:CQ sc N (.e a e)):CQ sc N (.e (.obn a) (.Call (.Name "len" np) [e] [] p))
 | sup (hg:dX sc c=ah) (hn:fB c=ah) (h6:(apos.endLine==cpos.line)=ah) (h7:(e::es).length < 20) (ha:CQ sc N (.es as (e::es))):CQ sc N (.e (.sup c as) (.Call (.Attribute (.Name c np) "__init__" apos) (e::es) [] cpos))
 | es_nil:CQ sc N (.es .nil [])
 | es_cons (hs:noStar e=ah) (ha:CQ sc N (.e a e)) (hr:CQ sc N (.es as es)):CQ sc N (.es (.cons a as) (e::es))
 | o_nil:CQ sc N (.o .nil af)
 | o_one (ha:CQ sc N (.e a e)):CQ sc N (.o (.cons a .nil) (aa e))
 | c_nil:CQ sc N (.c .nil [])
 | c_one (ht:tOK a=ah) (ha:CQ sc N (.e a e)):CQ sc N (.c (.cons a .nil) [e])
 | rng1 (hg:dX sc "range"=ah) (hs:noStar e=ah) (h:CQ sc N (.e a e)):CQ sc N (.i .rng1 (.cons a .nil) (.Call (.Name "range" p) [e] [] pos))
 | rng2 (hg:dX sc "range"=ah) (hs:noStar x=ah) (hs2:noStar y=ah) (ha:CQ sc N (.e a x)) (hb:CQ sc N (.e b y)):CQ sc N (.i .rng2 (.cons a (.cons b .nil)) (.Call (.Name "range" p) [x,y] [] pos))
 | rev (hg:dX sc "reversed"=ah) (hs:noStar e=ah) (h:CQ sc N (.e a e)):CQ sc N (.i .rev (.cons a .nil) (.Call (.Name "reversed" p) [e] [] pos))
 | seq (h:CQ sc N (.e a x)):CQ sc N (.i .seq (.cons a .nil) x)
noncomputable abbrev CE' (sc:QX) (N:List aB) (a:BT.E) (x:P1):Prop:=CQ sc N (.e a x)
noncomputable abbrev CEs (sc:QX) (N:List aB) (as:BT.Es) (xs:List P1):Prop:=CQ sc N (.es as xs)
noncomputable abbrev CC (sc:QX) (N:List aB) (as:BT.Es) (xs:List P1):Prop:=CQ sc N (.c as xs)
noncomputable abbrev CI (sc:QX) (N:List aB) (sr:BT.Sr) (sa:BT.Es) (x:P1):Prop:=CQ sc N (.i sr sa x)
inductive LPa:UJ->List aB->Prop where
 | one {p:Pos}:LPa ⟨[],[⟨"state",af,p⟩],af,[],[],af,[]⟩ ["state"]
 | two {p q:Pos}:LPa ⟨[],[⟨"row",af,p⟩,⟨"state",af,q⟩],af,[],[],af,[]⟩ ["row","state"]
noncomputable def zO (ps fs:List aB) (sc:QX):Bool :=
 sc.kind==.function&&!sc.isCoroutine&&!sc.isGenerator&&sc.names.all (λy=>!(y.2==.cell))&&ps.all (λx=>sc.names.lookup x==aa .local) &&
 fs.all (λx=>sc.names.lookup x==aa .free&&sc.names.contains (x,.free))&&sc.names.all (λy=>!(y.2==.free)||fs.contains y.1)&&nG (ps++fs)
noncomputable def K8 (sc:QX) (N:List aB) (fv:List (Nat×aB)):Bool:=fv.all λq=>N[q.1]?==aa q.2&&sc.names.lookup q.2==aa .cell
inductive CL (sc:QX) (N:List aB):BT.E->aB->BT.Es->Nat->List (Nat×aB)->P1->Prop where
 | zero {o bt:BT.E}{m:aB}{L:Nat}{fv:List (Nat×aB)}{oe be:P1}{apos cpos lp:Pos}{pa:UJ}{scope:QX}{ns ps:List aB} (hl:BT.GJ L=aa ⟨ns,ns,.ret bt⟩) (hp:LPa pa ps) (hn:ns=ps++fv.map (·.2)) (hk:zO ps (fv.map (·.2)) scope=ah) (hv:K8 sc N fv=ah)
  (ht:N.contains (BT.jy (BT.E9 L))=ah) (hc:CE' scope ns bt be) (h3:dW oe=ah) (h6:(apos.endLine==cpos.line)=ah) (ho:CE' sc N o oe):CL sc N o m .nil L fv (.Call (.Attribute oe m apos) [.Lambda pa be scope lp] [] cpos)
 | one {o bt a:BT.E}{m:aB}{L:Nat}{fv:List (Nat×aB)}{oe be e:P1}{apos cpos lp:Pos}{pa:UJ}{scope:QX}{ns ps:List aB} (hl:BT.GJ L=aa ⟨ns,ns,.ret bt⟩) (hp:LPa pa ps) (hn:ns=ps++fv.map (·.2)) (hk:zO ps (fv.map (·.2)) scope=ah) (hv:K8 sc N fv=ah)
  (ht:N.contains (BT.jy (BT.E9 L))=ah) (hc:CE' scope ns bt be) (h3:dW oe=ah) (h6:(apos.endLine==cpos.line)=ah) (ho:CE' sc N o oe) (hs:noStar e=ah) (ha:CE' sc N a e):CL sc N o m (.cons a .nil) L fv (.Call (.Attribute oe m apos) [e,.Lambda pa be scope lp] [] cpos)
def KT (K:PP) (a:P4) (xs:List V):Prop :=
 ∃ (o:av) (its:Array aC) (n:Nat),(K.lookup a=aa o/\o.cls=.type "tuple"/\o.data=.seq its n/\its.size<=ao/\dw xs its.toList)/\o.dict=af
def KL (K:PP) (a:P4) (xs:List V):Prop:=∃ (its:List aC) (n:Nat),K.lookup a=aa { cls:=.type "list",data:=.seq its.toArray n }/\its.length<=ao/\dw xs its
def LL (K:PP) (H:Hp) (a:P4) (xs:List V):Prop:=Rd H a (.lst xs)\/KL K a xs
theorem LL.sq (h:LL K H a xs):SqL K H a xs:=by
 rcases h with h|⟨its,n,h1,h2,h3⟩
 exact .inl h;exact .inr ⟨_,its.toArray,n,h1,rfl,rfl,rfl,by simpa using h2,by simpa using h3⟩
def KD (P:Qg) (w:QA) (K:PP) (a:P4) (es:List (aB×V)):Prop :=
 (a==SH)=ai/\∃ vs:List (Key×aC),KV (es.map λq=>(Sum.inr q.1,q.2)) vs/\∀ h:ay,K.In h->h.DictOf (dM P w) a vs
mutual
inductive RD (K:PP) (m:List P4) (H:Hp):V->BT.D->Prop where
 | non:RD K m H .non .non
 | bl (b:Bool):RD K m H (.bl b) (.bl b)
 | int (i:Int):RD K m H (.int i) (.int i)
 | str (x:aB) (h:PyData.strOk x=ah):RD K m H (.str x) (.str x)
 | tup {a:P4}{vs:List V}{ds:List BT.D} (h:(Rd H a (.tup vs)/\a∉m)\/KT K a vs) (r:RDs K m H vs ds):RD K m H (.ref a) (.tup ds)
 | lst {a:P4}{vs:List V}{ds:List BT.D} (h:(Rd H a (.lst vs)/\a∉m)\/KL K a vs) (r:RDs K m H vs ds):RD K m H (.ref a) (.lst ds)
inductive RDs (K:PP) (m:List P4) (H:Hp):List V->List BT.D->Prop where
 | nil:RDs K m H [] []
 | cons {v:V}{d:BT.D}{vs:List V}{ds:List BT.D} (r:RD K m H v d) (t:RDs K m H vs ds):RDs K m H (v::vs) (d::ds)
end
inductive RDk (K:PP):List (aB×V)->List (aB×BT.D)->Prop where
 | nil:RDk K [] []
 | cons {x:aB}{v:V}{d:BT.D}{es:List (aB×V)}{kvs:List (aB×BT.D)} (r:∀ m H,RD K m H v d) (t:RDk K es kvs):RDk K ((x,v)::es) ((x,d)::kvs)
inductive RA (K:PP) (m:List P4) (H:Hp):V->BT.W->Prop where
 | p {v:V}{d:BT.D} (r:RD K m H v d):RA K m H v (.p d)
 | r {a:P4}{n:Nat} (h:m[n]?=aa a):RA K m H (.ref a) (.r n)
 | o {a:P4}{n:Nat} (h:m[n]?=aa a):RA K m H (.ref a) (.o n)
def Tr (m:List P4) (H:Hp) (a:P4) (o:av):Prop:=H a=aa (.frz o (.own 0))/\a∉m
noncomputable def Oa (x:aB):aB:=x++".<locals>."++"<lambda>"
inductive uz (m:List P4) (H:Hp) (cl:List (aB×P4)):List aB->List V->Prop where
 | nil:uz m H cl [] []
 | cons {x:aB}{c:P4}{o:av}{u:aC}{v:V}{xs:List aB}{vs:List V} (h1:cl.lookup x=aa c) (h2:Tr m H c o) (h3:o.data=.cell (aa u)) (r:RelV v u) (t:uz m H cl xs vs):uz m H cl (x::xs) (v::vs)
inductive pO (m:List P4) (H:Hp) (f:P4) (L:Nat) (vs:List V):Prop where
 | mk (bt:_) (ps:_) (fs:_) (pa:_) (be:_) (sc:_) (cl:_) (pm:_) (ctv:_) (c':_) (oc:_) (os:_) (t:_) (q:_) (h1:BT.GJ L=aa ⟨ps++fs,ps++fs,.ret bt⟩) (h2:LPa pa ps) (h3:zO ps fs sc=ah) (h4:CE' sc (ps++fs) bt be) (h5:(∀ x y c,cl.lookup x=aa c->cl.lookup y=aa c->x=y)) (h6:(∀ x c,cl.lookup x=aa c->x∈fs)) (h7:Tr m H f (PySem.W.kla_obj "<lambda>" q pa be sc cl pm c' ctv)) (h8:Tr m H c' oc) (h9:oc.data=.fields os) (h10:os[1]?=aa (.str q t)) (h11:uz m H cl fs vs):pO m H f L vs
inductive RCs (K:PP) (m:List P4) (H:Hp):List V->List BT.Cp->Prop where
 | nil:RCs K m H [] []
 | cons {v:V}{x:BT.Cp}{vs:List V}{xs:List BT.Cp} (r:RA K m H v x.w) (t:RCs K m H vs xs):RCs K m H (v::vs) (x::xs)
def TB (K:PP) (H:Hp):Prop:=∀ x∈BT.g8,∀ c P,Ri K x=aa (c,P)->∃ ps,H P=aa (.tbl ps)/\TriplesOk ps.toList ∧
 ∀ pos v,codeAmong pos ps.toList=aa v->∃ c' oc os t,v=.ref c'/\H c'=aa (.frz oc (.own 0))/\oc.data=.fields os/\os[1]?=aa (.str (Oa x) t)
theorem TB.mono (h:TB K H) (h1:∀ P ps,H P=aa (.tbl ps)->H' P=aa (.tbl ps)) (h2:∀ a o vs,o.data=.fields vs->H a=aa (.frz o (.own 0))->H' a=aa (.frz o (.own 0))):TB K H':=λx hx c P e=>by obtain ⟨ps,e1,e2,e3⟩:=h x hx c P e;refine ⟨ps,h1 _ _ e1,e2,λpos v q=>?_⟩;obtain ⟨c',oc,os,t,q1,q2,q3⟩:=e3 pos v q;exact ⟨c',oc,os,t,q1,h2 _ _ _ q3.1 q2,q3⟩
def CN (K:PP) (c:aB) (C:P4):Prop:=QI K Qh c=aa (aa (.ref C))
structure XT (K:PP) (c:aB) (C:P4):Prop where
 ga:Qp K (.ref C) "__getattribute__"=aa (aa (.builtin "BaseException.__getattribute__"))
 nga:Qp K (.ref C) "__getattr__"=aa af
 mrb:T3 K C (.type "BaseException")=aa ah
 dct:RN K C=ah
 fnd:Qp K (.ref C) "__class__"=aa (aa (.builtin "object.__class__"))
 spc:RM K (.builtin "object.__class__") "__get__"=aa (aa (.builtin "getset_descriptor.__get__"))
 tak:Te K (.builtin "object.__class__")=aa ah
 mro:T3 K C (.type "object")=aa ah
 own:∀ cn,Fe cn=ah->BT.NW c cn=ah->∃ D,CN K cn D/\Rm K (.ref C) (.ref D)=aa (BT.NV c cn)
 val:Rm K (.ref C) (.type "ValueError")=aa ah
def excAt (K:PP) (c:aB) (a:P4):ay->Prop:=λh=>∃ o C,CN K c C/\XT K c C/\h.get? a=aa o/\o.cls=.ref C
inductive RKs (K:PP) (m:List P4) (H:Hp):List (Key×V)->List (BT.Ky×BT.D)->Prop where
 | nil:RKs K m H [] []
 | cons {k:Key}{v:V}{d:BT.D}{vs:List (Key×V)}{kvs:List (BT.Ky×BT.D)} (hk:RD K m H (kV k) (BT.Gi k)) (r:RD K m H v d) (t:RKs K m H vs kvs):RKs K m H ((k,v)::vs) ((k,d)::kvs)
inductive RW (P:Qg) (w:QA) (K:PP) (m:List P4) (H:Hp):V->BT.W->Prop where
 | p {v:V}{d:BT.D} (r:RD K m H v d):RW P w K m H v (.p d)
 | r {a:P4}{n:Nat} (h:m[n]?=aa a):RW P w K m H (.ref a) (.r n)
 | k {a:P4}{es:List (aB×V)}{kvs:List (aB×BT.D)} (h:KD P w K a es) (r:RDk K es kvs):RW P w K m H (.ref a) (.k (.t kvs))
 | kl {a:P4}{o:av}{vs:List (Key×V)}{kvs:List (BT.Ky×BT.D)} (h:H a=aa (.frz o (.dK vs))/\a∉m) (r:RKs K m H vs kvs):RW P w K m H (.ref a) (.k (.l kvs))
 | o {a:P4}{n:Nat} (h:m[n]?=aa a):RW P w K m H (.ref a) (.o n)
 | c {f:P4}{L:Nat}{vs:List V}{cs:List BT.Cp} (h:pO m H f L vs) (r:RCs K m H vs cs):RW P w K m H (.ref f) (.c (.l L) cs)
 | x {a:P4}{c:aB} (h:H a=aa (.ext (excAt K c a))) (n:a∉m) (xt:∃ C,XT K c C):RW P w K m H (.ref a) (.x c)
 | g {f:P4}{x:aB} (h:QI K Qh x=aa (aa (.ref f))) (r:Q3 K (.ref f)=ah):RW P w K m H (.ref f) (.c (.f x) [])
inductive RFs (K:PP) (m:List P4) (H:Hp):List (aB×V)->List (aB×BT.W)->Prop where
 | nil:RFs K m H [] []
 | cons {f:aB}{v:V}{x:BT.W}{vs:List (aB×V)}{fs:List (aB×BT.W)} (r:RA K m H v x) (t:RFs K m H vs fs):RFs K m H ((f,v)::vs) ((f,x)::fs)
theorem CN.inj (h:CN K c C) (h':CN K c C'):C=C':=by have e:=h.symm.trans h';simpa using e
structure nH (K:PP) (c:aB) (C:P4):Prop where
 cn:CN K c C
 cls:Cls K C
 no:∀ f,attrName f=ah->jr K C f
 rd:Uu K C (.type "type")=ah
inductive RBs (m:List P4):List V->List Nat->Prop where
 | nil:RBs m [] []
 | cons {n:Nat}{a:P4}{vs:List V}{ns:List Nat} (h:m[n]?=aa a) (t:RBs m vs ns):RBs m (.ref a::vs) (n::ns)
noncomputable def jz (K:PP) (m:List P4) (H:Hp) (a:P4):BT.Cl->Prop
 | .l xs=>∃ vs,H a=aa (.lst vs)/\RDs K m H vs xs| .o c fs=>∃ C dx vs,H a=aa (.ins C dx vs)/\nH K c C/\RFs K m H vs fs| .d kvs=>∃ vs,H a=aa (.dK vs)/\RKs K m H vs kvs| .z=>∃ ob vs,H a=aa (.frz ob (.dK vs))| .b ns=>∃ vs,H a=aa (.lst vs)/\RBs m vs ns
inductive RWs (P:Qg) (w:QA) (K:PP) (m:List P4) (H:Hp):List V->List BT.W->Prop where
 | nil:RWs P w K m H [] []
 | cons {v:V}{x:BT.W}{vs:List V}{xs:List BT.W} (r:RW P w K m H v x) (t:RWs P w K m H vs xs):RWs P w K m H (v::vs) (x::xs)
structure RH (K:PP) (m:List P4) (H:Hp) (h:BT.HH):Prop where
 nd:m.Nodup
 len:m.length=h.length
 cl:∀ (i:Nat) (a:P4) (c:BT.Cl),m[i]?=aa a->h[i]?=aa c->jz K m H a c
 tb:TB K H
theorem zP (e:BT.lat h n=aa xs):h[n]?=aa (.l xs):=by
 unfold BT.lat at e;cases g:h[n]? with
 | none=>rw[g] at e;exact cW e| some c=>rw[g] at e;cases c<;>simp[BT.m8] at e;rw[e]
theorem zQ (e:BT.oat h n=aa (c,fs)):h[n]?=aa (.o c fs):=by
 unfold BT.oat at e;cases g:h[n]? with
 | none=>rw[g] at e;exact cW e| some c=>rw[g] at e;cases c<;>simp[BT.oO] at e;rw[e.1,e.2]
theorem zR {h:BT.HH}{n:Nat}{ns:List Nat} (e:BT.bat h n=aa ns):h[n]?=aa (.b ns):=by
 unfold BT.bat at e;cases g:h[n]? with
 | none=>rw[g] at e;exact cW e| some c=>rw[g] at e;cases c<;>simp[BT.lY] at e;rw[e]
theorem RH.vE {m:List P4}{H:Hp}{h:BT.HH} (R:RH K m H h) (i:Nat) (a:P4) (ns:List Nat) (e:m[i]?=aa a) (g:BT.bat h i=aa ns):∃ vs,H a=aa (.lst vs)/\RBs m vs ns:=R.cl i a _ e (zR g)
theorem RH.cell (R:RH K m H h) (i:Nat) (a:P4) (xs:List BT.D) (e:m[i]?=aa a) (g:BT.lat h i=aa xs):∃ vs,H a=aa (.lst vs)/\RDs K m H vs xs:=R.cl i a _ e (zP g)
inductive OC (K:PP) (m:List P4) (H:Hp) (a:P4) (c:aB) (fs:List (aB×BT.W)):Prop where
 | mk (C:P4) (dx:_) (vs:_) (h1:H a=aa (.ins C dx vs)) (h2:nH K c C) (h3:RFs K m H vs fs):OC K m H a c fs
theorem RH.sL (R:RH K m H h) (i:Nat) (a:P4) (c:aB) (fs:List (aB×BT.W)) (e:m[i]?=aa a) (g:BT.oat h i=aa (c,fs)):OC K m H a c fs:=by obtain ⟨C,dx,vs,h1,h2,h3⟩:=R.cl i a _ e (zQ g);exact ⟨C,dx,vs,h1,h2,h3⟩
structure RS (P:Qg) (w:QA) (K:PP) (m:List P4) (H:Hp) (σ:L2.St) (s:BT.Sl):Prop where
 len:σ.length=s.length
 get:∀ (i:Nat) (x:BT.W),s[i]?=aa (aa x)->∃ v,σ[i]?=aa (aa v)/\RW P w K m H v x
noncomputable def Ff:HO->Bool
 | .tbl _=>ah| _=>ai
structure Ext (m:List P4) (H:Hp) (m':List P4) (H':Hp):Prop where
 pre:∃ e,m'=m++e/\∀ a∈e,H a=af
 keep:∀ a o,H a=aa o->a∉m->Ff o=ai->H' a=aa o
 live:∀ a,H' a=af->H a=af
 frz:∀ a ob vs,H a=aa (.frz ob (.dK vs))->H' a=aa (.frz ob (.dK vs))
theorem Ext.refl (m:List P4) (H:Hp):Ext m H m H:=⟨⟨[],by simp,by simp⟩,λ_ _ h _ _=>h,λ_ h=>h,λ_ _ _ h=>h⟩
theorem Ext.jA (x:Ext m H m' H') (h:H a=aa o) (n:a∉m):a∉m':=by
 obtain ⟨e,rfl,he⟩:=x.pre;intro q;rcases List.mem_append.mp q with q|q
 exact n q;rw[he a q] at h;exact cW h
theorem Ext.trans (x:Ext m H m1 H1) (y:Ext m1 H1 m2 H2):Ext m H m2 H2:=by
 obtain ⟨e,rfl,he⟩:=x.pre;obtain ⟨e',rfl,he'⟩:=y.pre;refine ⟨⟨e++e',by rw[QU],λa ha=>?_⟩,λa o h n t=>y.keep a o (x.keep a o h n t) (x.jA h n) t,λa h=>x.live a (y.live a h),λa ob vs h=>y.frz a ob vs (x.frz a ob vs h)⟩;rcases List.mem_append.mp ha with q|q
 exact he a q;exact x.live a (he' a q)
theorem Rd.ext (x:Ext m H m' H') (h:Rd H a u) (n:a∉m) (t:Ff u=ai:=by rfl):Rd H' a u/\a∉m':=by
 rcases h with h|⟨o,h⟩
 exact ⟨.inl (x.keep _ _ h n t),x.jA h n⟩;exact ⟨.inr ⟨o,x.keep _ _ h n rfl⟩,x.jA h n⟩
theorem Tr.ext (x:Ext m H m' H') (h:Tr m H a o):Tr m' H' a o:=⟨x.keep _ _ h.1 h.2 rfl,x.jA h.1 h.2⟩
theorem uz.ext (x:Ext m H m' H') (r:uz m H cl xs vs):uz m' H' cl xs vs:=by
 induction r with
 | nil=>exact .nil| cons h1 h2 h3 r t ih=>exact .cons h1 (h2.ext x) h3 r ih
theorem pO.ext (x:Ext m H m' H') (h:pO m H f L vs):pO m' H' f L vs:=by obtain ⟨bt,ps,fs,pa,be,sc,cl,pm,ctv,c',oc,os,t,q,h0,h1,h2,h3,h4,h5,h6,h7,h8,h9,h10⟩:=h;exact ⟨bt,ps,fs,pa,be,sc,cl,pm,ctv,c',oc,os,t,q,h0,h1,h2,h3,h4,h5,h6.ext x,h7.ext x,h8,h9,h10.ext x⟩
section
variable {K:PP}
mutual
theorem RD.ext (x:Ext m H m' H'):∀ {v:V}{d:BT.D},RD K m H v d->RD K m' H' v d
 | _,_,.non=>.non| _,_,.bl b=>.bl b| _,_,.int i=>.int i| _,_,.str y h=>.str y h| _,_,.tup h r=>.tup (h.elim (λq=>.inl (Rd.ext x q.1 q.2)) .inr) (RDs.ext x r)| _,_,.lst h r=>.lst (h.elim (λq=>.inl (Rd.ext x q.1 q.2)) .inr) (RDs.ext x r)
theorem RDs.ext (x:Ext m H m' H'):∀ {vs:List V}{ds:List BT.D},RDs K m H vs ds->RDs K m' H' vs ds
 | _,_,.nil=>.nil| _,_,.cons r t=>.cons (RD.ext x r) (RDs.ext x t)
end
theorem RA.rw (r:RA K m H v d):RW P w K m H v d:=by
 cases r with
 | p r=>exact .p r| r h=>exact .r h| o h=>exact .o h
theorem RW.ra (r:RW P w K m H v d) (h0:BT.attrOk d=ah):RA K m H v d:=by
 cases r with
 | p r=>exact .p r| r h=>exact .r h| o h=>exact .o h| _=>exact BT.eW h0
theorem Ext.ix (x:Ext m H m' H') {n:Nat} (h:m[n]?=aa a):m'[n]?=aa a:=by obtain ⟨e,rfl,_⟩:=x.pre;rw[PV (by rcases Qs _ m.length with q|q;exact q;rw[Qc q] at h;exact cW h)];exact h
theorem RA.ext (x:Ext m H m' H') (r:RA K m H v d):RA K m' H' v d:=by
 cases r with
 | p r=>exact .p (r.ext x)| r h=>exact .r (x.ix h)| o h=>exact .o (x.ix h)
theorem RCs.ext (x:Ext m H m' H') (r:RCs K m H vs cs):RCs K m' H' vs cs:=by
 induction r with
 | nil=>exact .nil| cons r t ih=>exact .cons (r.ext x) ih
theorem RKs.ext (x:Ext m H m' H') (r:RKs K m H vs kvs):RKs K m' H' vs kvs:=by
 induction r with
 | nil=>exact .nil| cons hk r t ih=>exact .cons (hk.ext x) (r.ext x) ih
theorem RW.ext (x:Ext m H m' H') (r:RW P w K m H v d):RW P w K m' H' v d:=by
 cases r with
 | p r=>exact .p (r.ext x)
 | r h =>
  obtain ⟨e,rfl,_⟩:=x.pre;refine .r ?_;rw[PV (by rcases Qs _ m.length with q|q;exact q;rw[Qc q] at h;exact cW h)];exact h
 | k h r=>exact .k h r| kl h r=>exact .kl ⟨x.keep _ _ h.1 h.2 rfl,x.jA h.1 h.2⟩ (r.ext x)| c h r=>exact .c (h.ext x) (r.ext x)| g h r=>exact .g h r| x h n xt=>exact .x (x.keep _ _ h n rfl) (x.jA h n) xt
 | o h =>
  obtain ⟨e,rfl,_⟩:=x.pre;refine .o ?_;rw[PV (by rcases Qs _ m.length with q|q;exact q;rw[Qc q] at h;exact cW h)];exact h
theorem RFs.ext (x:Ext m H m' H') (r:RFs K m H vs fs):RFs K m' H' vs fs:=by
 induction r with
 | nil=>exact .nil| cons r t ih=>exact .cons (r.ext x) ih
theorem RBs.ext (x:Ext m H m' H') {vs:List V}{ns:List Nat} (r:RBs m vs ns):RBs m' vs ns:=by
 induction r with
 | nil=>exact .nil| cons h t ih=>exact .cons (x.ix h) ih
theorem jz.ext (x:Ext m H m' H') (e:H' a=H a) (r:jz K m H a c):jz K m' H' a c:=by
 cases c with
 | o c fs=>obtain ⟨C,dx,vs,h1,h2,h3⟩:=r;exact ⟨C,dx,vs,e.trans h1,h2,h3.ext x⟩| z=>obtain ⟨ob,vs,h1⟩:=r;exact ⟨ob,vs,e.trans h1⟩| _=>obtain ⟨vs,h1,h2⟩:=r;exact ⟨vs,e.trans h1,h2.ext x⟩
theorem jz.some (r:jz K m H a c):∃ o,H a=aa o:=by
 cases c with
 | o c fs=>obtain ⟨C,dx,vs,h1,h2,h3⟩:=r;exact ⟨_,h1⟩| z=>obtain ⟨ob,vs,h1⟩:=r;exact ⟨_,h1⟩| _=>obtain ⟨vs,h1,h2⟩:=r;exact ⟨_,h1⟩
theorem RWs.ext (x:Ext m H m' H') (r:RWs P w K m H vs ds):RWs P w K m' H' vs ds:=by
 induction r with
 | nil=>exact .nil| cons r t ih=>exact .cons (r.ext x) ih
theorem RS.ext (x:Ext m H m' H') (r:RS P w K m H σ s):RS P w K m' H' σ s :=
 ⟨r.len,λi y e=>by obtain ⟨v,h,q⟩:=r.get i y e;exact ⟨v,h,q.ext x⟩⟩
theorem RDs.length:∀ {vs:List V}{ds:List BT.D},RDs K m H vs ds->vs.length=ds.length
 | _,_,.nil=>rfl
 | _,_,.cons _ t=>by rw[P9,P9,RDs.length t]
theorem RWs.length:∀ {vs:List V}{ds:List BT.W},RWs P w K m H vs ds->vs.length=ds.length
 | _,_,.nil=>rfl
 | _,_,.cons _ t=>by rw[P9,P9,RWs.length t]
theorem RDs.get:∀ {vs:List V}{ds:List BT.D}{i:Nat}{d:BT.D},RDs K m H vs ds->ds[i]?=aa d->∃ v,vs[i]?=aa v/\RD K m H v d
 | _,_,_,_,.nil,e=>by simp at e
 | _,_,0,_,.cons r _,e=>by simp at e;subst e;exact ⟨_,rfl,r⟩
 | _,_,i+1,d,.cons _ t,e=>by obtain ⟨u,h1,h2⟩:=RDs.get (i:=i) (d:=d) t (by simpa using e);exact ⟨u,by simpa using h1,h2⟩
theorem RDs.append:∀ {vs ws:List V}{ds es:List BT.D},RDs K m H vs ds->RDs K m H ws es->RDs K m H (vs++ws) (ds++es)
 | _,_,_,_,.nil,s=>s| _,_,_,_,.cons r t,s=>.cons r (RDs.append t s)
theorem RDs.take:∀ {vs:List V}{ds:List BT.D} (n:Nat),RDs K m H vs ds->RDs K m H (vs.take n) (ds.take n)
 | _,_,0,_=>.nil| _,_,_+1,.nil=>.nil| _,_,n+1,.cons r t=>.cons r (RDs.take n t)
theorem RDs.drop:∀ {vs:List V}{ds:List BT.D} (n:Nat),RDs K m H vs ds->RDs K m H (vs.drop n) (ds.drop n)
 | _,_,0,r=>r| _,_,_+1,.nil=>.nil| _,_,n+1,.cons _ t=>RDs.drop n t
theorem RDs.set (r:RD K m H v d):∀ {vs:List V}{ds:List BT.D} (i:Nat),RDs K m H vs ds->RDs K m H (vs.set i v) (ds.set i d)
 | _,_,_,.nil=>.nil| _,_,0,.cons _ t=>.cons r t| _,_,i+1,.cons q t=>.cons q (RDs.set r i t)
theorem RDs.pick (r:RDs K m H vs ds):∀ l:List Nat,RDs K m H (l.filterMap λi=>vs[i]?) (l.filterMap λi=>ds[i]?)
 | []=>.nil
 | i::l=>by
  rw[Qv,Qv];cases g:ds[i]? with
  | none =>
   have:vs[i]?=af:=by have h:=r.length;rw[U4] at g ⊢;lia
   rw[this];exact RDs.pick r l
  | some d =>
   obtain ⟨v,e,q⟩:=r.get g;rw[e];exact .cons q (RDs.pick r l)
theorem RDs.dropLast:∀ {vs:List V}{ds:List BT.D},RDs K m H vs ds->RDs K m H vs.dropLast ds.dropLast
 | _,_,.nil=>.nil| _,_,.cons _ .nil=>.nil| _,_,.cons r (.cons q t)=>.cons r (RDs.dropLast (.cons q t))
theorem RDs.rep (r:RDs K m H vs ds):∀ k:Nat,RDs K m H (Qi k vs).flatten (Qi k ds).flatten
 | 0=>.nil
 | k+1=>by rw[Rc,Rc,RU,RU];exact RDs.append r (RDs.rep r k)
theorem pP {N:List P4} (hN:N.Nodup) {i j:Nat}{x:P4} (a:N[i]?=aa x) (b:N[j]?=aa x):i=j:=by
 have hi:i < N.length:=by
  rcases Qs i N.length with z|z
  exact z;rw[Qc z] at a;exact cW a
 have hj:j < N.length:=by
  rcases Qs j N.length with z|z
  exact z;rw[Qc z] at b;exact cW b
 rw[P0 hi] at a;rw[P0 hj] at b;exact (Uz hN).mp ((P5 a).trans (P5 b).symm)
inductive RR (K:PP) (m:List P4) (H:Hp):V->BT.D->Prop where
 | d {v:V}{d:BT.D} (r:RD K m H v d):RR K m H v d
 | l {a:P4}{vs:List V}{ds:List BT.D} (h:H a=aa (.lst vs)) (r:RDs K m H vs ds):RR K m H (.ref a) (.lst ds)
theorem d9 (RHh:RH K m H h) (r:RW P w K m H v x) (e:BT.rd x h=aa d):RR K m H v d:=by
 cases r with
 | p r=>cases e;exact .d r
 | @r a n q =>
  simp only[BT.rd] at e;cases g:BT.lat h n with
  | none=>rw[g] at e;exact cW e
  | some xs =>
   rw[g] at e;cases e;obtain ⟨vs,h1,h2⟩:=RHh.cell n a xs q g;exact .l h1 h2
 | _=>exact cW e
inductive RLs (K:PP) (m:List P4) (H:Hp) (v:V) (ds:List BT.D):Prop where
 | mk (a:P4) (vs:List V) (e:v=.ref a) (l:LL K H a vs) (r:RDs K m H vs ds):RLs K m H v ds
inductive RTs (K:PP) (m:List P4) (H:Hp) (v:V) (ds:List BT.D):Prop where
 | mk (a:P4) (vs:List V) (e:v=.ref a) (l:SqT K H a vs) (r:RDs K m H vs ds):RTs K m H v ds
theorem RR.lst {v:V}{ds:List BT.D} (r:RR K m H v (.lst ds)):RLs K m H v ds:=by
 cases r with
 | d r=>cases r with|lst h r=>exact ⟨_,_,rfl,h.elim (λq=>.inl q.1) .inr,r⟩
 | l h r=>exact ⟨_,_,rfl,.inl (.inl h),r⟩
theorem RR.tup {v:V}{ds:List BT.D} (r:RR K m H v (.tup ds)):RTs K m H v ds:=by
 cases r with
 | d r=>cases r with|tup h r=>exact ⟨_,_,rfl,h.elim (λq=>.inl q.1) (λ⟨o,its,n,q,_⟩=>.inr ⟨o,its,n,q⟩),r⟩
theorem RR.int {v:V}{i:Int} (r:RR K m H v (.int i)):v=.int i:=by cases r with|d r=>cases r;rfl
theorem RR.str {v:V}{x:aB} (r:RR K m H v (.str x)):v=.str x/\PyData.strOk x=ah:=by cases r with|d r=>cases r with|str _ h=>exact ⟨rfl,h⟩
theorem RR.bl {v:V}{b:Bool} (r:RR K m H v (.bl b)):v=.bl b:=by cases r with|d r=>cases r;rfl
theorem RR.non (r:RR K m H v .non):v=.non:=by cases r with|d r=>cases r;rfl
theorem TB.new (hp:H p=af) (h:TB K H):TB K (upd H p o) :=
 h.mono (λP ps e=>by rw[dD (dS e hp)];exact e) λa o _ _ e=>by rw[dD (dS e hp)];exact e
theorem jS (hp:H p=af):Ext m H m (upd H p o) :=
 ⟨⟨[],by simp,by simp⟩,λa q h _ _=>by rw[dD (dS h hp)];exact h,λa h=>by
  by_cases e:a=p
  rw[e];exact hp
  ·rw[dD e] at h;exact h,λa ob vs h=>by rw[dD (dS h hp)];exact h⟩
theorem RH.jA (R:RH K m H h) (hp:H p=af):p∉m:=by
 intro q;obtain ⟨i,hi⟩:=RX q;have hl:i < h.length:=by
  rw[← R.len];rcases Qs i m.length with z|z
  exact z;rw[Qc z] at hi;exact cW hi
 obtain ⟨o,e⟩:=(R.cl i p h[i] hi (P0 hl)).some;rw[e] at hp;cases hp
def Le (H H':Hp):Prop:=∀ a u,H a=aa u->H' a=aa u
theorem Le.tb (q:Le H H') (t:TB K H):TB K H':=t.mono (λ_ _ e=>q _ _ e) λ_ _ _ _ e=>q _ _ e
theorem GL (hp:H p=af):Le H (upd H p o):=λa u e=>by rw[dD (dS e hp)];exact e
theorem RH.ext (R:RH K m H h) (x:Ext m H m H') (k:Le H H'):RH K m H' h :=
 ⟨R.nd,R.len,λi a c e1 e2=>by obtain ⟨o,e⟩:=(R.cl i a c e1 e2).some;exact (R.cl i a c e1 e2).ext x (by rw[e];exact k _ _ e),k.tb R.tb⟩
noncomputable def K9:HO->Bool
 | .lst _=>ah| .ins _ _ _=>ah| .dK _=>ah| _=>ai
noncomputable def La:HO->Bool
 | .frz _ (.dK _)=>ah| .lst _=>ah| .ins _ _ _=>ah| .dK _=>ah| _=>ai
theorem RH.mu (R:RH K m H h) (ha:a∈m):∃ o,H a=aa o/\La o=ah:=by
 obtain ⟨i,hi⟩:=RX ha;have hl:i < h.length:=by
  rw[← R.len];rcases Qs i m.length with z|z
  exact z;rw[Qc z] at hi;exact cW hi
 have z:=R.cl i a h[i] hi (P0 hl);cases g:h[i] with
 | o c fs=>rw[g] at z;obtain ⟨C,dx,vs,h1,h2,h3⟩:=z;exact ⟨_,h1,rfl⟩| z=>rw[g] at z;obtain ⟨ob,vs,h1⟩:=z;exact ⟨_,h1,rfl⟩| _=>rw[g] at z;obtain ⟨vs,h1,h2⟩:=z;exact ⟨_,h1,rfl⟩
theorem RH.new (R:RH K m H h) (hp:H p=af):RH K m (upd H p o) h :=
 R.ext (jS hp) (GL hp)
theorem iO (hp:H p=af):Ext m H (m++[p]) (upd H p o) :=
 ⟨⟨[p],rfl,by simpa using hp⟩,λa q h _ _=>by rw[dD (dS h hp)];exact h,λa h=>by
  by_cases e:a=p
  rw[e];exact hp
  ·rw[dD e] at h;exact h,λa ob vs h=>by rw[dD (dS h hp)];exact h⟩
theorem RH.GM (R:RH K m H h) (hp:H p=af) (r:jz K (m++[p]) (upd H p o) p c):RH K (m++[p]) (upd H p o) (h++[c]):=by
 have np:=R.jA hp;have x:Ext m H (m++[p]) (upd H p o):=iO hp;refine ⟨List.nodup_append.mpr ⟨R.nd,by simp,λa ha b hb=>by simp at hb;subst hb;exact λe=>np (e ▸ ha)⟩,by simp[R.len],λi a ys e1 e2=>?_,R.tb.new hp⟩
 by_cases c:i < m.length
 ·rw[PV c] at e1;rw[PV (by rw[← R.len];exact c)] at e2;have ne:a≠p:=by intro e;subst e;exact np (P8 e1)
  exact (R.cl i a ys e1 e2).ext x (dD ne)
 ·have e:i=m.length:=by
   rcases Qs i (m++[p]).length with z|z
   simp at z;lia;rw[Qc z] at e1;exact cW e1
  subst e;simp at e1;rw[R.len] at e2;simp at e2;subst e1 e2;exact r
theorem RH.Ob (R:RH K m H h) (hp:H p=af) (r:RDs K m H vs xs):RH K (m++[p]) (upd H p (.lst vs)) (h++[.l xs]) :=
 R.GM hp ⟨vs,ef,r.ext (iO hp)⟩
theorem TB.set (hm:∃ u,H a=aa u/\La u=ah) (h:TB K H):TB K (upd H a o):=by obtain ⟨w,hw,hu⟩:=hm;refine h.mono (λP ps e=>?_) λb ob _ _ e=>?_;rw[dD (λz=>by subst z;rw[hw] at e;cases e;exact BT.eW hu)];exact e;rw[dD (λz=>by subst z;rw[hw] at e;cases e;exact BT.eW hu)];exact e
theorem nI {a:P4}{o:HO} (ha:a∈m) (nf:∃ u,H a=aa u/\K9 u=ah):Ext m H m (upd H a o) :=
 ⟨⟨[],by simp,by simp⟩,λb u q n _=>by
  have ne:b≠a:=by intro e;subst e;exact n ha
  rw[dD ne];exact q,λb q=>by
  by_cases e:b=a
  subst e;rw[ef] at q;cases q
  ·rw[dD e] at q;exact q,λb ob vs q=>by
  obtain ⟨u,hu,hm⟩:=nf;rw[dD (λz=>by subst z;rw[hu] at q;cases q;exact BT.eW hm)];exact q⟩
theorem gS (ha:a∈m) (h:H a=aa (.lst us)):Ext m H m (upd H a (.lst vs)):=nI ha ⟨_,h,rfl⟩
theorem RH.setC {h:BT.HH} (R:RH K m H h) {n:Nat}{a:P4}{o:HO}{c:BT.Cl} (hn:m[n]?=aa a) (nf:∃ u,H a=aa u/\K9 u=ah) (r:jz K m (upd H a o) a c):RH K m (upd H a o) (h.set n c):=by
 have x:Ext m H m (upd H a o):=nI (P8 hn) nf;refine ⟨R.nd,by simp[R.len],λi b ys e1 e2=>?_,R.tb.set (R.mu (P8 hn))⟩
 by_cases c:i=n
 ·subst c;rw[hn] at e1;cases e1;have hl:i < h.length:=by
   rw[← R.len];rcases Qs i m.length with z|z
   exact z;rw[Qc z] at hn;exact cW hn
  rw[Qw hl] at e2;cases e2;exact r
 ·rw[Ql (QW c)] at e2;have ne:b≠a:=by intro e;subst e;exact c (pP R.nd e1 hn)
  exact (R.cl i b ys e1 e2).ext x (dD ne)
theorem RH.set (R:RH K m H h) (hn:m[n]?=aa a) (hH:H a=aa (.lst us)) (r:RDs K m H vs xs):RH K m (upd H a (.lst vs)) (h.set n (.l xs)) :=
 R.setC hn ⟨_,hH,rfl⟩ ⟨vs,ef,r.ext (gS (P8 hn) hH)⟩
end
end BS
end
section
namespace BS
open PySem PySem.Spec PyProof.Rows L2 PySem.SeqAt
theorem mq {E:aC->PX->Prop} (f:Nat->β->Sem (ForInStep β)) (n:Nat) (I:Nat->β->PX->Prop) (Q:β->PX->Prop)
 (turn:∀ i b s,i < n->I i b s->aA M A (f i b) (λr s'=>match r with | .yield b'=>I (i+1) b' s' | .done b'=>Q b' s') E s)
 (fin:∀ b s,I n b s->Q b s) (b:β) (h:I 0 b s):aA M A (forIn [:n] b f) Q E s:=by
 rw[Std.Legacy.Range.forIn_eq_forIn_range'];have e:VQ [:n].start [:n].size [:n].step=VQ 0 (n - 0):=by simp[Std.Legacy.Range.size]
 rw[e];refine wpAny_forIn_list f (λrest b s=>∃ i,i<=n/\rest=VQ i (n - i)/\I i b s) Q (λx rest b s ⟨i,hi,hr,q⟩=>?_) (λb s ⟨i,hi,hr,q⟩=>?_) _ b ⟨0,RC _,rfl,h⟩
 ·have hlt:i < n:=by
   rcases Qs i n with z|z
   exact z;rw[show n - i=0 by lia] at hr;simp at hr
  rw[show n - i=(n - (i+1))+1 by lia,List.range'_succ] at hr
  injection hr with e1 e2
  subst e1;refine Ss (turn x b s hlt q) (λr s' z=>?_) λ_ _ z=>z;cases r with
  | yield b'=>exact ⟨x+1,hlt,e2,z⟩| done b'=>exact z
 ·have:i=n:=by
   rcases Qs i n with z|z
   rw[show n - i=(n - (i+1))+1 by lia,List.range'_succ] at hr;simp at hr;lia
  subst this;exact fin b s q
theorem oU (l:P4) (items:Array aC) (n:Nat) (dd:Option P4) (sl:Array (Option aC)) (x:aC) (e:aC->Bool) (j:Nat) (hj:j < items.size)
 (hit:e items[j]=ah) (hno:∀ m (hm:m < items.size),m < j->e items[m]=ai) :
 Meets (Builtin.«tuple.index» ⟨[.ref l,x],[]⟩)
  (λA R s=>s.heap.get? l=aa { cls:=.type "tuple",dict:=dd,data:=.seq items n,slots:=sl }/\(∀ y,y∈items->EqAt A.in1 s y x (e y))/\R (.ok (.ret (.int j s.toks))) { s with toks:=s.toks+1 }) :=
 .of_wp λprog w A R s h=>by
 obtain ⟨hp,g,d,tk,os⟩:=s;obtain ⟨hl,he,h⟩:=h
 wp_walk using Sv hl,mq _ _ (λi b s'=>i<=j/\b.1=af/\s'=⟨hp,g,d,tk,os⟩) _
 case turn =>
  rintro i b s' hi ⟨hij,hb,rfl⟩
  have hi':i < items.size:=by lia
  rw[SS hi'];refine PR (he _ (Array.getElem_mem hi') prog w _ _ ?_)
  by_cases c:i=j
  ·subst c;rw[hit]
   wp_walk
   exact ⟨_,rfl,h⟩
  ·rw[hno i hi' (by lia)]
   wp_walk
   exact ⟨by lia,rfl,rfl⟩
 case fin =>
  rintro b s' ⟨hij,_,_⟩
  lia
 case h=>exact ⟨RC _,rfl,rfl⟩
theorem uA (l:P4) (items:Array aC) (n:Nat) (dd:Option P4) (sl:Array (Option aC)) (k:Int) (t:Tok) (h1:-1000<=k) (h2:k<=1000) (c1:¬ items.isEmpty=ah) (c2:k≠1) (c3:0 < k) (hz:items.size*k.toNat<=ao) :
 Meets (Builtin.«tuple.__mul__» ⟨[.ref l,.int k t],[]⟩)
  (λA R s=>s.heap.get? l=aa { cls:=.type "tuple",dict:=dd,data:=.seq items n,slots:=sl }/\R (.ok (.ret (.ref s.heap.objs.size))) { s with heap:=s.heap.push { cls:=.type "tuple",data:=.seq ((Qi k.toNat items).foldl (λx1 x2=>x1++x2) #[]) } }) :=
 .of_wp λprog w A R s h=>by
 obtain ⟨hp,g,d,tk,os⟩:=s;obtain ⟨hl,h⟩:=h;have f1:=VI;have a1:¬ (decide (k < -2 ^ 63)||decide (k ≥ 2 ^ 63))=ah:=by simp;lia
 have a2:¬ (items.isEmpty||k==1)=ah:=by simp at c1 ⊢;exact ⟨c1,c2⟩
 have a3:¬ (decide (k<=0)||items.isEmpty)=ah:=by simp at c1 ⊢;exact ⟨by lia,c1⟩
 have kk:(k.toNat:Int)=k:=by lia
 have a4:¬ ((items.size:Int)*k > (2 ^ 63 - 1) / 8):=by
  have z:((items.size*k.toNat:Nat):Int)<=(ao:Nat):=Int.ofNat_le.mpr hz;rw[Int.natCast_mul,kk] at z;have z2:((ao:Nat):Int)<=(2 ^ 63 - 1) / 8:=by decide
  lia
 have a5:¬ T5 ((items.size:Int)*k)=ah:=by have z:((items.size*k.toNat:Nat):Int)<=(ao:Nat):=Int.ofNat_le.mpr hz;rw[Int.natCast_mul,kk] at z;simp only[T5,decide_eq_true_eq];lia
 have hsz:sizeOk (.seq ((Qi k.toNat items).foldl (λx1 x2=>x1++x2) #[])):=by show ((Qi k.toNat items).foldl (λx1 x2=>x1++x2) #[]).size<=ao;rw[AutoListH.size_joined,Array.size_empty,Sj];lia
 wp_walk using Sv hl
 rw[if_neg a1]
 wp_walk using Sv hl
 refine wpAny_ite_split (λc=>absurd c ?_) (λ_=>?_);intro c;have a6:=a4;simp at a6 c;lia
 wp_walk using Sv hl
 refine wpAny_ite_false (decide_eq_false (Nat.not_lt.mpr hsz)) ?_
 wp_walk
 exact ⟨_,rfl,h⟩
theorem lG:fillsNumberSlot (.type "tuple") "mul"=pure ai :=
 PySem.fillsNumberSlot_seq (id:="tuple.__mul__") (r:=aa (.builtin "tuple.__rmul__")) F.slot_tuple_mul.lookup (by decide +kernel) F.slot_tuple_rmul.lookup (by decide +kernel)
theorem qD:seqRepeat? (.type "tuple")=pure (aa (.builtin "tuple.__mul__")):=by unfold seqRepeat?;rw[PySem.seqSlot_of (T:="tuple") (name:="__mul__") (id:="tuple.__mul__") F.slot_tuple_mul.lookup (by decide +kernel),PySem.seqSlot_of (T:="tuple") (name:="__rmul__") (id:="tuple.__rmul__") F.slot_tuple_rmul.lookup (by decide +kernel)];rfl
theorem nJ (a:Int) (t:Tok) (l:P4) (items:Array aC) (n:Nat) (dd:Option P4) (sl:Array (Option aC)) :
 Meets (Builtin.«int.__rmul__» ⟨[.int a t,.ref l],[]⟩) (λ_ R s=>s.heap.get? l=aa { cls:=.type "tuple",dict:=dd,data:=.seq items n,slots:=sl }/\R (.ok (.ret Value.notImplemented)) s) :=
 .of_wp λprog w A R s h=>by obtain ⟨hp,g,d,tk,os⟩:=s;obtain ⟨hl,h⟩:=h;wp_walk;exact ⟨_,rfl,h⟩
theorem mz (l:P4) (items:Array aC) (n:Nat) (b:P4) (items2:Array aC) (n2:Nat) (dd:Option P4) (sl:Array (Option aC)) (hs0:¬(!items.isEmpty&&Q4 (items.size+items2.size))=ah) (hs1:items.size<=ao) (hs2:items.size+items2.size<=ao+1) :
 Meets (Builtin.«list.extend» ⟨[.ref l,.ref b],[]⟩) (λ_ R s=>s.heap.get? l=aa { cls:=.type "list",dict:=af,data:=.seq items n,slots:=#[] }/\s.heap.get? b=aa { cls:=.type "tuple",dict:=dd,data:=.seq items2 n2,slots:=sl }/\R (.ok (.ret RE)) { s with heap:=s.heap.update l (Ro λx=>x++items2),toks:=s.toks }) :=
 .of_wp λprog w A R s h=>by
  obtain ⟨hp,g,d,tk,os⟩:=s;obtain ⟨hl,hb,h⟩:=h;have f1:=VI;have f2:=AutoSeq1.sub_tuple_tuple;have f3:=AutoSeq1.sub_list_list;have f4:=AutoSeq1.sub_tuple_list;have f5:=AutoSeq1.sub_list_tuple;have hz':(items++items2).size<=ao+1:=by rw[Array.size_append];exact hs2
  wp_walk using (SV hl rfl (hz:=hs1) (_hz':=hz')),Sv hl,Sv hb;exact ⟨_,rfl,h⟩
end BS
end
section
namespace BS
open PySem PySem.Spec PyProof.Rows L2
inductive Bnd {α β:Type} (x:Option (α×BT.HH)) (k:α->BT.HH->Option β) (r:β):Prop where
 | mk (a:α) (g:BT.HH) (h1:x=aa (a,g)) (h2:k a g=aa r):Bnd x k r
inductive Lb {α β:Type} (x:Option α) (f:α->β) (r:β):Prop where
 | mk (a:α) (h1:x=aa a) (h2:f a=r):Lb x f r
inductive Bind (o:BT.Bin) (x y:BT.W) (h:BT.HH) (z:BT.W) (h':BT.HH):Prop where
 | mk (d d' q:BT.D) (h1:BT.rd x h=aa d) (h2:BT.rd y h=aa d') (h3:BT.j7 o d d'=aa q) (h4:z=.p q) (h5:h'=h):Bind o x y h z h'
theorem cZ {α β:Type}{x:Option (α×BT.HH)}{k:α->BT.HH->Option β}{r:β} (h:BT.bnd x k=aa r):Bnd x k r:=by
 cases x with
 | none=>exact cW h| some q=>exact ⟨q.1,q.2,rfl,h⟩
theorem dH {α β:Type}{x:Option α}{f:α->β}{r:β} (h:x.map f=aa r):Lb x f r:=by
 cases x with
 | none=>exact cW h| some a=>exact ⟨a,rfl,P5 h⟩
def Post (P:Qg) (w:QA) (K:PP) (m:List P4) (H:Hp) (z:BT.W) (h':BT.HH) (Q:VK):Prop :=
 ∀ v H' m',Ext m H m' H'->RH K m' H' h'->RW P w K m' H' v z->Q v H'
inductive rOp (P:Qg) (w:QA) (K:PP) (f:BT.W->BT.W->BT.HH->Option (BT.W×BT.HH)) (v u:V) (H:Hp) (Q:VK):Prop where
 | mk (m:List P4) (h:BT.HH) (x y z:BT.W) (h':BT.HH) (R:RH K m H h) (rx:RW P w K m H v x) (ry:RW P w K m H u y) (e:f x y h=aa (z,h')) (p:Post P w K m H z h' Q):rOp P w K f v u H Q
theorem kO {o:BT.Bin}{x y:BT.W}{h:BT.HH}{z:BT.W}{h':BT.HH} (e:BT.qy o x y h=aa (z,h')):Bind o x y h z h':=by
 unfold BT.qy at e;cases e1:BT.rd x h with
 | none=>rw[e1] at e;exact cW e
 | some d =>
  cases e2:BT.rd y h with
  | none=>rw[e1,e2] at e;exact cW e
  | some d' =>
   rw[e1,e2] at e;obtain ⟨q,eq,er⟩:=dH e;cases er;exact ⟨d,d',q,e1,e2,eq,rfl,rfl⟩
section
variable {X:Cx}
theorem fP:BT.lim<=ao:=by decide
inductive Lc (s:PX) (a:P4) (xs:List V):Prop where
 | mk (z:xs.length<=ao) (its:List aC) (n:Nat) (r:dw xs its) (l:xs.length=its.length) (e:s.heap.get? a=aa { cls:=.type "list",data:=.seq its.toArray n }):Lc s a xs
theorem rdL (I:Inv X zt σ H s) (r:LL X.K H a xs):Lc s a xs:=by
 rcases r with r|⟨its,n,h1,h2,h3⟩
 ·obtain ⟨z,its,n,r,e⟩:=r.ok I.hok;exact ⟨z,its,n,r,r.length,e⟩
 exact ⟨by rw[h3.length];exact h2,its,n,h3,h3.length,I.kIn a _ h1⟩
theorem zS (I:Inv X zt σ H s) (ha:LL X.K H a xs) (hb:LL X.K H b ys) (hz:xs.length+ys.length<=ao)
 (q:∀ p,H p=af->Q (.ref p) (upd H p (.lst (xs++ys)))):aA (Qq X.prog X.w) X.A (Rv .Add (.ref a) (.ref b)) (EP X zt σ Q) X.xe s:=by
 obtain ⟨z,its,n,r,hl,e⟩:=rdL I ha;obtain ⟨z2,its2,n2,r2,hl2,e2⟩:=rdL I hb;refine PySem.P.add_list e e2 ?_ (by rw[PY,PY];lia);have ea:its.toArray++its2.toArray=(its++its2).toArray:=by simp
 rw[ea];exact ⟨.ref _,_,I.J0 (t':=s.toks) (r.append r2) (by rw[Qk];lia),rfl,q _ I.fresh⟩
theorem xF (I:Inv X zt σ H s) (ha:SqT X.K H a xs) (hb:SqT X.K H b ys) (hz:xs.length+ys.length<=ao)
 (q0:xs=[]->Q (.ref b) H) (q1:ys=[]->Q (.ref a) H) (q:∀ p,H p=af->Q (.ref p) (upd H p (.tup (xs++ys)))):aA (Qq X.prog X.w) X.A (Rv .Add (.ref a) (.ref b)) (EP X zt σ Q) X.xe s:=by
 by_cases c:xs=[]
 ·obtain ⟨its,r1,p1,_⟩:=I.tuple ha;obtain ⟨its2,r2,p2,_⟩:=I.tuple hb;obtain ⟨⟨cls,dd,data,sl⟩,ho,hc,n,hd⟩:=id p1;obtain ⟨⟨cls2,dd2,data2,sl2⟩,ho2,hc2,n2,hd2⟩:=id p2;simp only at hc hd hc2 hd2;subst hc hd hc2 hd2;have z:its=[]:=r1.kI.mpr c;exact concat_meets ⟨_,ho,rfl⟩ ⟨_,ho2,rfl⟩ U8 VW SZ SY (SR _ _)
   (tuple_addW0 a b its.toArray its2.toArray n n2 dd dd2 sl sl2 (by simp[z])) ⟨ho,ho2,⟨.ref b,H,I,rfl,q0 c⟩⟩
 exact CB zt s σ H (.ref a) (.ref b) _ _ Q I rfl rfl ⟨a,b,xs,ys,rfl,rfl,ha,hb,c,hz,q1,λ_=>q⟩
theorem kP (R:RH X.K m H h) (hp:H p=af) (r:RDs X.K m H vs ds) (zr:Post X.prog X.w X.K m H (.p (.tup ds)) h Q):Q (.ref p) (upd H p (.tup vs)) :=
 zr _ _ m (jS hp) (R.new hp) (.p (.tup (.inl ⟨.inl ef,R.jA hp⟩) (r.ext (jS hp))))
theorem kQ (R:RH X.K m H h) (hp:H p=af) (r:RDs X.K m H vs ds) (zr:Post X.prog X.w X.K m H (.p (.lst ds)) h Q):Q (.ref p) (upd H p (.lst vs)) :=
 zr _ _ m (jS hp) (R.new hp) (.p (.lst (.inl ⟨.inl ef,R.jA hp⟩) (r.ext (jS hp))))
theorem vF (R:RH X.K m H h) (hp:H p=af) (r:RDs X.K m H vs ds) (zr:Post X.prog X.w X.K m H (.r h.length) (h++[.l ds]) Q):Q (.ref p) (upd H p (.lst vs)) :=
 zr _ _ (m++[p]) (iO hp) (R.Ob hp r) (.r (by rw[← R.len];simp))
theorem qE (R:RH X.K m H h) (hp:H p=af) (r:RDs X.K m H vs ds) (zr:Post X.prog X.w X.K m H (BT.new mu ds h).1 (BT.new mu ds h).2 Q):Q (.ref p) (upd H p (.lst vs)):=by
 cases mu with
 | false=>exact kQ R hp r zr| true=>exact vF R hp r zr
theorem Post.here (R:RH X.K m H h) (zr:Post X.prog X.w X.K m H (.p d) h Q) (r:RD X.K m H v d):Q v H:=zr v H m (.refl _ _) R (.p r)
theorem qF (hx:PyData.strOk x=ah) (hy:PyData.strOk y=ah):PyData.strOk (x++y)=ah:=by show (x.cps++y.cps).all _=ah;rw[Array.all_append];simp only[PyData.strOk] at hx hy;rw[hx,hy];rfl
theorem GN:OpR X (Rv .Add) (rOp X.prog X.w X.K (BT.qy .add)):=by
 intro zt s σ H v u v' u' Q I rv ru h;obtain ⟨m,h,x,y,z,h',R,rx,ry,e,zr⟩:=h;obtain ⟨d,d',q,e1,e2,e3,rfl,rfl⟩:=kO e;have r1:=d9 R rx e1;have r2:=d9 R ry e2;cases d<;>cases d'<;>first|exact cW e3|simp only[BT.su,BT.nk,BT.nq,BT.kg,BT.nt,BT.sy,BT.nu,BT.nv,BT.ny,BT.lE] at e3
 ·cases e3;cases r1.int;cases r2.int;exact FW zt s σ H _ _ _ _ Q I rv ru ⟨_,_,rfl,rfl,zr.here R (.int _)⟩
 ·obtain ⟨c,e3⟩:=dG e3;cases e3;obtain ⟨ev,ov⟩:=r1.str;obtain ⟨eu,ou⟩:=r2.str;subst ev;subst eu;have:=fP;exact uc zt s σ H _ _ _ _ Q I rv ru ⟨_,_,rfl,rfl,by lia,zr.here R (.str _ (qF ov ou))⟩
 ·obtain ⟨c,e3⟩:=dG e3;cases e3;obtain ⟨a,vs,rfl,ha,ra⟩:=r1.tup;obtain ⟨b,us,rfl,hb,rb⟩:=r2.tup;cases rv;cases ru;have l1:=ra.length;have l2:=rb.length;have:=fP;refine xF I ha hb (by lia) (λz=>?_) (λz=>?_) λp hp=>kP R hp (ra.append rb) zr
  ·subst z;cases ra;cases r2 with|d r=>exact zr.here R r
  ·subst z;cases rb;rw[Rf] at zr;cases r1 with|d r=>exact zr.here R r
 ·obtain ⟨c,e3⟩:=dG e3;cases e3;obtain ⟨a,vs,rfl,ha,ra⟩:=r1.lst;obtain ⟨b,us,rfl,hb,rb⟩:=r2.lst;cases rv;cases ru;have l1:=ra.length;have l2:=rb.length;have:=fP;exact zS I ha hb (by lia) λp hp=>kQ R hp (ra.append rb) zr
noncomputable def Oc:BT.Bin->Bool
 | .add=>ai| .mul=>ai| _=>ah
theorem qG {o:BT.Bin}{d d' z:BT.D} (ho:Oc o=ah) (e:BT.j7 o d d'=aa z):∃ i j,d=.int i/\d'=.int j:=by cases o<;>first|exact BT.eW ho|(cases d<;>first|exact cW e|(cases d'<;>first|exact cW e|exact ⟨_,_,rfl,rfl⟩))
theorem GO:OpR X (Rv .Sub) (rOp X.prog X.w X.K (BT.qy .sub)):=by intro zt s σ H v u v' u' Q I rv ru h;obtain ⟨m,h,x,y,z,h',R,rx,ry,e,zr⟩:=h;obtain ⟨d,d',q,e1,e2,e3,rfl,rfl⟩:=kO e;obtain ⟨i,j,rfl,rfl⟩:=qG rfl e3;rw[BT.nt] at e3;cases e3;cases (d9 R rx e1).int;cases (d9 R ry e2).int;exact FY zt s σ H _ _ _ _ Q I rv ru ⟨_,_,rfl,rfl,zr.here R (.int _)⟩
theorem GP:OpR X (Rv .Mod) (rOp X.prog X.w X.K (BT.qy .mod)):=by intro zt s σ H v u v' u' Q I rv ru h;obtain ⟨m,h,x,y,z,h',R,rx,ry,e,zr⟩:=h;obtain ⟨d,d',q,e1,e2,e3,rfl,rfl⟩:=kO e;obtain ⟨i,j,rfl,rfl⟩:=qG rfl e3;rw[BT.ny] at e3;obtain ⟨c,e3⟩:=dG e3;cases e3;cases (d9 R rx e1).int;cases (d9 R ry e2).int;exact F0 zt s σ H _ _ _ _ Q I rv ru ⟨_,_,rfl,rfl,c,zr.here R (.int _)⟩
theorem C7:OpR X (Rv .FloorDiv) (rOp X.prog X.w X.K (BT.qy .fdiv)):=by intro zt s σ H v u v' u' Q I rv ru h;obtain ⟨m,h,x,y,z,h',R,rx,ry,e,zr⟩:=h;obtain ⟨d,d',q,e1,e2,e3,rfl,rfl⟩:=kO e;obtain ⟨i,j,rfl,rfl⟩:=qG rfl e3;rw[BT.lE] at e3;obtain ⟨c,e3⟩:=dG e3;simp only[PZ,decide_eq_true_eq] at c;cases e3;cases (d9 R rx e1).int;cases (d9 R ry e2).int;exact Ck zt s σ H _ _ _ _ Q I rv ru ⟨_,_,rfl,rfl,⟨c.1,c.2⟩,zr.here R (.int _)⟩
theorem qH (h:BT.big i=ah):-(2 ^ 64) < i/\i < 2 ^ 64:=by unfold BT.big at h;have:=of_decide_eq_true h;lia
theorem xG (I:Inv X zt σ H s) (ha:SqT X.K H a xs) (h1:2<=k) (h2:k<=1000) (hne:xs≠[]) (hz:xs.length*k.toNat<=ao)
 (q:∀ p,H p=af->Q (.ref p) (upd H p (.tup (Qi k.toNat xs).flatten))):aA (Qq X.prog X.w) X.A (Rv .Mult (.ref a) (.int k t)) (EP X zt σ Q) X.xe s:=by
 obtain ⟨its,r,p,_⟩:=I.tuple ha;obtain ⟨⟨cls,dd,data,sl⟩,e,hc,n,hd⟩:=id p;simp only at hc hd;subst hc hd;have hl:=r.length;have hlen:its.toArray.size*k.toNat<=ao:=by rw[PY,← hl];exact hz
 have f0:Vb (λx1 x2=>x1++x2) #[] (Qi k.toNat its.toArray)=(Qi k.toNat its).flatten.toArray:=by have:=foldl_rep its k.toNat [];rw[RO] at this;exact this
 have hi:¬ its.toArray.isEmpty=ah:=by
  intro z;have z2:its=[]:=by simpa using z
  exact hne (r.kI.mp z2)
 refine VA (T:="tuple") (U:="int") (by decide) ⟨_,e,rfl⟩ (λs'=>typeIs_int s' k t) lG F.fills_int_mul F.slot_int_rmul qD F.slot_int_index.lookup
  (SI F.slot_int_rmul (typeIs_int s k t) F.entry_int_rmul (F.args_int_rmul_2 _ _) (nJ k t a its.toArray n dd sl)
   ⟨e,rfl,⟨_,e,rfl⟩,SI F.slot_tuple_mul ⟨_,e,rfl⟩ F.entry_tuple_mul (F.args_tuple_mul_2 _ _) (uA a its.toArray n dd sl k t (by lia) h2 hi (by lia) (by lia) hlen) ⟨e,?_⟩⟩)
 rw[f0];have hf:H s.heap.objs.size=af:=I.hok.fresh (P6 _);refine ⟨.ref s.heap.objs.size,_,I.laid (t':=s.toks) (o:=.tup (Qi k.toNat xs).flatten) (λb ob q=>PU _ q) (P6 _) ?_,rfl,q _ hf⟩;exact ⟨by rw[len_rep,Sj];exact hz,_,r.rep k.toNat,IsTup.new _ _⟩
theorem zT (I:Inv X zt σ H s) (hH:LL X.K H l xs) (h1:-(2 ^ 63)<=k) (h2:k<=1000) (hz:xs.length*k.toNat<=ao)
 (q:∀ p,H p=af->Q (.ref p) (upd H p (.lst (Qi k.toNat xs).flatten))):aA (Qq X.prog X.w) X.A (Rv .Mult (.ref l) (.int k t)) (EP X zt σ Q) X.xe s:=by
 have h2':k < 2 ^ 63:=by lia
 obtain ⟨z,its,n,r,hl,e⟩:=rdL I hH;have hlen:its.toArray.size*k.toNat<=ao:=by rw[PY,← hl];exact hz
 have hcap:¬ its.toArray.size*k.toNat > (2 ^ 63 - 1) / 8:=by
  have:(ao:Nat)<=(2 ^ 63 - 1) / 8:=by decide
  lia
 have hfit:¬ (!Builtin.List.listFitsIndex k)=ah:=by rw[fitsIndex_both h1 h2'];exact QM
 have hlong:¬ Q4 (its.toArray.size*k.toNat)=ah:=by rw[m6 hlen];exact QM
 have hnew:Vb (λx1 x2=>x1++x2) #[] (Qi (if its.toArray.isEmpty=ah then 0 else k.toNat) its.toArray)=(Qi k.toNat its).flatten.toArray:=by
  have f0:∀ m:Nat,Vb (λx1 x2=>x1++x2) #[] (Qi m its.toArray)=(Qi m its).flatten.toArray:=λm=>by have:=foldl_rep its m [];rw[RO] at this;exact this
  rw[f0];cases its with
  | nil=>simp| cons a r'=>rw[if_neg (by simp)]
 refine VA (T:="list") (U:="int") (by decide) ⟨_,e,rfl⟩ (λs'=>typeIs_int s' k t) noFill_list_mul F.fills_int_mul F.slot_int_rmul repeat_list F.slot_int_index.lookup
  (SI F.slot_int_rmul (typeIs_int s k t) F.entry_int_rmul (F.args_int_rmul_2 _ _) (int___rmul___int_list k t l its.toArray n)
   ⟨e,rfl,⟨_,e,rfl⟩,SI F.slot_list_mul ⟨_,e,rfl⟩ F.entry_list_mul (F.args_list_mul_2 _ _) (AutoListH.list___mul___list_int_3 l its.toArray n k t hfit hcap hlong) ⟨e,?_⟩⟩)
 rw[hnew];exact ⟨.ref _,_,I.J0 (t':=s.toks) (r.rep k.toNat) (by rw[len_rep,Sj];exact hz),rfl,q _ I.fresh⟩
theorem GQ:OpR X (Rv .Mult) (rOp X.prog X.w X.K (BT.qy .mul)):=by
 intro zt s σ H v u v' u' Q I rv ru h;obtain ⟨m,h,x,y,z,h',R,rx,ry,e,zr⟩:=h;obtain ⟨d,d',q,e1,e2,e3,rfl,rfl⟩:=kO e;have r1:=d9 R rx e1;have r2:=d9 R ry e2;cases d<;>cases d'<;>first|exact cW e3|simp only[BT.su,BT.nk,BT.nq,BT.kg,BT.nt,BT.sy,BT.nu,BT.nv,BT.ny,BT.lE] at e3
 ·obtain ⟨c,e3⟩:=dG e3;cases e3;cases r1.int;cases r2.int;refine FZ zt s σ H _ _ _ _ Q I rv ru ⟨_,_,rfl,rfl,?_,zr.here R (.int _)⟩;rcases So _ _ ▸ c with c|c
  exact .inl (qH c);exact .inr (qH c)
 ·obtain ⟨c,e3⟩:=dG e3;simp only[PZ,decide_eq_true_eq] at c;cases e3;obtain ⟨a,vs,rfl,ha,ra⟩:=r1.tup;cases r2.int;obtain ⟨t,rfl⟩:=ru;cases rv;have l1:=ra.length;have:=fP;simp only[Uq,List.isEmpty_eq_false_iff] at c;refine xG I ha (by lia) (by lia) (λz=>?_) (by rw[l1];lia) λp hp=>kP R hp (ra.rep _) zr;subst z;cases ra;exact c.1.2 rfl
 ·obtain ⟨c,e3⟩:=dG e3;simp only[PZ,decide_eq_true_eq] at c;cases e3;obtain ⟨a,vs,rfl,ha,ra⟩:=r1.lst;cases r2.int;obtain ⟨t,rfl⟩:=ru;cases rv;have l1:=ra.length;have:=fP;refine zT I ha (by lia) (by lia) (by rw[l1];lia) λp hp=>kQ R hp (ra.rep _) zr
end
mutual
noncomputable def pd:BT.D->PyData
 | .non=>.none| .bl b=>.bool b| .int i=>.int i| .str x=>.str x| .tup xs=>.tuple (pds xs)| .lst xs=>.list (pds xs)
noncomputable def pds:List BT.D->List PyData
 | []=>[]| x::r=>pd x::pds r
end
mutual
theorem nK:∀ x y:BT.D,PyData.eqv (pd x) (pd y)=BT.eqv x y
 | .non,.non=>rfl| .non,.bl _=>rfl| .non,.int _=>rfl| .non,.str _=>rfl
 | .non,.tup _=>by simp[pd,PyData.eqv,BT.eqv]
 | .non,.lst _=>by simp[pd,PyData.eqv,BT.eqv]
 | .bl _,.non=>rfl| .bl _,.bl _=>rfl| .bl _,.int _=>rfl| .bl _,.str _=>rfl
 | .bl _,.tup _=>by simp[pd,PyData.eqv,BT.eqv]
 | .bl _,.lst _=>by simp[pd,PyData.eqv,BT.eqv]
 | .int _,.non=>rfl| .int _,.bl _=>rfl| .int _,.int _=>rfl| .int _,.str _=>rfl
 | .int _,.tup _=>by simp[pd,PyData.eqv,BT.eqv]
 | .int _,.lst _=>by simp[pd,PyData.eqv,BT.eqv]
 | .str _,.non=>rfl| .str _,.bl _=>rfl| .str _,.int _=>rfl| .str _,.str _=>rfl
 | .str _,.tup _=>by simp[pd,PyData.eqv,BT.eqv]
 | .str _,.lst _=>by simp[pd,PyData.eqv,BT.eqv]
 | .tup _,.non=>by simp[pd,PyData.eqv,BT.eqv]
 | .tup _,.bl _=>by simp[pd,PyData.eqv,BT.eqv]
 | .tup _,.int _=>by simp[pd,PyData.eqv,BT.eqv]
 | .tup _,.str _=>by simp[pd,PyData.eqv,BT.eqv]
 | .tup xs,.tup ys=>by simp only[pd,PyData.eqv,BT.eqv];exact qI xs ys
 | .tup _,.lst _=>by simp[pd,PyData.eqv,BT.eqv]
 | .lst _,.non=>by simp[pd,PyData.eqv,BT.eqv]
 | .lst _,.bl _=>by simp[pd,PyData.eqv,BT.eqv]
 | .lst _,.int _=>by simp[pd,PyData.eqv,BT.eqv]
 | .lst _,.str _=>by simp[pd,PyData.eqv,BT.eqv]
 | .lst _,.tup _=>by simp[pd,PyData.eqv,BT.eqv]
 | .lst xs,.lst ys=>by simp only[pd,PyData.eqv,BT.eqv];exact qI xs ys
theorem qI:∀ xs ys:List BT.D,PyData.eqvAll (pds xs) (pds ys)=BT.oN xs ys
 | [],[]=>by simp[pds,PyData.eqvAll,BT.oN]
 | [],_::_=>by simp[pds,PyData.eqvAll,BT.oN]
 | _::_,[]=>by simp[pds,PyData.eqvAll,BT.oN]
 | x::xs,y::ys=>by simp only[pds,PyData.eqvAll,BT.oN];rw[nK x y,qI xs ys]
end
theorem jB:∀ {xs:List BT.D},(∀ x∈xs,(pd x).depth<=n)->PyData.depthAll (pds xs)<=n
 | [],_=>by simp[pds,PyData.depthAll]
 | x::xs,h=>by simp only[pds,PyData.depthAll];exact Nat.max_le.mpr ⟨h x Qn,jB λy hy=>h y (Qe _ hy)⟩
theorem jT:∀ (n:Nat) (d:BT.D),BT.dok n d=ah->(pd d).depth<=n
 | n,.non,_=>by simp[pd,PyData.depth]
 | n,.bl _,_=>by simp[pd,PyData.depth]
 | n,.int _,_=>by simp[pd,PyData.depth]
 | n,.str _,_=>by simp[pd,PyData.depth]
 | 0,.tup _,h=>by simp[BT.dok] at h
 | 0,.lst _,h=>by simp[BT.dok] at h
 | n+1,.tup xs,h=>by simp only[pd,PyData.depth];rw[BT.vv,RG] at h;exact Nat.succ_le_succ (jB λx hx=>jT n x (h x hx))
 | n+1,.lst xs,h=>by simp only[pd,PyData.depth];rw[BT.qo,RG] at h;exact Nat.succ_le_succ (jB λx hx=>jT n x (h x hx))
section
variable {K:PP}
mutual
theorem gM:∀ {v:V}{d:BT.D},RD K m H v d->(pd d).canLay0=ah
 | _,_,.non=>rfl| _,_,.bl _=>rfl| _,_,.int _=>rfl
 | _,_,.str _ h=>by simpa [pd,PyData.canLay0] using h
 | _,_,.tup _ r=>by simp only[pd,PyData.canLay0];exact iY r
 | _,_,.lst _ r=>by simp only[pd,PyData.canLay0];exact iY r
theorem iY:∀ {vs:List V}{ds:List BT.D},RDs K m H vs ds->PyData.canLayAll0 (pds ds)=ah
 | _,_,.nil=>by simp[pds,PyData.canLayAll0]
 | _,_,.cons r t=>by simp only[pds,PyData.canLayAll0];rw[gM r,iY t];rfl
end
mutual
theorem jC (I:Inv X zt σ H s):∀ {v:V}{d:BT.D}{u:aC},RD X.K m H v d->RelV v u->∃ as,Reads s.heap u (pd d) as
 | _,_,_,.non,r=>by cases r;exact ⟨_,.none⟩
 | _,_,_,.bl b,r=>by cases r;exact ⟨_,.bool b⟩
 | _,_,_,.int i,r=>by obtain ⟨t,rfl⟩:=r;exact ⟨_,.int i t⟩
 | _,_,_,.str x _,r=>by obtain ⟨t,rfl⟩:=r;exact ⟨_,.str x t⟩
 | _,_,_,.tup h r,q=>by cases q;obtain ⟨its,r1,⟨o,e1,e2,n,e3⟩,_⟩:=I.tuple (h.elim (λq=>.inl q.1) (λ⟨o,its,n,q,_⟩=>.inr ⟨o,its,n,q⟩));obtain ⟨as,ra⟩:=jU I r r1;exact ⟨_,.tuple e1 e2 e3 (by simpa using ra)⟩
 | _,_,_,.lst h r,q=>by cases q;obtain ⟨z,its,n,r1,_,e⟩:=rdL I (h.elim (λq=>.inl q.1) .inr);obtain ⟨as,ra⟩:=jU I r r1;exact ⟨_,.list e rfl rfl (by simpa using ra)⟩
theorem jU (I:Inv X zt σ H s):∀ {vs:List V}{ds:List BT.D}{us:List aC},RDs X.K m H vs ds->dw vs us->∃ as,ReadsAll s.heap us (pds ds) as
 | _,_,_,.nil,q=>by cases q;exact ⟨_,.nil⟩
 | _,_,_,.cons r t,q=>by
  cases q with
  | cons q1 q2 =>
   obtain ⟨as,ra⟩:=jC I r q1;obtain ⟨bs,rb⟩:=jU I t q2;exact ⟨_,.cons ra rb⟩
end
theorem jD (I:Inv X zt σ H s) (r:RR X.K m H v d) (q:RelV v u):∃ as,Reads s.heap u (pd d) as:=by
 cases r with
 | d r=>exact jC I r q
 | l h r =>
  cases q;obtain ⟨z,its,n,r1,_,e⟩:=rdL I (.inl (.inl h));obtain ⟨as,ra⟩:=jU I r r1;exact ⟨_,.list e rfl rfl (by simpa using ra)⟩
theorem iP (r:RR K m H v d):(pd d).canLay0=ah:=by
 cases r with
 | d r=>exact gM r| l h r=>simp only[pd,PyData.canLay0];exact iY r
theorem qJ (h:BT.eU x y=ah):min (pd x).depth (pd y).depth<=100:=by
 unfold BT.eU at h;rcases So _ _ ▸ h with h|h
 have:=jT 100 x h;lia;have:=jT 100 y h;lia
theorem jV (e:BT.kL o x y h=aa (z,h')) :
 (∃ kvs b,y=.k kvs/\BT.inK o x kvs=aa b/\z=.p (.bl b)/\h'=h)\/∃ d d' b,BT.rd x h=aa d/\BT.rd y h=aa d'/\BT.fN o d d'=aa b/\z=.p (.bl b)/\h'=h:=by
 unfold BT.kL at e;split at e
 ·rename_i kvs;obtain ⟨b,e1,e2⟩:=dH e;cases e2;exact .inl ⟨kvs,b,rfl,e1,rfl,rfl⟩
 ·refine .inr ?_;cases e1:BT.rd x h with
  | none=>rw[e1] at e;exact cW e
  | some d =>
   cases e2:BT.rd y h with
   | none=>rw[e1,e2] at e;exact cW e
   | some d' =>
    rw[e1,e2] at e;obtain ⟨q,eq,er⟩:=dH e;cases er;exact ⟨d,d',q,rfl,rfl,eq,rfl,rfl⟩
theorem Ld (hu:X.A.units+150 < cLine):OpR X (QZ .Eq) (rOp X.prog X.w X.K (BT.kL .eq)):=by
 intro zt s σ H v u v' u' Q I rv ru h;obtain ⟨m,h,x,y,z,h',R,rx,ry,e,zr⟩:=h;rcases jV e with ⟨kvs,b,rfl,e1,_,_⟩|⟨d,d',b,e1,e2,e3,rfl,rfl⟩
 exact absurd e1 (BT.nB rfl)
 ·have r1:=d9 R rx e1;have r2:=d9 R ry e2;rw[BT.qt] at e3;obtain ⟨c,e3⟩:=dG e3;cases e3;obtain ⟨as,ra⟩:=jD I r1 rv;obtain ⟨bs,rb⟩:=jD I r2 ru;have:=qJ c;refine SeqAt.compareEq_reads ra rb (iP r1) (iP r2) (by lia) ?_;rw[nK];exact ⟨.bl _,H,I,rfl,zr.here R (.bl _)⟩
theorem Lf (hu:X.A.units+150 < cLine):OpR X (QZ .NotEq) (rOp X.prog X.w X.K (BT.kL .ne)):=by
 intro zt s σ H v u v' u' Q I rv ru h;obtain ⟨m,h,x,y,z,h',R,rx,ry,e,zr⟩:=h;rcases jV e with ⟨kvs,b,rfl,e1,_,_⟩|⟨d,d',b,e1,e2,e3,rfl,rfl⟩
 exact absurd e1 (BT.nB rfl)
 ·have r1:=d9 R rx e1;have r2:=d9 R ry e2;rw[BT.g7] at e3;obtain ⟨c,e3⟩:=dG e3;cases e3;obtain ⟨as,ra⟩:=jD I r1 rv;obtain ⟨bs,rb⟩:=jD I r2 ru;have:=qJ c;refine SeqAt.compareNe_reads ra rb (iP r1) (iP r2) (by lia) ?_;rw[nK];exact ⟨.bl _,H,I,rfl,zr.here R (.bl _)⟩
noncomputable def Lg:BT.Cm->Bool
 | .lt=>ah| .le=>ah| .gt=>ah| .ge=>ah| _=>ai
theorem C8 {o:BT.Cm}{d d':BT.D}{b:Bool} (ho:Lg o=ah) (e:BT.fN o d d'=aa b):∃ i j,d=.int i/\d'=.int j:=by cases o<;>first|exact BT.eW ho|(cases d<;>first|exact cW e|(cases d'<;>first|exact cW e|exact ⟨_,_,rfl,rfl⟩))
theorem qK {o:BT.Cm}{c:CmpOp}{f:Int->Int->Bool} (op:OpR X (QZ c) (rI0 λi j=>.bl (f i j))) (ho:Lg o=ah) (hm:BT.memC o=ai) (hf:∀ i j,BT.fN o (.int i) (.int j)=aa (f i j)):OpR X (QZ c) (rOp X.prog X.w X.K (BT.kL o)):=by
 intro zt s σ H v u v' u' Q I rv ru h;obtain ⟨m,h,x,y,z,h',R,rx,ry,e,zr⟩:=h;rcases jV e with ⟨kvs,b,rfl,e1,_,_⟩|⟨d,d',b,e1,e2,e3,rfl,rfl⟩
 exact absurd e1 (BT.nB hm)
 ·obtain ⟨i,j,rfl,rfl⟩:=C8 ho e3;rw[hf] at e3;cases e3;cases (d9 R rx e1).int;cases (d9 R ry e2).int;exact op zt s σ H _ _ _ _ Q I rv ru ⟨_,_,rfl,rfl,zr.here R (.bl _)⟩
theorem vG (r:RR K m H v d):decide (v=.non)=BT.ju d:=by
 cases r with
 | d r=>cases r<;>rfl| l h r=>rfl
theorem C9 {v:V}{d:BT.D}{u:aC}{b:Bool} (r:RR K m H v d) (rv:RelV v u):isSame u (.bool b)=pure (BT.qp b d):=by
 cases r with
 | d r=>cases r<;>first|(cases rv;cases b<;>first|rfl|(rename_i c;cases c<;>rfl))|(obtain ⟨t,rfl⟩:=rv;cases b<;>rfl)
 | l h r=>cases rv;rfl
theorem GR:OpR X (QZ .Is) (rOp X.prog X.w X.K (BT.kL .isN)):=by
 intro zt s σ H v u v' u' Q I rv ru h;obtain ⟨m,h,x,y,z,h',R,rx,ry,e,zr⟩:=h;rcases jV e with ⟨kvs,b,rfl,e1,_,_⟩|⟨d,d',b,e1,e2,e3,rfl,rfl⟩
 exact absurd e1 (BT.nB rfl)
 ·have r1:=d9 R rx e1;have r2:=d9 R ry e2;cases d'<;>first|exact cW e3|simp only[BT.qu,BT.qv,BT.qw,BT.qx,BT.nA,BT.lF,BT.iX,BT.kh] at e3
  cases e3;cases r2.non;refine F2 zt s σ H _ _ _ _ Q I rv ru ⟨rfl,?_⟩;rw[vG r1];exact zr.here R (.bl _)
theorem Dc:OpR X (QZ .IsNot) (rOp X.prog X.w X.K (BT.kL .notN)):=by
 intro zt s σ H v u v' u' Q I rv ru h;obtain ⟨m,h,x,y,z,h',R,rx,ry,e,zr⟩:=h;rcases jV e with ⟨kvs,b,rfl,e1,_,_⟩|⟨d,d',b,e1,e2,e3,rfl,rfl⟩
 exact absurd e1 (BT.nB rfl)
 ·have r1:=d9 R rx e1;have r2:=d9 R ry e2;cases d'<;>first|exact cW e3|simp only[BT.qu,BT.qv,BT.qw,BT.qx,BT.nA,BT.lF,BT.xB,BT.iX,BT.kh] at e3
  ·cases e3;cases r2.non;refine Cn zt s σ H _ _ _ _ Q I rv ru ⟨rfl,?_⟩;rw[vG r1];exact zr.here R (.bl _)
  ·cases e3;cases r2.bl;cases ru;exact PR (wpAny_of_eq (C9 r1 rv) (az ⟨.bl _,H,I,rfl,zr.here R (.bl _)⟩))
open Classical in
noncomputable def jm (h:ay) (dx:PyData) (y:aC):Bool:=if q:∃ db as,Reads h y db as/\db.canLay0=ah then PyData.eqv (Classical.choose q) dx else ai
theorem uB (r:Reads h y db as) (c:db.canLay0=ah):jm h dx y=PyData.eqv db dx:=by have q:∃ db as,Reads h y db as/\db.canLay0=ah:=⟨db,as,r,c⟩;unfold jm;rw[dif_pos q];obtain ⟨as',r',c'⟩:=Classical.choose_spec q;rw[SeqAt.Reads.unique _ _ _ _ _ c r r']
theorem qL (I:Inv X zt σ H s):∀ {vs:List V}{ds:List BT.D}{us:List aC},RDs X.K m H vs ds->dw vs us->us.any (jm s.heap (pd d))=ds.any λy=>BT.eqv y d
 | _,_,_,.nil,q=>by cases q;rfl
 | _,_,_,.cons r t,q=>by
  cases q with
  | cons q1 q2 =>
   obtain ⟨as,ra⟩:=jC I r q1;rw[List.any_cons,List.any_cons,qL I t q2,uB ra (gM r),nK]
theorem mJ (hu:X.A.units+150 < cLine) (I:Inv X zt σ H s) (rx:RR X.K m H v d) (rv:RelV v u):∀ {vs:List V}{ds:List BT.D}{us:List aC},RDs X.K m H vs ds->dw vs us->(ds.all λy=>BT.eU y d)=ah →
 ∀ y∈us,SeqAt.EqAt X.A.in1 s y u (jm s.heap (pd d) y)
 | _,_,_,.nil,q,_=>by cases q;intro y hy;simp at hy
 | _,_,_,.cons r t,q,c=>by
  cases q with
  | cons q1 q2 =>
   rw[List.all_cons,PZ] at c;intro y hy;rcases List.mem_cons.mp hy with rfl|hy
   ·obtain ⟨as,ra⟩:=jC I r q1;obtain ⟨bs,rb⟩:=jD I rx rv;rw[uB ra (gM r)];have:=qJ c.1;refine SeqAt.eqAt_reads _ _ _ _ _ _ _ _ ra rb (gM r) (iP rx) ?_;show X.A.units+1+_ < _;lia
   exact mJ hu I rx rv t q2 c.2 y hy
theorem GS (hu:X.A.units+150 < cLine) (hk:∀ {kvs:BT.Kd}{x:BT.W}{b:Bool}{m:List P4}{H:Hp}{v u:V}{v' u':aC}{zt σ s Q},Inv X zt σ H s->RelV v v'->RelV u u'->RW X.prog X.w X.K m H v x->RW X.prog X.w X.K m H u (.k kvs)->BT.inK .mem x kvs=aa b->Q (V.bl b) H →
 aA (Qq X.prog X.w) X.A (QZ .In v' u') (EP X zt σ Q) X.xe s):OpR X (QZ .In) (rOp X.prog X.w X.K (BT.kL .mem)):=by
 intro zt s σ H v u v' u' Q I rv ru h;obtain ⟨m,h,x,y,z,h',R,rx,ry,e,zr⟩:=h;rcases jV e with ⟨kvs,b,rfl,e1,rfl,rfl⟩|⟨d,d',b,e1,e2,e3,rfl,rfl⟩
 exact hk I rv ru rx ry e1 (zr.here R (.bl _))
 ·have r1:=d9 R rx e1;have r2:=d9 R ry e2;cases d'<;>first|exact cW e3|simp only[BT.qu,BT.qv,BT.qw,BT.qx,BT.nA,BT.lF,BT.iX,BT.kh] at e3
  ·obtain ⟨c,e3⟩:=dG e3;cases e3;obtain ⟨a,vs,rfl,ha,ra⟩:=r2.tup;cases ru;obtain ⟨its,q1,q2,_⟩:=I.tuple ha;refine SeqAt.in_tupleAt (jm s.heap (pd d)) q2 (λy hy=>mJ hu I r1 rv ra q1 c y (by simpa using hy)) ⟨.bl _,H,I,rfl,?_⟩;rw[show its.toArray.any (jm s.heap (pd d))=its.any (jm s.heap (pd d)) by simp,qL I ra q1];exact zr.here R (.bl _)
  ·obtain ⟨c,e3⟩:=dG e3;cases e3;obtain ⟨a,vs,rfl,ha,ra⟩:=r2.lst;cases ru;obtain ⟨z,its,n,q1,_,q2⟩:=rdL I ha;refine SeqAt.in_listAt (jm s.heap (pd d)) ⟨_,q2,rfl,_,rfl⟩ (λy hy=>mJ hu I r1 rv ra q1 c y (by simpa using hy)) ⟨.bl _,H,I,rfl,?_⟩;rw[show its.toArray.any (jm s.heap (pd d))=its.any (jm s.heap (pd d)) by simp,qL I ra q1];exact zr.here R (.bl _)
end
section
variable {P:Qg}{w:QA}{K:PP}{m m':List P4}{H H':Hp}
theorem xH (e:p.1=k):BT.fM (p::r) k=aa p.2:=by simp[BT.fM,Sn,e]
theorem xJ (e:¬ p.1=k):BT.fM (p::r) k=BT.fM r k:=by simp[BT.fM,Sn,e]
theorem RKs.get (r:RKs K m H vs kvs) (k:Key):(BT.fM kvs k=af/\r8 vs k=af)\/∃ v d,BT.fM kvs k=aa d/\r8 vs k=aa v/\RD K m H v d:=by
 induction r with
 | nil=>exact .inl ⟨rfl,rfl⟩
 | @cons j v d vs kvs hk r t ih =>
  by_cases c:j=k
  exact .inr ⟨v,d,xH c,r9 c,r⟩;rw[xJ (p:=(j,d)) c,sf (p:=(j,v)) c];exact ih
theorem zU (r:RD K m H v d) (e:BT.oQ d=aa k):v=kV k:=by cases r<;>cases e<;>rfl
inductive zV (X:Cx) (m:List P4) (H:Hp) (s:PX) (a:P4) (kvs:List (BT.Ky×BT.D)) (k:Key):Prop where
 | no (vs:List (Key×aC)) (d:s.heap.DictOf (dM X.prog X.w) a vs) (n:(a==SH)=ai) (e1:BT.fM kvs k=af) (e2:valueAt vs k=af):zV X m H s a kvs k
 | is (vs:List (Key×aC)) (d:s.heap.DictOf (dM X.prog X.w) a vs) (n:(a==SH)=ai) (x:BT.D) (v:V) (u:aC) (e1:BT.fM kvs k=aa x) (e2:valueAt vs k=aa u) (r:RelV v u) (q:RD X.K m H v x):zV X m H s a kvs k
theorem uC (I:Inv X zt σ H s) (h:Rd H a (.dK ws)) (rk:RKs X.K m H ws kvs) (k:Key):zV X m H s a kvs k:=by
 obtain ⟨z,hd,vs,rel,dd⟩:=J3 I.hok h;have rv:=rel.val k;rcases rk.get k with ⟨g1,g2⟩|⟨v,d,g1,g2,g3⟩
 ·rw[g2] at rv;cases e:valueAt vs k with
  | none=>exact .no vs dd hd g1 e| some u=>rw[e] at rv;exact rv.elim
 ·rw[g2] at rv;cases e:valueAt vs k with
  | none=>rw[e] at rv;exact rv.elim| some u=>rw[e] at rv;exact .is vs dd hd d v u g1 e rv g3
end
section
variable {prog:Qg}{w:QA}{A:QO}{E:aC->PX->Prop}{s:PX}
theorem xK {Q:Int->PX->Prop} (h:Q 4238894112 { s with toks:=s.toks+1 }):aA (Qq prog w) A (pyHash .none) Q E s:=by show aA _ _ (pyHashByItsType .none) _ _ _;refine PySem.W.pyHash_slot (T:="NoneType") (typeIs_none s) PySem.F.slot_NoneType_hash PySem.F.entry_NoneType_hash (PySem.F.args_NoneType_hash_1 _) (by decide) (.inl rfl) ?_;show aA _ _ (slotArgs "__hash__" 0 ⟨[RE],[]⟩ >>= λ_=>retInt 4238894112) _ _ _;rw[slotArgs.eq_1];refine PR (az ?_);unfold retInt;refine PR (wpAny_mkInt ?_);exact az ⟨_,_,rfl,h⟩
end
noncomputable def zW:Option Key->aC->Bool
 | none,.none=>ah| none,_=>ai| some k,v=>jk k v
theorem iZ {v:aC} (h:zW af v=ah):v=.none:=by cases v<;>first|rfl|(exfalso;exact QM h)
theorem zX (a b:Key):decide (aa a=aa b)=decide (a=b):=by simp
noncomputable def optKind (prog:Qg) (w:QA):PySem.KeyKind prog w (Option Key) where
 is:=zW
 hash:=λk=>match k with|none=>4238894112|some k=>Ju w k
 inj:=λv a b ha hb=>by
  cases a with
  | none =>
   cases iZ ha;cases b with
   | none=>rfl
   | some b=>rcases dJ (show jk b .none=ah from hb) with ⟨i,t,rfl,e⟩|⟨x,t,rfl,e⟩<;>exact nomatch e
  | some a =>
   cases b with
   | none =>
    cases iZ hb;rcases dJ (show jk a .none=ah from ha) with ⟨i,t,rfl,e⟩|⟨x,t,rfl,e⟩<;>exact nomatch e
   | some b=>rw[(dM prog w).inj v a b ha hb]
 byValue:=λk v h=>by
  cases k with
  | none=>cases iZ h;rfl| some k=>exact (dM prog w).byValue k v h
 pyHash:=λ{A E s k v Q} hv h=>by
  cases k with
  | none=>cases iZ hv;exact xK h| some k=>exact (dM prog w).pyHash (k:=k) hv h
 eqBool:=λ{A E s a b u v Q} hu hv h=>by
  cases a with
  | none =>
   cases iZ hu;cases b with
   | none=>cases iZ hv;exact SeqAt.EqAt.same _ _ _ _ _ (by simpa using h)
   | some b =>
    have h:Q ai s:=by simpa using h
    rcases dJ (show jk b v=ah from hv) with ⟨i,t,rfl,rfl⟩|⟨x,t,rfl,rfl⟩
    exact SeqAt.EqAt.none_int i t _ _ _ _ h;exact SeqAt.EqAt.none_str x t _ _ _ _ h
  | some a =>
   cases b with
   | none =>
    cases iZ hv;have h:Q ai s:=by simpa using h
    rcases dJ (show jk a u=ah from hu) with ⟨i,t,rfl,rfl⟩|⟨x,t,rfl,rfl⟩
    exact SeqAt.EqAt.int_none i t _ _ _ _ h;exact SeqAt.EqAt.str_none x t _ _ _ _ h
   | some b=>rw[zX] at h;exact (dM prog w).eqBool (a:=a) (b:=b) hu hv h
 «strs»:=λk x t v h=>by
  cases k with
  | none=>exact nomatch iZ h
  | some k=>exact (dM prog w).strs k x t v h
theorem map_none {prog:Qg}{w:QA}{h:ay}{a:P4}{vs:List (Key×aC)} (dd:h.DictOf (dM prog w) a vs):∃ f,h.MapOf (optKind prog w) a f/\f af=af:=by
 obtain ⟨o,es,ep,ho,hx,hd,hk,_⟩:=dd;refine ⟨λk=>findBy zW es k,⟨o,es,ep,ho,hx,hd,λe he=>?_,λk=>rfl⟩,?_⟩
 ·obtain ⟨k,h1,h2⟩:=hk e he;exact ⟨aa k,h1,h2⟩
 ·show (Array.find? (λe=>zW af e.key) es).map (·.val)=af;have:Array.find? (λe=>zW af e.key) es=af:=by rw[Array.find?_eq_none];intro e he q;obtain ⟨k,h1,_⟩:=hk e he;rw[iZ q] at h1;rcases dJ (show jk k .none=ah from h1) with ⟨i,t,rfl,e⟩|⟨x,t,rfl,e⟩<;>exact nomatch e
  rw[this];rfl
section
theorem RDs.atI {K:PP} (r:RDs K m H vs ds) (e:BT.atP ds i=aa d):∃ v,L2.atI vs i=aa v/\RD K m H v d:=by unfold BT.atP at e;unfold L2.atI;obtain ⟨j,h1,h2⟩:=Option.bind_eq_some_iff.mp e;obtain ⟨v,q1,q2⟩:=r.get h2;refine ⟨v,?_,q2⟩;rw[r.length];show ((BT.place ds.length i).bind λj=>vs[j]?)=aa v;rw[h1];exact q1
theorem Dd {x y:BT.W}{h:BT.HH}{z:BT.W}{h':BT.HH} (e:BT.CU x y h=aa (z,h')) :
 (∃ kvs k d,x=.k (.t kvs)/\y=.p (.str k)/\BT.fG k kvs=aa d/\z=.p d/\h'=h)\/(∃ kvs e k d,x=.k (.l kvs)/\y=.p e/\BT.oQ e=aa k/\BT.fM kvs k=aa d/\z=.p d/\h'=h)\/∃ d d' b,BT.rd x h=aa d/\BT.rd y h=aa d'/\BT.dN d d'=aa b/\z=.p b/\h'=h:=by
 unfold BT.CU at e;split at e
 ·rename_i kvs;obtain ⟨b,e1,e2⟩:=dH e;cases e2;cases kvs with
  | t kvs =>
   cases y with
   | p d =>
    cases d with
    | str x=>exact .inl ⟨kvs,_,b,rfl,rfl,e1,rfl,rfl⟩| _=>exact cW e1
   | _=>exact cW e1
  | l kvs =>
   cases y with
   | p d =>
    obtain ⟨k,g1,g2⟩:=Option.bind_eq_some_iff.mp (show (BT.oQ d).bind (BT.fM kvs)=aa b from e1);exact .inr (.inl ⟨kvs,d,k,b,rfl,rfl,g1,g2,rfl,rfl⟩)
   | _=>exact cW e1
 ·refine .inr (.inr ?_);cases e1:BT.rd x h with
  | none=>rw[e1] at e;exact cW e
  | some d =>
   cases e2:BT.rd y h with
   | none=>rw[e1,e2] at e;exact cW e
   | some d' =>
    rw[e1,e2] at e;obtain ⟨q,eq,er⟩:=dH e;cases er;exact ⟨d,d',q,rfl,rfl,eq,rfl,rfl⟩
theorem zY {K:PP}:∀ {es:List (aB×V)}{kvs:List (aB×BT.D)}{vs:List (Key×aC)},RDk K es kvs->KV (es.map λq=>((Sum.inr q.1:Key),q.2)) vs->BT.fG k kvs=aa d →
 ∃ u v,valueAt vs (Sum.inr k)=aa u/\RelV v u/\∀ m H,RD K m H v d
 | _,_,_,.nil,_,e=>by simp[BT.fG] at e
 | _,_,_,@RDk.cons _ x v dd es kvs r t,q,e=>by
  cases q with
  | @cons p z l1 l2 q1 q2 =>
   obtain ⟨z1,z2⟩:=z;obtain ⟨q11,q12⟩:=q1;simp only at q11 q12;subst q11;rw[BT.fG] at e
   by_cases c:k=x
   ·rw[if_pos c] at e;cases e;subst c;exact ⟨z2,v,by simp[valueAt],q12,r⟩
   ·rw[if_neg c] at e;obtain ⟨u,v',h1,h2,h3⟩:=zY t q2 e;refine ⟨u,v',?_,h2,h3⟩;have ne:¬ ((Sum.inr x:Key)=Sum.inr k):=λz=>c (Sum.inr.inj z).symm;simp only[valueAt] at h1 ⊢;rw[Tv (by simpa using ne)];exact h1
theorem xM (h:PyData.strOk x=ah) (hc:c∈x.cps.toList):PyData.strOk ⟨#[c]⟩=ah:=by simp only[PyData.strOk,Array.all_eq_true_iff_forall_mem] at h ⊢;intro y hy;simp at hy;subst hy;exact h y (by simpa using hc)
theorem GT:IxR X (rOp X.prog X.w X.K BT.CU):=by
 intro value slice zt s σ H v u v' u' Q I rv ru h hs;obtain ⟨m,h,x,y,z,h',R,rx,ry,e,zr⟩:=h;rcases Dd e with ⟨kvs,k,d,rfl,rfl,e1,rfl,rfl⟩|⟨kvs,e',k,d,rfl,rfl,e0,e1,rfl,rfl⟩|⟨d,d',b,e1,e2,e3,rfl,rfl⟩
 ·cases rx with
  | @k a es _ kd rk =>
   cases rv;cases ry with
   | p ry =>
    cases ry with
    | str _ ok =>
     obtain ⟨t,rfl⟩:=ru;obtain ⟨hm,vs,kv,dd⟩:=kd;obtain ⟨w',z,h1,h2,h3⟩:=zY rk kv e1;have D:=dd s.heap I.kIn;refine VU (ops:=[.ref a,.str k t]) D.typeIs slot_dict_getitem.lookup ?_ hs;exact wpAny_getItem_of (knd:=dM X.prog X.w) (jn _ _ k t) D.mapOf h1 ⟨z,H,I.tok _,h2,zr.here R (h3 _ _)⟩
 ·cases rx with
  | @kl a ob ws _ hh rk =>
   cases rv;cases ry with
   | p ry =>
    have ek:=zU ry e0;subst ek;cases uC I (.inr ⟨_,hh.1⟩) rk k with
    | no _ _ _ g1 _=>rw[g1] at e1;exact cW e1
    | is vs dd n x v1 u1 g1 g2 g3 g4 =>
     rw[g1] at e1;cases e1;refine VU (ops:=[.ref a,u']) dd.typeIs slot_dict_getitem.lookup ?_ hs;exact wpAny_getItem_of (knd:=dM X.prog X.w) (ze ru) dd.mapOf g2 ⟨v1,H,I.tok _,g3,zr.here R g4⟩
 ·have r1:=d9 R rx e1;have r2:=d9 R ry e2;cases d<;>cases d'<;>first|exact cW e3|simp only[BT.gw,BT.dI,BT.jw] at e3
  ·split at e3
   ·rename_i c;obtain ⟨cc,e4,e5⟩:=dH e3;subst e5;obtain ⟨rfl,ok⟩:=r1.str;cases r2.int;have:=fP;refine Ga value slice zt s σ H _ _ _ _ Q I rv ru ⟨_,_,cc,rfl,rfl,by lia,e4,zr.here R (.str _ (xM ok ?_))⟩ hs;obtain ⟨j,h1,h2⟩:=Option.bind_eq_some_iff.mp e4;exact P8 h2
   exact cW e3
  ·obtain ⟨a,vs,rfl,ha,ra⟩:=r1.tup;cases r2.int;obtain ⟨z,q1,q2⟩:=ra.atI e3;exact F9 value slice zt s σ H _ _ _ _ Q I rv ru ⟨a,vs,_,z,rfl,rfl,ha,q1,zr.here R q2⟩ hs
  ·obtain ⟨a,vs,rfl,ha,ra⟩:=r1.lst;cases r2.int;obtain ⟨z,q1,q2⟩:=ra.atI e3;exact vp value slice zt s σ H _ _ _ _ Q I rv ru ⟨a,vs,_,z,rfl,rfl,ha.sq,q1,zr.here R q2⟩ hs
theorem kR (n d:Nat) (o:Option Int):BT.clip n d o=HT.sIx n d o:=by
 cases o with
 | none=>rfl
 | some v =>
  simp only[BT.clip,HT.sIx];split;rfl
  ·split;lia;lia
theorem oV {E:aC->PX->Prop}{lo:Option Int} (ht:IsTup s.heap t items) (hs:s.heap.IsSliceOf sl vl vu .none) (pl:U7 vl lo) (pu:U7 vu hi)
 (hw:HT.sIx items.size 0 lo=0/\HT.sIx items.size items.size hi=items.size) (h:Q (.ref t) s):aA (Qq prog w) A (UQ (.ref t) (.ref sl)) Q E s:=by
 obtain ⟨os,hos,hcs,hds⟩:=id hs;have hTs:s.TypeIs (.ref sl) "slice":=⟨os,hos,hcs⟩;unfold UQ
 try with_reducible refine Ru ?_
 first|refine PR (az ?_)|skip
 refine PR (wpAny_sequenceKey ht.typeIs (by decide) ?_);refine PR (QY (name:=Qd "__getitem__") ht.typeIs Rk
  (RL Rk ht.typeIs entry_tuple_getitem ?_ (args_tuple_getitem _ _)))
 show aA _ _ (T6 (.ref t) >>= _) _ _ s;refine PR (tupleItemsOf_ ht ?_);refine PR (UX hTs ?_);rw[if_pos (by decide)];refine PR (HT.iM hs pl pu ?_);have hno:(((HT.sIx items.size 0 lo:Nat):Int)==0&&(1:Int)==1&&(HT.sIx items.size items.size hi - HT.sIx items.size 0 lo)==items.size)=ah:=by rw[hw.1,hw.2];simp
 show aA _ _ (if (((HT.sIx items.size 0 lo:Nat):Int)==0&&(1:Int)==1&&(HT.sIx items.size items.size hi - HT.sIx items.size 0 lo)==items.size)=ah then _ else _) _ _ s;rw[if_pos hno];unfold Builtin.Tuple.tupleIsExact;refine PR (PR (UX ht.typeIs (az ?_)));rw[if_pos (by decide)];refine PR (VJ ?_)
 first
  | exact az ⟨_,rfl,az h⟩
  | exact az ⟨_,rfl,h⟩
  | exact PR (az (az ⟨_,rfl,az h⟩))
inductive rSl (P:Qg) (w:QA) (K:PP) (v:V) (lo hi:Option Int) (H:Hp) (Q:VK):Prop where
 | mk (m:List P4) (h:BT.HH) (x:BT.W) (d b:BT.D) (R:RH K m H h) (rx:RW P w K m H v x) (e:BT.rd x h=aa d) (e2:BT.qm d lo hi=aa b) (p:Post P w K m H (.p b) h Q):rSl P w K v lo hi H Q
theorem RDs.cut {K:PP} (r:RDs K m H vs ds) (lo hi:Option Int):RDs K m H (rY vs lo hi) (BT.cut ds lo hi):=by unfold rY BT.cut;rw[kR,kR,r.length];exact (r.drop _).take _
theorem xN {lo:Option Int} (h1:HT.sIx ds.length 0 lo=0) (h2:HT.sIx ds.length ds.length hi=ds.length):BT.cut ds lo hi=ds:=by unfold BT.cut;rw[kR,kR,h1,h2];simp
theorem osl:SlR X (rSl X.prog X.w X.K):=by
 intro zt s σ H v v' vl vu lo hi sl Q I rv hs pl pu h;obtain ⟨m,h,x,d,b,R,rx,e1,e2,zr⟩:=h;have r1:=d9 R rx e1;cases d<;>simp only[BT.qm] at e2<;>try contradiction
 ·cases e2;obtain ⟨a,vs,rfl,ha,ra⟩:=r1.tup;cases rv
  by_cases c:HT.sIx vs.length 0 lo=0/\HT.sIx vs.length vs.length hi=vs.length
  ·obtain ⟨its,q1,q2,_⟩:=I.tuple ha;have hl:its.toArray.size=vs.length:=by rw[PY];exact q1.length.symm
   refine ⟨"tuple",_,PyProof.Rows.slot_tuple_getitem.lookup,q2.typeIs,oV q2 hs pl pu (by rw[hl];exact c) ⟨.ref a,H,I,rfl,?_⟩⟩;cases r1 with
   | d r =>
    refine zr.here R ?_;rw[xN (by rw[← ra.length];exact c.1) (by rw[← ra.length];exact c.2)];exact r
  exact F8 zt s σ H (.ref a) (.ref a) vl vu lo hi sl Q I rfl hs pl pu ⟨a,vs,rfl,ha,c,λp hp=>kP R hp (ra.cut lo hi) zr⟩
 ·cases e2;obtain ⟨a,vs,rfl,ha,ra⟩:=r1.lst;exact CD zt s σ H _ _ vl vu lo hi sl Q I rv hs pl pu ⟨a,vs,rfl,ha.sq,λp hp=>kQ R hp (ra.cut lo hi) zr⟩
end
theorem vH (m:BT.Me) (d:BT.D) (as:List BT.W) (h:BT.HH):BT.meW m (.p d) as h=(match BT.dP as with|some ds=>(BT.meD m d ds).map λx=>(.p x,h)|none=>af):=by cases m<;>rfl
section
inductive rMe (P:Qg) (w:QA) (K:PP) (me:BT.Me) (v:V) (vs:List V) (H:Hp) (Q:VK):Prop where
 | mk (m:List P4) (h:BT.HH) (x:BT.W) (ws:List BT.W) (z:BT.W) (h':BT.HH) (R:RH K m H h) (rx:RW P w K m H v x) (rs:RWs P w K m H vs ws) (e:BT.meW me x ws h=aa (z,h')) (p:Post P w K m H z h' Q):rMe P w K me v vs H Q
theorem getD_some {α:Type}{xs:List α}{n:Nat}{a:α} (h:xs[n]?=aa a):n < xs.length:=by
 rcases Qs n xs.length with z|z
 exact z;rw[Qc z] at h;exact cW h
theorem xO:MtR X "list.append" (rMe X.prog X.w X.K .append):=by
 intro zt s σ H v vs v' us Q I rv rus h;obtain ⟨m,h,x,ws,z,h',R,rx,rws,e,zr⟩:=h;cases x with
 | p d=>cases ws with
  | nil=>exact cW e| cons _ _=>rw[vH] at e;split at e<;>(try exact cW e)
 | r n =>
  cases rws with
  | nil=>(first|exact cW e|simp[BT.meW] at e)
  | @cons y wy _ _ ry t =>
   cases t with
   | cons _ _=>cases ry<;>(first|exact cW e|simp[BT.meW] at e)
   | nil =>
    cases ry with
    | p ry =>
     rw[BT.j9] at e;cases g:BT.lat h n with
     | none=>rw[g] at e;exact cW e
     | some xs =>
      rw[g] at e;simp only at e;obtain ⟨c,e⟩:=dG e;cases e;cases rx with
      | @r a _ hn =>
       obtain ⟨us',hH,r⟩:=R.cell n a xs hn g;have:=fP;have hl:=r.length;exact pI zt s σ H _ _ _ _ Q I rv rus ⟨a,us',y,rfl,rfl,hH,by lia,zr _ _ m (gS (P8 hn) hH) (R.set hn hH (r.append (.cons ry .nil))) (.p .non)⟩
    | _=>(first|exact cW e|simp[BT.meW] at e)
 | _=>(first|exact cW e|simp[BT.meW] at e)
theorem zZ {α:Type}{xs:List α}{d:α} (h:xs.getLast?=aa d):xs[xs.length - 1]?=aa d:=by rw[← List.getLast?_eq_getElem?];exact h
theorem GU:MtR X "list.pop" (rMe X.prog X.w X.K .pop):=by
 intro zt s σ H v vs v' us Q I rv rus h;obtain ⟨m,h,x,ws,z,h',R,rx,rws,e,zr⟩:=h;cases x with
 | p d=>cases ws with
  | nil=>exact cW e| cons _ _=>rw[vH] at e;split at e<;>(try exact cW e)
 | r n =>
  cases rws with
  | cons _ _=>(first|exact cW e|simp[BT.meW] at e)
  | nil =>
   rw[BT.CP] at e;cases g:BT.lat h n with
   | none=>rw[g] at e;exact cW e
   | some xs =>
    rw[g] at e;simp only at e;cases gl:xs.getLast? with
    | none=>rw[gl] at e;exact cW e
    | some d =>
     rw[gl] at e;cases e;cases rx with
     | @r a _ hn =>
      obtain ⟨us',hH,r⟩:=R.cell n a xs hn g;have hl:=r.length;obtain ⟨y,hy,ry⟩:=r.get (zZ gl);have x1:Ext m H m (upd H a (.lst us'.dropLast)):=gS (P8 hn) hH;exact Gd zt s σ H _ _ _ _ Q I rv rus ⟨a,us',y,rfl,rfl,hH,by rw[hl];exact hy,zr _ _ m x1 (R.set hn hH r.dropLast) (.p (ry.ext x1))⟩
 | _=>(first|exact cW e|simp[BT.meW] at e)
theorem Aa (I:Inv X zt σ H s) (hH:H l=aa (.lst xs)) (hB:LL X.K H b zs) (hz:xs.length+zs.length<=ao) (q:Q .non (upd H l (.lst (xs++zs)))) :
 aA (Qq X.prog X.w) X.A (call (.builtin "list.extend") [.ref l,.ref b]) (EP X zt σ Q) X.xe s:=by
 obtain ⟨z,its,n,r,hl,e⟩:=I.CG hH;obtain ⟨z2,its2,n2,r2,hl2,e2⟩:=rdL I hB;have hsz:its.toArray.size+its2.toArray.size<=ao:=by rw[PY,PY];lia
 have hlong:¬ (!its.toArray.isEmpty&&Q4 (its.toArray.size+its2.toArray.size))=ah:=by rw[m6 hsz,Bool.and_false];exact QM
 refine SI F.slot_list_extend ⟨_,e,rfl⟩ F.entry_list_extend (F.args_list_extend_2 _ _)
  (AutoSeq1.list_extend_list_list_0 l its.toArray n b its2.toArray n2 hlong (by rw[PY];lia) (by lia)) ⟨e,e2,?_⟩
 refine ⟨.non,_,I.CF (its':=its++its2) hH e (by simp) (r.append r2) ?_,rfl,q⟩;rw[Qk];lia
theorem De (I:Inv X zt σ H s) (hH:H l=aa (.lst xs)) (hB:SqT X.K H b zs) (hz:xs.length+zs.length<=ao) (q:Q .non (upd H l (.lst (xs++zs)))) :
 aA (Qq X.prog X.w) X.A (call (.builtin "list.extend") [.ref l,.ref b]) (EP X zt σ Q) X.xe s:=by
 obtain ⟨z,its,n,r,hl,e⟩:=I.CG hH;obtain ⟨its2,r2,p2,_⟩:=I.tuple hB;obtain ⟨⟨cls,dd,data,sl⟩,e2,hc,n2,hd⟩:=id p2;simp only at hc hd;subst hc hd;have hl2:=r2.length;have hsz:its.toArray.size+its2.toArray.size<=ao:=by rw[PY,PY];lia
 have hlong:¬ (!its.toArray.isEmpty&&Q4 (its.toArray.size+its2.toArray.size))=ah:=by rw[m6 hsz,Bool.and_false];exact QM
 refine SI F.slot_list_extend ⟨_,e,rfl⟩ F.entry_list_extend (F.args_list_extend_2 _ _)
  (mz l its.toArray n b its2.toArray n2 dd sl hlong (by rw[PY];lia) (by lia)) ⟨e,e2,?_⟩
 refine ⟨.non,_,I.CF (its':=its++its2) hH e (by simp) (r.append r2) ?_,rfl,q⟩;rw[Qk];lia
theorem xP:MtR X "list.extend" (rMe X.prog X.w X.K .extend):=by
 intro zt s σ H v vs v' us Q I rv rus h;obtain ⟨m,h,x,ws,z,h',R,rx,rws,e,zr⟩:=h;cases x with
 | p d=>cases ws with
  | nil=>exact cW e| cons _ _=>rw[vH] at e;split at e<;>(try exact cW e)
 | r n =>
  cases rws with
  | nil=>(first|exact cW e|simp[BT.meW] at e)
  | @cons y wy _ _ ry t =>
   cases t with
   | cons _ _=>(first|exact cW e|simp[BT.meW] at e)
   | nil =>
    rw[BT.uu] at e;cases g:BT.lat h n with
    | none=>rw[g] at e;exact cW e
    | some xs =>
     cases g2:(BT.rd wy h).bind BT.qq with
     | none=>rw[g,g2] at e;exact cW e
     | some ys =>
      rw[g,g2] at e;simp only at e;obtain ⟨c,e⟩:=dG e;cases e;obtain ⟨d,e1,e2⟩:=Option.bind_eq_some_iff.mp g2;have r2:=d9 R ry e1;cases rx with
      | @r a _ hn =>
       obtain ⟨us',hH,r⟩:=R.cell n a xs hn g;cases rv;obtain ⟨u,rfl,ru⟩:=rus.one;have:=fP;have hl:=r.length;cases d<;>simp only[BT.qq] at e2<;>try contradiction
       ·cases e2;obtain ⟨b,vb,rfl,hb,rb⟩:=r2.tup;cases ru;have hl2:=rb.length;exact De I hH hb (by lia) (zr _ _ m (gS (P8 hn) hH) (R.set hn hH (r.append rb)) (.p .non))
       ·cases e2;obtain ⟨b,vb,rfl,hb,rb⟩:=r2.lst;cases ru;have hl2:=rb.length;exact Aa I hH hb (by lia) (zr _ _ m (gS (P8 hn) hH) (R.set hn hH (r.append rb)) (.p .non))
 | _=>(first|exact cW e|simp[BT.meW] at e)
theorem RWs.pure {K:PP}:∀ {vs:List V}{ws:List BT.W}{ds:List BT.D},RWs P w K m H vs ws->BT.dP ws=aa ds->RDs K m H vs ds:=by
 intro vs ws
 induction ws generalizing vs with
 | nil =>
  intro ds r e;cases r;cases e;exact .nil
 | cons x ws ih =>
  intro ds r e;cases r with
  | cons r t =>
   cases r with
   | p r =>
    simp only[BT.dP] at e;obtain ⟨q,e1,e2⟩:=dH e;subst e2;exact .cons r (ih t e1)
   | _=>exact cW e
theorem nL:∀ {ds:List BT.D}{k j:Nat},BT.jv x ds k=aa j->∃ i,j=k+i/\∃ (hi:i < ds.length),BT.eqv ds[i] x=ah/\∀ m (hm:m < ds.length),m < i->BT.eqv ds[m] x=ai
 | [],_,_,e=>by exact cW e
 | y::r,k,j,e=>by
  simp only[BT.jv] at e;split at e
  ·rename_i c;cases e;exact ⟨0,rfl,by simp,c,λm _ h=>by lia⟩
  ·rename_i c;obtain ⟨i,rfl,hi,h1,h2⟩:=nL e;refine ⟨i+1,by lia,by simp;lia,by simpa using h1,λm hm hlt=>?_⟩;cases m with
   | zero=>simpa using c| succ m=>simpa using h2 m (by simpa using hm) (by lia)
theorem qM (I:Inv X zt σ H s):∀ {vs:List V}{ds:List BT.D}{us:List aC},RDs X.K m H vs ds->dw vs us->∀ (i:Nat) (h1:i < us.length) (h2:i < ds.length),jm s.heap (pd d) us[i]=BT.eqv ds[i] d
 | _,_,_,.nil,q=>by cases q;intro i h1;simp at h1
 | _,_,_,.cons r t,q=>by
  cases q with
  | cons q1 q2 =>
   intro i h1 h2;cases i with
   | zero =>
    obtain ⟨as,ra⟩:=jC I r q1;simp only[List.getElem_cons_zero];rw[uB ra (gM r),nK]
   | succ i=>simpa using qM I t q2 i (by simpa using h1) (by simpa using h2)
theorem xQ (hu:X.A.units+150 < cLine):MtR X "tuple.index" (rMe X.prog X.w X.K .tindex):=by
 intro zt s σ H v vs v' us Q I rv rus h;obtain ⟨m,h,x,ws,z,h',R,rx,rws,e,zr⟩:=h;cases x with
 | r n=>cases ws with
  | _=>(first|exact cW e|simp[BT.meW] at e)
 | p d =>
  rw[BT.nh] at e;cases g:BT.dP ws with
  | none=>rw[g] at e;exact cW e
  | some ds =>
   rw[g] at e;obtain ⟨b,e1,e2⟩:=dH e;cases e2;have rds:=rws.pure g;cases d<;>first|exact cW e1|skip
   rename_i xs;cases ds with
   | nil=>exact cW e1
   | cons d0 dr =>
    cases dr with
    | cons _ _=>exact cW e1
    | nil =>
     rw[BT.zf] at e1;split at e1
     ·rename_i c;obtain ⟨j,e3,e4⟩:=dH e1;subst e4;obtain ⟨i,rfl,hi,h1,h2⟩:=nL e3;cases rds with
      | cons r0 rn =>
       cases rn;obtain ⟨u,rfl,ru⟩:=rus.one;cases rx with
       | p rx =>
        obtain ⟨a,vt,rfl,ha,ra⟩:=RR.tup (.d rx);cases rv;obtain ⟨its,q1,q2,_⟩:=I.tuple ha;obtain ⟨⟨cls,dd,data,sl⟩,ho,hc,n,hd⟩:=id q2;simp only at hc hd;subst hc hd;have hl:=q1.length;have hl2:=ra.length;have hi':i < its.toArray.size:=by rw[PY];lia
        refine SI F.slot_tuple_index ⟨_,ho,rfl⟩ F.entry_tuple_index (F.args_tuple_index_2 _ _)
         (oU a its.toArray n dd sl u (jm s.heap (pd d0)) i hi' ?_ ?_) ⟨ho,?_,?_⟩
        rw[show its.toArray[i]=its[i]'(by lia) by simp,qM I ra q1 i (by lia) hi];exact h1
        ·intro k hk hlt;have hk':k < its.length:=by simpa using hk
         rw[show its.toArray[k]=its[k]'hk' by simp,qM I ra q1 k hk' (by lia)];exact h2 k (by lia) hlt
        ·intro y hy;exact mJ hu I (.d r0) ru ra q1 c y (by simpa using hy)
        ·refine ⟨.int (((0+i:Nat):Nat):Int),H,I.tok _,⟨s.toks,?_⟩,zr.here R (.int _)⟩;simp
     exact cW e1
 | _=>(first|exact cW e|simp[BT.meW] at e)
theorem xR:MtR X "str.index" (rMe X.prog X.w X.K .sindex):=by
 intro zt s σ H v vs v' us Q I rv rus h;obtain ⟨m,h,x,ws,z,h',R,rx,rws,e,zr⟩:=h;cases x with
 | r n=>cases ws with
  | _=>(first|exact cW e|simp[BT.meW] at e)
 | p d =>
  rw[BT.nj] at e;cases g:BT.dP ws with
  | none=>rw[g] at e;exact cW e
  | some ds =>
   rw[g] at e;obtain ⟨b,e1,e2⟩:=dH e;cases e2;have rds:=rws.pure g;cases d<;>first|exact cW e1|skip
   cases ds with
   | nil=>exact cW e1
   | cons d0 dr =>
    cases dr with
    | cons _ _=>cases d0<;>exact cW e1
    | nil =>
     cases d0<;>first|exact cW e1|skip
     rename_i x y;rw[BT.zh] at e1;cases ho:RZ x y 0 x.length 1 with
     | nil=>rw[ho] at e1;exact cW e1
     | cons j rest =>
      rw[ho] at e1;cases e1;cases rds with
      | cons r0 rn =>
       cases rn;cases r0;obtain ⟨u,rfl,t0,rfl⟩:=rus.one;cases rx with
       | p rx =>
        cases rx;obtain ⟨t,rfl⟩:=rv;exact call_gives F.slot_str_index (typeIs_str s x t) F.entry_str_index (F.args_str_index_2 _ _) (gives_str_index x y t t0 j rest ho) ⟨.int j,H,I.tok _,⟨_,rfl⟩,zr.here R (.int _)⟩
 | _=>(first|exact cW e|simp[BT.meW] at e)
end
section
inductive rBi (P:Qg) (w:QA) (K:PP) (b:BT.Bi) (mu:Bool) (vs:List V) (H:Hp) (Q:VK):Prop where
 | mk (m:List P4) (h:BT.HH) (ws:List BT.W) (z:BT.W) (h':BT.HH) (R:RH K m H h) (rs:RWs P w K m H vs ws) (e:BT.kBi b mu ws h=aa (z,h')) (p:Post P w K m H z h' Q):rBi P w K b mu vs H Q
inductive RRs (K:PP) (m:List P4) (H:Hp):List V->List BT.D->Prop where
 | nil:RRs K m H [] []
 | cons {v:V}{d:BT.D}{vs:List V}{ds:List BT.D} (r:RR K m H v d) (t:RRs K m H vs ds):RRs K m H (v::vs) (d::ds)
theorem i6 {K:PP} (R:RH K m H h):∀ {vs:List V}{ws:List BT.W}{ds:List BT.D},RWs P w K m H vs ws->BT.rds ws h=aa ds->RRs K m H vs ds
 | _,_,_,.nil,e=>by cases e;exact .nil
 | _,_,_,.cons r t,e=>by simp only[BT.rds] at e;obtain ⟨d,e1,e2⟩:=Option.bind_eq_some_iff.mp e;obtain ⟨q,e3,e4⟩:=dH e2;subst e4;exact .cons (d9 R r e1) (i6 R t e3)
inductive BiI (b:BT.Bi) (mu:Bool) (ws:List BT.W) (h:BT.HH) (z:BT.W) (h':BT.HH):Prop where
 | mk (ds:List BT.D) (d:BT.D) (h1:BT.rds ws h=aa ds) (h2:BT.biD b ds=aa d) (h3:(mu=ai/\z=.p d/\h'=h)\/∃ xs,mu=ah/\d=.lst xs/\z=.r h.length/\h'=h++[.l xs]):BiI b mu ws h z h'
theorem jE (e:BT.kBi b mu ws h=aa (z,h')):BiI b mu ws h z h':=by
 unfold BT.kBi at e;cases e1:BT.rds ws h with
 | none=>rw[e1] at e;exact cW e
 | some ds =>
  rw[e1] at e;simp only at e;cases e2:BT.biD b ds with
  | none=>rw[e2] at e;exact cW e
  | some d =>
   rw[e2] at e;simp only at e;cases mu with
   | false=>cases e;exact ⟨ds,d,e1,e2,.inl ⟨rfl,rfl,rfl⟩⟩
   | true =>
    simp only[if_true] at e;cases d<;>simp only at e<;>try contradiction
    cases e;exact ⟨ds,_,e1,e2,.inr ⟨_,rfl,rfl,rfl,rfl⟩⟩
theorem RRs.one {K:PP}{m:List P4}{H:Hp}{vs:List V}{d:BT.D} (r:RRs K m H vs [d]):∃ v,vs=[v]/\RR K m H v d:=by
 cases r with
 | cons r t=>cases t;exact ⟨_,rfl,r⟩
theorem GV:gj X (.builtin "len") (rBi X.prog X.w X.K .len ai):=by
 intro zt s σ H vs us Q I rus h;obtain ⟨m,h,ws,z,h',R,rws,e,zr⟩:=h;obtain ⟨ds,d,e1,e2,⟨_,rfl,rfl⟩|⟨_,q,_⟩⟩:=jE e
 ·have rr:=i6 R rws e1
  match ds,e2 with
  | [.tup xs],e2 =>
   cases e2;obtain ⟨v,rfl,r⟩:=rr.one;obtain ⟨a,vt,rfl,ha,ra⟩:=r.tup;exact iW zt s σ H _ us Q I rus ⟨a,vt,rfl,.inr ha,by rw[ra.length];exact zr.here R (.int _)⟩
  | [.lst xs],e2 =>
   cases e2;obtain ⟨v,rfl,r⟩:=rr.one;obtain ⟨a,vt,rfl,ha,ra⟩:=r.lst;exact iW zt s σ H _ us Q I rus ⟨a,vt,rfl,.inl ha.sq,by rw[ra.length];exact zr.here R (.int _)⟩
  | [.str x],e2 =>
   rw[BT.xC] at e2;split at e2
   ·rename_i c;cases e2;obtain ⟨v,rfl,r⟩:=rr.one;obtain ⟨rfl,_⟩:=r.str;have:=fP;exact qj zt s σ H _ us Q I rus ⟨x,rfl,by lia,zr.here R (.int _)⟩
   exact cW e2
 exact BT.eW q
theorem GW:gj X (.type "int") (rBi X.prog X.w X.K .int ai):=by
 intro zt s σ H vs us Q I rus h;obtain ⟨m,h,ws,z,h',R,rws,e,zr⟩:=h;obtain ⟨ds,d,e1,e2,⟨_,rfl,rfl⟩|⟨_,q,_⟩⟩:=jE e
 ·have rr:=i6 R rws e1
  match ds,e2 with
  | [.int i],e2 =>
   cases e2;obtain ⟨v,rfl,r⟩:=rr.one;cases r.int;exact pB zt s σ H _ us Q I rus (.inl ⟨i,rfl,zr.here R (.int _)⟩)
  | [.bl i],e2 =>
   cases e2;obtain ⟨v,rfl,r⟩:=rr.one;cases r.bl;exact pB zt s σ H _ us Q I rus (.inr ⟨i,rfl,zr.here R (.int _)⟩)
 exact BT.eW q
theorem vI:gj X (.type "list") (rBi X.prog X.w X.K .list mu):=by
 intro zt s σ H vs us Q I rus h;obtain ⟨m,h,ws,z,h',R,rws,e,zr⟩:=h;obtain ⟨ds,d,e1,e2,hz⟩:=jE e;have rr:=i6 R rws e1;have fin:∀ {p:P4}{vt:List V}{xs:List BT.D},d=.lst xs->H p=af->RDs X.K m H vt xs->Q (.ref p) (upd H p (.lst vt)):=by
  intro p vt xs ed hp r;rcases hz with ⟨_,rfl,rfl⟩|⟨ys,_,e3,rfl,rfl⟩
  subst ed;exact kQ R hp r zr;rw[ed] at e3;cases e3;exact vF R hp r zr
 match ds,e2 with
 | [.tup xs],e2 =>
  cases e2;obtain ⟨v,rfl,r⟩:=rr.one;obtain ⟨a,vt,rfl,ha,ra⟩:=r.tup;exact kJ zt s σ H _ us Q I rus ⟨a,vt,rfl,.inr ha,λp hp=>fin rfl hp ra⟩
 | [.lst xs],e2 =>
  cases e2;obtain ⟨v,rfl,r⟩:=rr.one;obtain ⟨a,vt,rfl,ha,ra⟩:=r.lst;exact kJ zt s σ H _ us Q I rus ⟨a,vt,rfl,.inl ha.sq,λp hp=>fin rfl hp ra⟩
theorem nM:∀ {xs:List BT.D}{ns:List Int},BT.intsOf xs=aa ns->xs=ns.map BT.D.int
 | [],ns,h=>by cases h;rfl
 | .int i::r,ns,h=>by simp only[BT.intsOf] at h;obtain ⟨q,e1,e2⟩:=dH h;subst e2;rw[nM e1];rfl
 | .non::_,_,h=>by exact cW h
 | .bl _::_,_,h=>by exact cW h
 | .str _::_,_,h=>by exact cW h
 | .tup _::_,_,h=>by exact cW h
 | .lst _::_,_,h=>by exact cW h
theorem jF {K:PP}:∀ {ns:List Int}{vs:List V},RDs K m H vs (ns.map BT.D.int)->vs=ns.map V.int
 | [],vs,r=>by cases r;rfl
 | n::ns,vs,r=>by
  cases r with
  | cons r t=>cases r;rw[jF t];rfl
theorem xS (hc:X.calm=ah):gj X (.builtin "min") (λxs H Q=>∃ (a:P4) (ns:List Int),xs=[.ref a]/\SqL X.K H a (ns.map V.int)/\0 < ns.length/\∀ M,M∈ns->(∀ z∈ns,M<=z)->Q (.int M) H):=by
 intro zt s σ H xs us Q I r h;obtain ⟨a,ns,rfl,hl,hne,q⟩:=h;obtain ⟨u,rfl,e⟩:=vals1 r;cases e;obtain ⟨its,rv,p,hz⟩:=I.list hl;have hi:=intsAre_of rv;obtain ⟨ys,e⟩:=hi.allInts.items;have hns:ns=ys.toList.map (·.1):=by rw[← hi.numsOf,← nums_intItems,← e]
 have hsz:0 < ys.size:=by have h3:=hne;rw[hns,Qt,Q9] at h3;exact h3
 have pl:=p.isList;rw[e] at pl;refine min_intList (I.ok.hd hc) pl hsz λv h' tk hv hk=>?_;obtain ⟨t,rfl⟩:=intItems_at hv;obtain ⟨h1,h2⟩:=argBest_lt (numAt ys) (ys.size - 1);refine ⟨.int _,H,I.kept hk,⟨t,rfl⟩,q _ ?_ λz hz=>?_⟩;rw[hns,numAt_eq];exact getD_mem (by rw[Qt,Q9];lia)
 ·rw[hns] at hz;obtain ⟨j,hj,rfl⟩:=mem_getD hz;rw[Qt,Q9] at hj;rw[← numAt_eq];exact h2 j (by lia)
theorem Df (hc:X.calm=ah):gj X (.builtin "min") (rBi X.prog X.w X.K .min1 ai):=by
 intro zt s σ H vs us Q I rus h;obtain ⟨m,h,ws,z,h',R,rws,e,zr⟩:=h;obtain ⟨ds,d,e1,e2,⟨_,rfl,rfl⟩|⟨_,q,_⟩⟩:=jE e
 ·have rr:=i6 R rws e1
  match ds,e2 with
  | [.lst xs],e2 =>
   rw[BT.zk] at e2;obtain ⟨ns,q1,q2⟩:=Option.bind_eq_some_iff.mp e2;obtain ⟨M,q3,q4⟩:=dH q2;subst q4;obtain ⟨v,rfl,r⟩:=rr.one;obtain ⟨a,vt,rfl,ha,ra⟩:=r.lst;rw[nM q1] at ra;have ev:=jF ra;subst ev;obtain ⟨s1,s2⟩:=BT.xD q3;refine xS hc zt s σ H _ us Q I rus ⟨a,ns,rfl,ha.sq,by cases ns with|nil=>cases q3|cons _ _=>exact VD _,λM' m1 m2=>?_⟩;have:M'=M:=Int.le_antisymm (m2 _ s1) (s2 _ m1);subst this;exact zr.here R (.int _)
 exact BT.eW q
theorem Ab:gj X (.type "tuple") (rBi X.prog X.w X.K .tuple ai):=by
 intro zt s σ H vs us Q I rus h;obtain ⟨m,h,ws,z,h',R,rws,e,zr⟩:=h;obtain ⟨ds,d,e1,e2,⟨_,rfl,rfl⟩|⟨_,q,_⟩⟩:=jE e
 ·have rr:=i6 R rws e1
  match ds,e2 with
  | [.tup xs],e2 =>
   cases e2;obtain ⟨v,rfl,r⟩:=rr.one;obtain ⟨a,vt,rfl,ha,ra⟩:=r.tup;refine j0 zt s σ H _ us Q I rus ⟨a,vt,rfl,.inr ⟨ha,?_⟩⟩;cases r with
   | d r=>exact zr.here R r
  | [.lst xs],e2 =>
   cases e2;obtain ⟨v,rfl,r⟩:=rr.one;obtain ⟨a,vt,rfl,ha,ra⟩:=r.lst;exact j0 zt s σ H _ us Q I rus ⟨a,vt,rfl,.inl ⟨ha.sq,λp hp=>kP R hp ra zr⟩⟩
 exact BT.eW q
noncomputable def tyD:BT.D->String
 | .non=>"NoneType"| .bl _=>"bool"| .int _=>"int"| .str _=>"str"| .tup _=>"tuple"| .lst _=>"list"
theorem Dg {E:aC->PX->Prop}
 (I:Inv X zt σ H s) (r:RR X.K m H v d) (rv:RelV v u) (e:Rm X.K (.type (tyD d)) (.type c)=aa b) (h:∀ tk,Q (.bool b) { s with toks:=tk }) :
 aA (Qq X.prog X.w) A (call (.builtin "isinstance") [u,.type c]) Q E s:=by
 cases d with
 | non=>cases r.non;cases rv;exact Sf PySem.W.kitx_none I.kIn Sd e (λz=>nomatch z) h| bl y=>cases r.bl;cases rv;exact Sf PySem.W.kitx_bool I.kIn Sd e (λz=>nomatch z) h| int i=>cases r.int;obtain ⟨t,rfl⟩:=rv;exact Sf PySem.W.kitx_int I.kIn Sd e (λz=>nomatch z) h| str y=>obtain ⟨rfl,_⟩:=r.str;obtain ⟨t,rfl⟩:=rv;exact Sf PySem.W.kitx_str I.kIn Sd e (λz=>nomatch z) h
 | tup xs =>
  obtain ⟨a,vt,rfl,ha,_⟩:=r.tup;cases rv;obtain ⟨its,_,⟨o,h1,h2,_⟩,_⟩:=I.tuple ha;exact Sf PySem.W.kitx_tuple I.kIn ⟨o,h1,h2⟩ e (λz=>nomatch z) h
 | lst xs =>
  obtain ⟨a,vt,rfl,ha,_⟩:=r.lst;cases rv;obtain ⟨_,its,n,_,_,h1⟩:=rdL I ha;exact Sf PySem.W.kitx_list I.kIn ⟨_,h1,rfl⟩ e (λz=>nomatch z) h
theorem Ac (K:PP) (t:String):Rm K (.type t) (.type t)=aa ah:=by unfold Rm;rw[if_pos (by simp)]
theorem Ad (h:sG b=aa (c,f)) (d:BT.D):BT.biD b [d]=aa (.bl (f d)):=by
 cases b<;>simp only[sG] at h<;>try contradiction
 all_goals (cases h;rfl)
theorem Ae (h:sG b=aa (c,f)) (K:PP) (d:BT.D):Rm K (.type (tyD d)) (.type c)=aa (f d):=by
 cases b<;>simp only[sG] at h<;>try contradiction
 all_goals (cases h;cases d)
 all_goals first
  | exact Ac K _
  | (simp only[tyD];unfold Rm;rw[if_neg (by decide)];unfold PySem.W.kitCls;first|rfl|kernel_rfl|decide +kernel)
end
end BS
end
section
namespace BX
open PySem PySem.Spec PyProof.Rows
section
variable {prog:Qg}{w:QA}{A:QO}{R:Result->PX->Prop}{I:P4}{fp wr:List P4}{n:Nat}{P:Nat->aC->Prop}{St:Nat->ay->Prop}{kw:List (aB×aC)}
end
end BX
end
section
namespace BS
open PySem PySem.Spec PyProof.Rows L2
variable {K:PP}
noncomputable abbrev FT:=BT.FK->List BT.W->BT.HH->Option (BT.W×BT.HH)
inductive spF (P:Qg) (w:QA) (K:PP) (g:List BT.W->BT.HH->Option (BT.W×BT.HH)) (vs:List V) (H:Hp) (Q:VK) (E:XK):Prop where
 | mk (m:List P4) (ws:List BT.W) (h:BT.HH) (z:BT.W) (h':BT.HH) (R:RH K m H h) (r:RWs P w K m H vs ws) (e:g ws h=aa (z,h')) (p:Post P w K m H z h' Q):spF P w K g vs H Q E
inductive tD (X:Cx) (F:FT) (G:aB->Option BT.W) (e:BT.E) (σ:L2.St) (H:Hp) (Q:VK):Prop where
 | mk (m:List P4) (s:BT.Sl) (h:BT.HH) (z:BT.W) (h':BT.HH) (R:RH X.K m H h) (S:RS X.prog X.w X.K m H σ s) (q:BT.ev F G e s h=aa (z,h')) (p:Post X.prog X.w X.K m H z h' Q):tD X F G e σ H Q
inductive tDs (X:Cx) (F:FT) (G:aB->Option BT.W) (es:BT.Es) (σ:L2.St) (H:Hp) (Q:List V->Hp->Prop):Prop where
 | mk (m:List P4) (s:BT.Sl) (h:BT.HH) (zs:List BT.W) (h':BT.HH) (R:RH X.K m H h) (S:RS X.prog X.w X.K m H σ s) (q:BT.evs F G es s h=aa (zs,h')) (p:∀ vs H' m',Ext m H m' H'->RH X.K m' H' h'->RWs X.prog X.w X.K m' H' vs zs->Q vs H'):tDs X F G es σ H Q
inductive tDT (X:Cx) (F:FT) (G:aB->Option BT.W) (e:BT.E) (σ:L2.St) (H:Hp) (Q:Bool->Hp->Prop):Prop where
 | mk (m:List P4) (s:BT.Sl) (h:BT.HH) (b:Bool) (h':BT.HH) (R:RH X.K m H h) (S:RS X.prog X.w X.K m H σ s) (q:BT.ev F G e s h=aa (.p (.bl b),h')) (p:∀ H' m',Ext m H m' H'->RH X.K m' H' h'->Q b H'):tDT X F G e σ H Q
def Af (P:Qg) (w:QA) (K:PP) (mg:aB->Option aC) (base:ay) (k L:Nat) (g:List BT.W->BT.HH->Option (BT.W×BT.HH)):Prop :=
 ∀ (A:QO) (outer:List Env) (s:PX) (H:Hp) (f:P4) (us:List aC) (vs cvs:List V) (m:List P4) (ws:List BT.W) (cs:List BT.Cp) (h:BT.HH) (z:BT.W) (h':BT.HH) (Q:VK) (E:XK),fJ k A->rV P w K mg base A outer s H->dw vs us →
  RH K m H h->RWs P w K m H vs ws->BT.noC ws=ah->pO m H f L cvs->RCs K m H cvs cs->g (ws++cs.map BT.Cp.w) h=aa (z,h')->Post P w K m H z h' Q->au (Qq P w) A (.call (.ref f) ⟨us,[]⟩) (CR CX0 outer P w H s Q E) s
structure LX (X:Cx) (x:aB):Prop where
 mem:x∈BT.g8
 ex:∃ c P,Ri X.K x=aa (c,P)/\X.env.code=.ref c/\PySem.W.CodeHd X.base c P/\∀ y∈BT.g8,∀ c2,Ri X.K y=aa (c2,P)->y=x
 ql:X.env.qual=x++".<locals>."
 bm:∃ bm ob,X.mg "__builtins__"=aa (.ref bm)/\bm≠Su/\X.base.get? bm=aa ob/\ob.cls=.type "module"/\ob.dict=aa Su/\ob.data=.plain
noncomputable def Lh:List aB:=["len","abs","int","list","tuple","isinstance","str","bool","range","reversed","enumerate","zip","min","max","sorted","sum","all","any","set","ValueError","dict"]
inductive OkC (P:Qg) (w:QA) (K:PP) (mg:aB->Option aC) (base:ay) (A:QO) (f:aB) (sp:Sp):Prop where
 | mk (fa:P4) (fd:Ry) (ps:List aB) (k:Nat) (h1:mg f=aa (.ref fa)) (h2:Q3 K (.ref fa)=ah) (h3:Binds K fd ps []) (h4:fJ k A) (h5:iU P w K mg base CX0 k fa fd ps sp):OkC P w K mg base A f sp
inductive OkM (P:Qg) (w:QA) (K:PP) (mg:aB->Option aC) (base:ay) (A:QO) (CX:CXT) (c m:aB) (sp:Sp):Prop where
 | mk (C g:P4) (fd:Ry) (ps:List aB) (k:Nat) (h1:nH K c C) (h2:yS K C m g) (h3:Binds K fd ps []) (h4:fJ k A) (h5:iU P w K mg base CX k g fd ps sp):OkM P w K mg base A CX c m sp
inductive OkN (P:Qg) (w:QA) (K:PP) (mg:aB->Option aC) (base:ay) (A:QO) (c:aB) (sp:Sp):Prop where
 | mk (C g:P4) (fd:Ry) (ps:List aB) (k:Nat) (h1:nH K c C) (h2:mg c=aa (.ref C)) (h3:Mk K C g) (h4:Binds K fd ps []) (h5:fJ (k+1) A) (h6:iU P w K mg base CX0 k g fd ps sp):OkN P w K mg base A c sp
structure Ok (X:Cx) (F:FT) (G:aB->Option BT.W) (sc:QX) (N:List aB):Prop where
 hsc:X.env.scope=sc
 hN:X.N=N
 nd:X.N.Nodup
 calm:gR N=ah->X.calm=ah
 hu:X.A.units+150 < cLine
 own:PassesOwn (Qq X.prog X.w) X.A X.env X.xe
 glob:∀ x z,G x=aa z->∃ u v,X.mg x=aa u/\RelV v u/\∀ m H,RW X.prog X.w X.K m H v z
 call:∀ (f:aB) ws h r,F (.f f) ws h=aa r->OkC X.prog X.w X.K X.mg X.base X.A f (spF X.prog X.w X.K (F (.f f)))
 meth:∀ (c m:aB) ws h r,F (.m c m) ws h=aa r->OkM X.prog X.w X.K X.mg X.base X.A CX0 c m (spF X.prog X.w X.K (F (.m c m)))
 mkc:∀ (c:aB) ws h r,F (.m c "__init__") ws h=aa r->OkN X.prog X.w X.K X.mg X.base X.A c (spF X.prog X.w X.K (F (.m c "__init__")))
 blt:∀ x∈Lh,X.mg x=af
 lam:∀ (L:Nat) ws h r,F (.l L) ws h=aa r->∃ k,fJ k X.A/\Af X.prog X.w X.K X.mg X.base k L (F (.l L))
 lamx:(∀ x,X.fn x=ah)->∀ x,N.contains (BT.jy x)=ah->LX X x
theorem PE.weak (h:PE X e t) (q:∀ σ H Q,t' σ H Q->t σ H Q):PE X e t':=λzt s σ H Q I hw=>h zt s σ H Q I (q _ _ _ hw)
theorem PT.weak (h:PT X e t) (q:∀ σ H Q,t' σ H Q->t σ H Q):PT X e t':=λzt s σ H Q I hw=>h zt s σ H Q I (q _ _ _ hw)
theorem PW.weak (h:PW X e t) (q:∀ σ H Q,t' σ H Q->t σ H Q):PW X e t':=λwh zt s σ H Q I hw=>h wh zt s σ H Q I (q _ _ _ hw)
theorem PA.weak (h:PA X es t) (q:∀ σ H Q,t' σ H Q->t σ H Q):PA X es t':=λpos zt s σ H Q I hw=>h pos zt s σ H Q I (q _ _ _ hw)
theorem dg (h:noStar e=ah):QC (e::es) env=(ai,eval e env)::QC es env:=by cases e<;>first|rfl|exact BT.eW h
theorem sM (h:kN b=ah):vo b:=λo i=>by cases b<;>first|rfl|exact BT.eW h
theorem kT (h:dW o=ah):TU o name env (eval o env)=eval o env:=by
 cases o with
 | Call fn as ks p =>
  cases fn with
  | Attribute _ _ _=>rfl| _=>exact BT.eW h
 | _=>first|rfl|exact cW h
noncomputable def dj:List P1->Bool
 | []=>ah| e::es=>noStar e&&dj es
theorem dY:∀ {es:List P1},dj es=ah->(SL pos (QC es env)).any (·.1)=ai
 | [],_=>rfl
 | e::es,h=>by simp only[dj,PZ] at h;rw[dg h.1];show (ai||(SL pos (QC es env)).any (·.1))=ai;rw[dY h.2];rfl
theorem jG:∀ {es:List P1},dj es=ah->(SL pos (QC es env)).all (λx=>!x.1)=ah
 | [],_=>rfl
 | e::es,h=>by simp only[dj,PZ] at h;rw[dg h.1];show (!ai&&(SL pos (QC es env)).all (λx=>!x.1))=ah;rw[jG h.2];rfl
noncomputable def Li:Tq->Prop
 | .es _ xs=>dj xs=ah| _=>True
theorem Ah (h:CQ sc N t):Li t:=by
 induction h with
 | es_nil=>exact rfl
 | es_cons hs _ _ _ ih =>
  show (noStar _&&dj _)=ah;rw[PZ];exact ⟨hs,ih⟩
 | _=>exact Sd
theorem gO (h:CEs sc N as es):dj es=ah:=Ah h
noncomputable def noM:Tq->Prop
 | .es (.cons _ _) []=>False| _=>True
theorem GX (h:CQ sc N t):noM t:=by
 induction h with
 | _=>exact Sd
theorem nN (h:CEs sc N (.cons a r) []):False:=GX h
section
theorem nO (he:∀ s h,BT.ev F G e s h=BT.bnd (BT.ev F G a s h) (BT.k2 (BT.ev F G b s) f)) (σ:L2.St) (H:Hp) (Q:VK) (q:tD X F G e σ H Q) :
 tOp (rOp X.prog X.w X.K f) (tD X F G a) (tD X F G b) σ H Q:=by
 obtain ⟨m,s,h,z,h',R,S,ee,zr⟩:=q;rw[he] at ee;obtain ⟨x,h1,e1,e2⟩:=cZ ee;simp only[BT.k2] at e2;obtain ⟨y,h2,e3,e4⟩:=cZ e2;refine ⟨m,s,h,x,h1,R,S,e1,λv H1 m1 x1 R1 r1=>?_⟩;refine ⟨m1,s,h1,y,h2,R1,S.ext x1,e3,λu H2 m2 x2 R2 r2=>?_⟩;exact ⟨m2,h2,x,y,z,h',R2,r1.ext x2,r2,e4,λw' H3 m3 x3 R3 r3=>zr w' H3 m3 ((x1.trans x2).trans x3) R3 r3⟩
theorem sN (h:∀ σ H Q,tD X F G e σ H Q->t σ H Q) (σ:L2.St) (H:Hp) (Q:Bool->Hp->Prop) (q:tDT X F G e σ H Q):yN t σ H Q:=by
 obtain ⟨m,s,h0,b,h',R,S,ee,zr⟩:=q;refine h σ H _ ⟨m,s,h0,_,h',R,S,ee,λv H' m' x R' r=>?_⟩;cases r with
 | p r=>cases r;exact ⟨b,rfl,zr H' m' x R'⟩
theorem opB (h:Fb o op=ah):OpR X (Rv op) (rOp X.prog X.w X.K (BT.qy o)):=by rw[of_decide_eq_true h];cases o;exact GN;exact GO;exact GQ;exact GP;exact C7
theorem Lj:∀ {es:List (aB×V)}{kvs:List (aB×BT.D)}{K:PP},RDk K es kvs->KV (es.map λq=>((Sum.inr q.1:Key),q.2)) vs->(valueAt vs (Sum.inr k)).isSome=(BT.fG k kvs).isSome:=by
 intro es
 induction es generalizing vs with
 | nil =>
  intro kvs K r q;cases r;cases q;rfl
 | cons p es ih =>
  intro kvs K r q;cases r with
  | @cons x v dd _ kvs r t =>
   cases q with
   | @cons p z l1 l2 q1 q2 =>
    obtain ⟨z1,z2⟩:=z;obtain ⟨q11,q12⟩:=q1;simp only at q11 q12;subst q11;rw[BT.fG]
    by_cases c:k=x
    ·subst c;simp[valueAt]
    ·rw[if_neg c];have ne:¬ ((Sum.inr x:Key)=Sum.inr k):=λz=>c (Sum.inr.inj z).symm;have:=ih t q2;simp only[valueAt] at this ⊢;rw[Tv (by simpa using ne)];exact this
theorem opC (O:Ok X F G sc N) (h:C5 o op=ah):OpR X (QZ op) (rOp X.prog X.w X.K (BT.kL o)):=by
 rw[of_decide_eq_true h];cases o;exact Ld O.hu;exact Lf O.hu;exact qK JP rfl rfl λ_ _=>rfl;exact qK JQ rfl rfl λ_ _=>rfl;exact qK JR rfl rfl λ_ _=>rfl;exact qK JS rfl rfl λ_ _=>rfl;exact GR;exact Dc
 ·refine GS O.hu ?_;intro kvs x b m H v u v' u' zt σ s Q I rv ru rx rk e q;cases kvs with
  | t kvs =>
   cases x with
   | p d =>
    cases d<;>first|exact cW e|skip
    ·obtain rfl:=P5 e;cases rk with
     | @k a es _ kd rk =>
      cases ru;cases rx with
      | p rx =>
       cases rx;cases rv;obtain ⟨hm,vs,kv,dd⟩:=kd;obtain ⟨f,mo,fn⟩:=map_none (dd s.heap I.kIn);refine Vk (knd:=optKind X.prog X.w) (k:=af) rfl hm mo ?_;rw[fn];exact ⟨.bl _,H,I.tok _,rfl,q⟩
    obtain rfl:=P5 e;cases rk with
    | @k a es _ kd rk =>
     cases ru;cases rx with
     | p rx =>
      cases rx with
      | str x ok =>
       obtain ⟨t,rfl⟩:=rv;obtain ⟨hm,vs,kv,dd⟩:=kd;have D:=dd s.heap I.kIn;refine Vk (knd:=dM X.prog X.w) (jn _ _ _ t) hm D.mapOf ?_;rw[Lj rk kv];exact ⟨.bl _,H,I.tok _,rfl,q⟩
   | _=>exact cW e
  | l kvs =>
   cases x with
   | p d =>
    obtain ⟨k,g1,g2⟩:=dH (show (BT.oQ d).map (λk=>(BT.fM kvs k).isSome)=aa b from e);subst g2;cases rk with
    | @kl a ob ws _ hh rk =>
     cases ru;cases rx with
     | p rx =>
      have ek:=zU rx g1;subst ek;cases uC I (.inr ⟨_,hh.1⟩) rk k with
      | no vs dd n g1 g2 =>
       refine Vk (knd:=dM X.prog X.w) (ze rv) n dd.mapOf ?_;rw[g2];exact ⟨.bl _,H,I.tok _,rfl,by rw[g1] at q;exact q⟩
      | is vs dd n x v1 u1 g1 g2 g3 g4 =>
       refine Vk (knd:=dM X.prog X.w) (ze rv) n dd.mapOf ?_;rw[g2];exact ⟨.bl _,H,I.tok _,rfl,by rw[g1] at q;exact q⟩
   | _=>exact cW e
end
section
variable {X:Cx}{F:FT}{G:aB->Option BT.W}{sc:QX}{N:List aB}
theorem Dh (O:Ok X F G sc N) (x:aB):X.env.kindOf x=sc.names.lookup x:=by rw[← O.hsc];rfl
theorem gq (h:fB x=ah):(x==("__debug__":aB))=ai/\(x==("__classdict__":aB))=ai/\x≠"__name__":=by simp only[fB,PZ,Uq] at h;exact ⟨h.1.1,h.1.2,λe=>by rw[e] at h;simp at h⟩
theorem eN (O:Ok X F G sc N) (h:dX sc x=ah):Gl X x:=by show X.env.kindOf x=_;rw[Dh O];exact eq_of_beq h
theorem GY (O:Ok X F G sc N) (h:sH sc x=ah):Vis X.env.scope x:=by
 rw[O.hsc];unfold sH at h;unfold Vis;cases e:sc.names.lookup x with
 | none=>rw[e] at h;exact BT.eW h
 | some k=>rw[e] at h;cases k<;>first|(exact .inl rfl)|(exact .inr (.inl rfl))|(exact .inr (.inr rfl))|exact BT.eW h
theorem vJ (O:Ok X F G sc N) (h2:N[i]?=aa y) (h3:sH sc y=ah) (h4:fB y=ah):PE X (.Name y pos) (tD X F G (.var i)):=by
 obtain ⟨d1,d2,_⟩:=gq h4;refine PE.weak (FA (i:=i) (by rw[O.hN];exact h2) (GY O h3) d1 d2) fun σ H Q q=>?_;obtain ⟨m,s,h,z,h',R,S,ee,zr⟩:=q;simp only[BT.ev] at ee;split at ee
 ·rename_i w e;cases ee;obtain ⟨v,hv,r⟩:=S.get i _ e;exact ⟨v,hv,zr v H m (.refl _ _) R r⟩
 exact cW ee
theorem Di (h:Fc d c=ah):PE X (.Constant c k pos) (tD X F G (.cst d)):=by
 have fin:∀ {v:V},(∀ m H,RD X.K m H v d)->∀ σ H Q,tD X F G (.cst d) σ H Q->tC v σ H Q:=λr σ H Q q=>by obtain ⟨m,s,h,z,h',R,S,ee,zr⟩:=q;simp only[BT.ev] at ee;cases ee;exact zr _ H m (.refl _ _) R (.p (r m H))
 cases d<;>cases c<;>first|exact BT.eW h|skip
 exact PE.weak FD (fin λ_ _=>.non);cases eq_of_beq h;exact PE.weak Jw (fin λ_ _=>.bl _);cases eq_of_beq h;exact PE.weak tX (fin λ_ _=>.int _)
 ·have h:=Bool.and_eq_true_iff.mp h;cases eq_of_beq h.1;exact PE.weak FE (fin λ_ _=>.str _ h.2)
theorem Dj (O:Ok X F G sc N) (h2:dX sc y=ah) (h3:fB y=ah):PE X (.Name y pos) (tD X F G (.glo y)):=by obtain ⟨d1,d2,_⟩:=gq h3;intro zt s σ H Q I q;obtain ⟨m,s',h,z,h',R,S,ee,zr⟩:=q;simp only[BT.ev] at ee;obtain ⟨w,e1,e2⟩:=dH ee;cases e2;obtain ⟨u,v,hm,r,rw⟩:=O.glob _ _ e1;exact qd (eN O h2) hm r d1 zt s σ H Q I (zr v H m (.refl _ _) R (rw m H))
theorem Fg (he:∀ s h,BT.ev F G e s h=BT.bnd (BT.ev F G a s h) k) (q:tD X F G e σ H Q)
 (h1:∀ m h x z h' v H1,RH X.K m H1 h->RW X.prog X.w X.K m H1 v x->k x h=aa (z,h')->Post X.prog X.w X.K m H1 z h' Q->R' v H1):tD X F G a σ H R':=by
 obtain ⟨m,s,h,z,h',R,S,ee,zr⟩:=q;rw[he] at ee;obtain ⟨x,g,e1,e2⟩:=cZ ee;exact ⟨m,s,h,x,g,R,S,e1,λv H1 m1 x1 R1 r1=>h1 m1 g x z h' v H1 R1 r1 e2 λw' H3 m3 x3 R3 r3=>zr w' H3 m3 (x1.trans x3) R3 r3⟩
theorem kU (he:∀ s h,BT.ev F G e s h=BT.bnd (BT.evs F G as s h) k) (q:tD X F G e σ H Q)
 (h1:∀ m h xs z h' vs H1,RH X.K m H1 h->RWs X.prog X.w X.K m H1 vs xs->k xs h=aa (z,h')->Post X.prog X.w X.K m H1 z h' Q->R' vs H1):tDs X F G as σ H R':=by
 obtain ⟨m,s,h,z,h',R,S,ee,zr⟩:=q;rw[he] at ee;obtain ⟨x,g,e1,e2⟩:=cZ ee;exact ⟨m,s,h,x,g,R,S,e1,λv H1 m1 x1 R1 r1=>h1 m1 g x z h' v H1 R1 r1 e2 λw' H3 m3 x3 R3 r3=>zr w' H3 m3 (x1.trans x3) R3 r3⟩
theorem ty_list (R:RH X.K m H h) (r:RW X.prog X.w X.K m H v (.r n)) (ok:BT.mj (.r n) h=ah):tyV X.K "list" v H:=by
 cases r with
 | @r a _ hn =>
  obtain ⟨xs,e⟩:=Option.isSome_iff_exists.mp ok;obtain ⟨vs,e,_⟩:=R.cell n a xs hn e;exact .inl ⟨rfl,vs,.inl (.inl e)⟩
theorem vK (e:BT.kMe m ea x h=aa r):BT.mj x h=ah/\BT.bnd (ea h) (BT.meW m x)=aa r:=by unfold BT.kMe at e;split at e;rename_i c;exact ⟨c,e⟩;exact cW e
theorem Od (hm:m=.append\/m=.pop\/m=.extend) (e:BT.meW m x ws h=aa (z,h')):∃ n,x=.r n:=by
 cases x with
 | r n=>exact ⟨n,rfl⟩
 | p d =>
  rcases hm with rfl|rfl|rfl<;>cases ws<;>rw[vH] at e<;>(split at e<;>(try exact cW e))<;>exact cW e
 | k q =>
  rcases hm with rfl|rfl|rfl<;>cases ws<;>(first|exact cW e|simp[BT.meW] at e)
 | x _ =>
  rcases hm with rfl|rfl|rfl<;>cases ws<;>(first|exact cW e|simp[BT.meW] at e)
 | c _ _ =>
  rcases hm with rfl|rfl|rfl<;>cases ws<;>(first|exact cW e|simp[BT.meW] at e)
 | o q =>
  rcases hm with rfl|rfl|rfl<;>cases ws<;>(first|exact cW e|simp[BT.meW] at e)
end
section
theorem qN {X:Cx}{e a:BT.E}{k:BT.Sl->BT.W->BT.HH->Option (BT.W×BT.HH)} (he:∀ s h,BT.ev F G e s h=BT.bnd (BT.ev F G a s h) (k s)) {σ:L2.St}{H:Hp}{Q:VK} (q:tD X F G e σ H Q) {R':V->Hp->Prop}
 (h1:∀ m s h x z h' v H1,RH X.K m H1 h->RS X.prog X.w X.K m H1 σ s->RW X.prog X.w X.K m H1 v x->k s x h=aa (z,h')->Post X.prog X.w X.K m H1 z h' Q->R' v H1):tD X F G a σ H R':=by
 obtain ⟨m,s,h,z,h',R,S,ee,zr⟩:=q;rw[he] at ee;obtain ⟨x,g,e1,e2⟩:=cZ ee;exact ⟨m,s,h,x,g,R,S,e1,λv H1 m1 x1 R1 r1=>h1 m1 s g x z h' v H1 R1 (S.ext x1) r1 e2 λw' H3 m3 x3 R3 r3=>zr w' H3 m3 (x1.trans x3) R3 r3⟩
theorem GZ {X:Cx}{e a:BT.E}{k:BT.Sl->Bool->BT.HH->Option (BT.W×BT.HH)}{kk:BT.Sl->BT.W->BT.HH->Option (BT.W×BT.HH)} (he:∀ s h,BT.ev F G e s h=BT.bnd (BT.ev F G a s h) (kk s))
 (hk:∀ s x h r,kk s x h=aa r->∃ b,x=.p (.bl b)/\k s b h=aa r) {σ:L2.St}{H:Hp}{Q:VK} (q:tD X F G e σ H Q) {R':Bool->Hp->Prop}
 (h1:∀ m s h b z h' H1,RH X.K m H1 h->RS X.prog X.w X.K m H1 σ s->k s b h=aa (z,h')->Post X.prog X.w X.K m H1 z h' Q->R' b H1):tDT X F G a σ H R':=by
 obtain ⟨m,s,h,z,h',R,S,ee,zr⟩:=q;rw[he] at ee;obtain ⟨x,g,e1,e2⟩:=cZ ee;obtain ⟨b,rfl,e3⟩:=hk _ _ _ _ e2;exact ⟨m,s,h,b,g,R,S,e1,λH1 m1 x1 R1=>h1 m1 s g b z h' H1 R1 (S.ext x1) e3 λw' H3 m3 x3 R3 r3=>zr w' H3 m3 (x1.trans x3) R3 r3⟩
theorem lH (r:RW P w K m H v (.p (.bl b))):v=.bl b:=by cases r with|p r=>cases r;rfl
theorem vL (e:BT.CY eb x h=aa r):∃ b,x=.p (.bl b)/\(if b=ah then eb h else aa (.p (.bl ai),h))=aa r:=by
 cases x with
 | p d =>
  cases d<;>simp only[BT.CY] at e<;>try contradiction
  exact ⟨_,rfl,e⟩
 | _=>exact cW e
theorem Ai (e:BT.kOr eb x h=aa r):∃ b,x=.p (.bl b)/\(if b=ah then aa (.p (.bl ah),h) else eb h)=aa r:=by
 cases x with
 | p d =>
  cases d<;>simp only[BT.kOr] at e<;>try contradiction
  exact ⟨_,rfl,e⟩
 | _=>exact cW e
theorem Dl (e:BT.CZ ea eb x h=aa r):∃ b,x=.p (.bl b)/\(if b=ah then ea h else eb h)=aa r:=by
 cases x with
 | p d =>
  cases d<;>simp only[BT.CZ] at e<;>try contradiction
  exact ⟨_,rfl,e⟩
 | _=>exact cW e
theorem vM (e:BT.CW x h=aa r):∃ b,x=.p (.bl b)/\r=(.p (.bl (!b)),h):=by
 cases x with
 | p d =>
  cases d<;>simp only[BT.CW] at e<;>try contradiction
  cases e;exact ⟨_,rfl,rfl⟩
 | _=>exact cW e
theorem Dm (e:BT.CV x h=aa r):∃ i,x=.p (.int i)/\r=(.p (.int (-i)),h):=by
 cases x with
 | p d =>
  cases d<;>simp only[BT.CV] at e<;>try contradiction
  cases e;exact ⟨_,rfl,rfl⟩
 | _=>exact cW e
theorem vN {X:Cx}{a b:BT.E} (σ:L2.St) (H:Hp) (Q:VK) (q:tD X F G (.and a b) σ H Q):EV (tD X F G a) (tD X F G b) σ H Q:=by
 refine qN (k:=λs=>BT.CY (BT.ev F G b s)) (λs h=>by simp only[BT.ev]) q λm s h x z h' v H1 R S r e zr=>?_;obtain ⟨c,rfl,e2⟩:=vL e;refine ⟨c,lH r,?_⟩;cases c with
 | true=>rw[if_pos rfl] at e2 ⊢;exact ⟨m,s,h,z,h',R,S,e2,zr⟩| false=>rw[if_neg (by decide)] at e2 ⊢;cases e2;exact zr.here R (.bl _)
theorem Aj {X:Cx}{a b:BT.E} (σ:L2.St) (H:Hp) (Q:VK) (q:tD X F G (.or a b) σ H Q):Jz (tD X F G a) (tD X F G b) σ H Q:=by
 refine qN (k:=λs=>BT.kOr (BT.ev F G b s)) (λs h=>by simp only[BT.ev]) q λm s h x z h' v H1 R S r e zr=>?_;obtain ⟨c,rfl,e2⟩:=Ai e;refine ⟨c,lH r,?_⟩;cases c with
 | true=>rw[if_pos rfl] at e2 ⊢;cases e2;exact zr.here R (.bl _)| false=>rw[if_neg (by decide)] at e2 ⊢;exact ⟨m,s,h,z,h',R,S,e2,zr⟩
theorem vO (σ:L2.St) (H:Hp) (Q:Bool->Hp->Prop) (q:tDT X F G (.and a b) σ H Q):Jx (tDT X F G a) (tDT X F G b) σ H Q:=by
 obtain ⟨m,s,h,c,h',R,S,ee,zr⟩:=q;simp only[BT.ev] at ee;obtain ⟨x,g,e1,e2⟩:=cZ ee;obtain ⟨d,rfl,e3⟩:=vL e2;refine ⟨m,s,h,d,g,R,S,e1,λH1 m1 x1 R1=>?_⟩;cases d with
 | true=>rw[if_pos rfl] at e3 ⊢;exact ⟨m1,s,g,c,h',R1,S.ext x1,e3,λH2 m2 x2 R2=>zr H2 m2 (x1.trans x2) R2⟩| false=>rw[if_neg (by decide)] at e3 ⊢;cases e3;exact zr H1 m1 x1 R1
theorem Ak (σ:L2.St) (H:Hp) (Q:Bool->Hp->Prop) (q:tDT X F G (.or a b) σ H Q):tOr (tDT X F G a) (tDT X F G b) σ H Q:=by
 obtain ⟨m,s,h,c,h',R,S,ee,zr⟩:=q;simp only[BT.ev] at ee;obtain ⟨x,g,e1,e2⟩:=cZ ee;obtain ⟨d,rfl,e3⟩:=Ai e2;refine ⟨m,s,h,d,g,R,S,e1,λH1 m1 x1 R1=>?_⟩;cases d with
 | true=>rw[if_pos rfl] at e3 ⊢;cases e3;exact zr H1 m1 x1 R1| false=>rw[if_neg (by decide)] at e3 ⊢;exact ⟨m1,s,g,c,h',R1,S.ext x1,e3,λH2 m2 x2 R2=>zr H2 m2 (x1.trans x2) R2⟩
theorem Dn (σ:L2.St) (H:Hp) (Q:Bool->Hp->Prop) (q:tDT X F G (.not a) σ H Q):Jy (tDT X F G a) σ H Q:=by obtain ⟨m,s,h,c,h',R,S,ee,zr⟩:=q;simp only[BT.ev] at ee;obtain ⟨x,g,e1,e2⟩:=cZ ee;obtain ⟨d,rfl,e3⟩:=vM e2;cases e3;exact ⟨m,s,h,d,h',R,S,e1,λH1 m1 x1 R1=>zr H1 m1 x1 R1⟩
theorem Do {X:Cx}{a:BT.E} (σ:L2.St) (H:Hp) (Q:VK) (q:tD X F G (.not a) σ H Q):EW (tD X F G a) σ H Q:=by refine qN (k:=λs=>BT.CW) (λs h=>by simp only[BT.ev]) q λm s h x z h' v H1 R S r e zr=>?_;obtain ⟨c,rfl,e2⟩:=vM e;cases e2;exact ⟨c,lH r,zr.here R (.bl _)⟩
theorem G0 {X:Cx}{c a b:BT.E} (σ:L2.St) (H:Hp) (Q:VK) (q:tD X F G (.ite c a b) σ H Q):tIf (tDT X F G c) (tD X F G a) (tD X F G b) σ H Q:=by
 refine GZ (k:=λs t h=>if t=ah then BT.ev F G a s h else BT.ev F G b s h) (kk:=λs=>BT.CZ (BT.ev F G a s) (BT.ev F G b s)) (λs h=>by simp only[BT.ev]) (λs x h r e=>Dl e) q λm s h t z h' H1 R S e zr=>?_;cases t with
 | true=>rw[if_pos rfl] at e ⊢;exact ⟨m,s,h,z,h',R,S,e,zr⟩| false=>rw[if_neg (by decide)] at e ⊢;exact ⟨m,s,h,z,h',R,S,e,zr⟩
theorem G1 {X:Cx}{a:BT.E} (σ:L2.St) (H:Hp) (Q:VK) (q:tD X F G (.neg a) σ H Q):tUn (rU λi=>.int (-i)) (tD X F G a) σ H Q:=by refine qN (k:=λs=>BT.CV) (λs h=>by simp only[BT.ev]) q λm s h x z h' v H1 R S r e zr=>?_;obtain ⟨c,rfl,e2⟩:=Dm e;cases e2;cases r with|p r=>cases r;exact ⟨c,rfl,zr.here R (.int _)⟩
theorem sO (σ:L2.St) (H:Hp) (Q:VK) (q:tD X F G (.chain o o' a b c) σ H Q) :
 ua (rOp X.prog X.w X.K (BT.kL o)) (rOp X.prog X.w X.K (BT.kL o')) (tD X F G a) (tD X F G b) (tD X F G c) σ H Q:=by
 obtain ⟨m,s,h,z,h',R,S,ee,zr⟩:=q;simp only[BT.ev] at ee;obtain ⟨x,h1,e1,e2⟩:=cZ ee;simp only[BT.k2] at e2;obtain ⟨y,h2,e3,e4⟩:=cZ e2;refine ⟨m,s,h,x,h1,R,S,e1,λv H1 m1 x1 R1 r1=>?_⟩;refine ⟨m1,s,h1,y,h2,R1,S.ext x1,e3,λu H2 m2 x2 R2 r2=>?_⟩;unfold BT.oCh at e4;cases g1:BT.rd x h2 with
 | none=>rw[g1] at e4;exact cW e4
 | some d =>
  cases y with
  | p d' =>
   rw[g1] at e4;simp only at e4;have ho:∀ (o:BT.Cm) (x':BT.W) (hh:BT.HH) dd,BT.rd x' hh=aa dd->∀ y' dd',BT.rd y' hh=aa dd'->BT.kL o x' y' hh=(BT.fN o dd dd').map λz=>(.p (.bl z),hh):=by
    intro o x' hh dd q1 y' dd' q2;unfold BT.kL;cases y' with
    | p _=>simp only[q1,q2]| r _=>simp only[q1,q2]| _=>exact cW q2
   cases g3:BT.fN o d d' with
   | none=>rw[g3] at e4;exact cW e4
   | some t =>
    rw[g3] at e4;refine ⟨m2,h2,x,.p d',.p (.bl t),h2,R2,r1.ext x2,r2,by rw[ho o x h2 d g1 (.p d') d' rfl,g3];rfl,λv3 H3 m3 x3 R3 r3=>⟨t,lH r3,?_⟩⟩;cases t with
    | false =>
     rw[if_neg (by decide)];cases e4;exact zr _ H3 m3 ((x1.trans x2).trans x3) R3 (.p (.bl _))
    | true =>
     rw[if_pos rfl];obtain ⟨w3,h3,e5,e6⟩:=cZ e4;refine ⟨m3,s,h2,w3,h3,R3,((S.ext x1).ext x2).ext x3,e5,λv4 H4 m4 x4 R4 r4=>?_⟩;unfold BT.Ks at e6;cases g4:BT.rd w3 h3 with
     | none=>rw[g4] at e6;exact cW e6
     | some f =>
      rw[g4] at e6;simp only at e6;refine ⟨m4,h3,.p d',w3,z,h',R4,(r2.ext x3).ext x4,r4,by rw[ho o' (.p d') h3 d' rfl w3 f g4];exact e6,λv5 H5 m5 x5 R5 r5=>zr v5 H5 m5 ((((x1.trans x2).trans x3).trans x4).trans x5) R5 r5⟩
  | _=>rw[g1] at e4;exact cW e4
theorem G2 {lo:BT.Es} (hl:∀ σ H (Q:Option Int->Hp->Prop),(∃ m s h l zs h',RH X.K m H h/\RS X.prog X.w X.K m H σ s/\BT.evs F G lo s h=aa (zs,h')/\(BT.dP zs).bind BT.qk=aa l/\∀ H' m',Ext m H m' H'->RH X.K m' H' h'->Q l H')->tl σ H Q)
 (hh:∀ σ H (Q:Option Int->Hp->Prop),(∃ m s h l zs h',RH X.K m H h/\RS X.prog X.w X.K m H σ s/\BT.evs F G hi s h=aa (zs,h')/\(BT.dP zs).bind BT.qk=aa l/\∀ H' m',Ext m H m' H'->RH X.K m' H' h'->Q l H')->th σ H Q)
 (σ:L2.St) (H:Hp) (Q:VK) (q:tD X F G (.slc a lo hi) σ H Q):tSl (rSl X.prog X.w X.K) (tD X F G a) tl th σ H Q:=by
 obtain ⟨m,s,h,z,h',R,S,ee,zr⟩:=q;simp only[BT.ev] at ee;obtain ⟨x,h1,e1,e2⟩:=cZ ee;simp only[BT.Kw] at e2;obtain ⟨ls,h2,e3,e4⟩:=cZ e2;simp only[BT.Kv] at e4;obtain ⟨us,h3,e5,e6⟩:=cZ e4;unfold BT.Ku at e6;cases g1:BT.rd x h3 with
 | none=>rw[g1] at e6;exact cW e6
 | some d =>
  cases g2:(BT.dP ls).bind BT.qk with
  | none=>rw[g1,g2] at e6;exact cW e6
  | some l =>
   cases g3:(BT.dP us).bind BT.qk with
   | none=>rw[g1,g2,g3] at e6;exact cW e6
   | some u =>
    rw[g1,g2,g3] at e6;simp only at e6;obtain ⟨b,e7,e8⟩:=dH e6;cases e8;refine ⟨m,s,h,x,h1,R,S,e1,λv H1 m1 x1 R1 r1=>hl σ H1 _ ⟨m1,s,h1,l,ls,h2,R1,S.ext x1,e3,g2,λH2 m2 x2 R2=>hh σ H2 _ ⟨m2,s,h2,u,us,h',R2,(S.ext x1).ext x2,e5,g3,λH3 m3 x3 R3=>?_⟩⟩⟩;exact ⟨m3,h',x,d,b,R3,(r1.ext x2).ext x3,g1,e7,λv5 H5 m5 x5 R5 r5=>zr v5 H5 m5 (((x1.trans x2).trans x3).trans x5) R5 r5⟩
end
section
theorem vP (hs:sp=spF X.prog X.w X.K (F (.f f))) (q:tD X F G (.call f as) σ H Q):vj sp [] E0 (tDs X F G as) σ H Q:=by subst hs;refine kU (k:=λws h=>F (.f f) ws h) (λs h=>by simp only[BT.ev]) q λm h xs z h' vs H1 R r e zr=>?_;rw[Rf];exact ⟨m,xs,h,z,h',R,r,e,zr⟩
theorem jW (q:tDs X F G .nil σ H Q):yT σ H Q:=by obtain ⟨m,s,h,zs,h',R,S,ee,zr⟩:=q;simp only[BT.evs] at ee;cases ee;exact zr [] H m (.refl _ _) R .nil
theorem Al (O:Ok X F G sc N) (hg:dX sc f=ah) (hn:fB f=ah) (hc:CEs sc N as es) (ha:PA X es (tDs X F G as)) :
 PE X (.Call (.Name f p) es [] pos) (tD X F G (.call f as)):=by
 have hst:=gO hc;intro zt s σ H Q I q;have q0:=q;obtain ⟨m,s',h,z,h',R,S,ee,zr⟩:=q;simp only[BT.ev] at ee;obtain ⟨ws,h1,e1,e2⟩:=cZ ee;obtain ⟨fa,fd,ps,k,hm,hk,hb,hr,ok⟩:=O.call _ _ _ _ e2;cases es with
 | nil =>
  cases as with
  | cons a r=>exact (nN hc).elim| nil=>exact (PE.weak (yX ok hr (eN O hg) hm hk hb .nil m7 (gq hn).1) (fun σ H Q z=>jW (vP (X:=X) rfl z))) zt s σ H Q I q0
 | cons e es =>
  simp only[dj,PZ] at hst;exact (PE.weak (Ct ok hr (eN O hg) hm hk hb .nil m7 ha (gq hn).1 (dg hst.1) (dY hst.2)) (fun σ H Q z=>vP rfl z)) zt s σ H Q I q0
theorem qO {id:String} (pa:PlainAttrs T) (slot:Slot T name id)
 (hty:typeOf (.builtin id)=pure (.type "method_descriptor")) (hm:MtR X id (rMe X.prog X.w X.K me)) (hb:dW oe=ah) (hl:(apos.endLine==cpos.line)=ah) (hlen:es.length < 20) (ho:PE X oe (tD X F G o)) (hc:CEs sc N as es) (ha:PA X es (tDs X F G as))
 (ty:∀ (m:List P4) (h h2:BT.HH) (H:Hp) (v:V) (x:BT.W) ws r,RH X.K m H h->RW X.prog X.w X.K m H v x->BT.mj x h=ah->BT.meW me x ws h2=aa r->(∃ σ s,RS X.prog X.w X.K m H σ s/\∃ h0,BT.ev F G o s h0=aa (x,h))->tyV X.K T v H) :
 PE X (.Call (.Attribute oe name apos) es [] cpos) (tD X F G (.me me o as)):=by
 have hst:=gO hc;have key:∀ σ H Q,tD X F G (.me me o as) σ H Q->tBM X.K T (rMe X.prog X.w X.K me) (tD X F G o) (tDs X F G as) σ H Q:=by intro σ H Q q;obtain ⟨m,s,h,z,h',R,S,ee,zr⟩:=q;simp only[BT.ev] at ee;obtain ⟨x,h1,e1,e2⟩:=cZ ee;obtain ⟨ok,e2⟩:=vK e2;obtain ⟨ws,h2,e3,e4⟩:=cZ e2;refine ⟨m,s,h,x,h1,R,S,e1,λv H1 m1 x1 R1 r1=>⟨ty m1 h1 h2 H1 v x ws _ R1 r1 ok e4 ⟨σ,s,S.ext x1,h,e1⟩,m1,s,h1,ws,h2,R1,S.ext x1,e3,λvs H2 m2 x2 R2 r2=>?_⟩⟩;exact ⟨m2,h2,x,ws,z,h',R2,r1.ext x2,r2,e4,λv5 H5 m5 x5 R5 r5=>zr v5 H5 m5 ((x1.trans x2).trans x5) R5 r5⟩
 cases es with
 | nil =>
  cases as with
  | cons a r=>exact (nN hc).elim
  | nil =>
   refine PE.weak (Gc pa slot hty hm ho (kT hb) hl) fun σ H Q q=>?_;obtain ⟨m,s,h,z,h',R,S,ee,zr⟩:=key σ H Q q;exact ⟨m,s,h,z,h',R,S,ee,λv H1 m1 x1 R1 r1=>⟨(zr v H1 m1 x1 R1 r1).1,jW (zr v H1 m1 x1 R1 r1).2⟩⟩
 | cons e es =>
  simp only[dj,PZ] at hst;refine PE.weak (zd pa slot hty hm ho ha (kT hb) ?_ hl (dg hst.1) (dY hst.2)) key;rw[jG (es:=e::es) (by simp only[dj,PZ];exact hst)];have h30:decide ((e::es).length+([]:List Ui).length+(if ([]:List Ui).isEmpty then 0 else 1) < 30)=ah:=decide_eq_true (by
   simp only[P9,QJ,List.isEmpty_nil,if_true] at hlen ⊢;lia)
  rw[h30];rfl
theorem l6 (q:tD X F G (.bi b mu as) σ H Q):tCB (rBi X.prog X.w X.K b mu) (tDs X F G as) σ H Q:=by refine kU (k:=λws h=>BT.kBi b mu ws h) (λs h=>by simp only[BT.ev]) q λm h xs z h' vs H1 R r e zr=>?_;exact ⟨m,h,xs,z,h',R,r,e,zr⟩
theorem G3 (O:Ok X F G sc N) (hu:gR N=ah) (hb:Fd b mu x=ah) (hg:dX sc x=ah) (hst:dj (e::es)=ah) (ha:PA X (e::es) (tDs X F G as)) :
 PE X (.Call (.Name x p) (e::es) [] pos) (tD X F G (.bi b mu as)):=by
 simp only[dj,PZ] at hst;have hx:zK b mu=aa x:=eq_of_beq hb;have hB:=O.blt;cases b<;>cases mu<;>first|exact cW hx|(change aa _=aa _ at hx)
 all_goals (cases hx)
 exact PE.weak (jt GV (eN O hg) (hB _ (by decide)) PySem.boot_len ha (by decide) (by decide) (dg hst.1) (dY hst.2)) (fun σ H Q z=>l6 z);exact PE.weak (jQ GW (eN O hg) (hB _ (by decide)) (by decide +kernel) ha (by decide) (by decide) (dg hst.1) (dY hst.2)) (fun σ H Q z=>l6 z);exact PE.weak (jQ vI (eN O hg) (hB _ (by decide)) (by decide +kernel) ha (by decide) (by decide) (dg hst.1) (dY hst.2)) (fun σ H Q z=>l6 z);exact PE.weak (jQ vI (eN O hg) (hB _ (by decide)) (by decide +kernel) ha (by decide) (by decide) (dg hst.1) (dY hst.2)) (fun σ H Q z=>l6 z);exact PE.weak (jQ Ab (eN O hg) (hB _ (by decide)) (by decide +kernel) ha (by decide) (by decide) (dg hst.1) (dY hst.2)) (fun σ H Q z=>l6 z);exact PE.weak (jt (Df (O.calm hu)) (eN O hg) (hB _ (by decide +kernel)) (by decide +kernel) ha (by decide) (by decide) (dg hst.1) (dY hst.2)) (fun σ H Q z=>l6 z)
theorem xT (hb:sG b=aa (c,f)):gj X (.builtin "isinstance") (λvs H Q=>∃ v,vs=[v,.ty c]/\rBi X.prog X.w X.K b ai [v] H Q):=by
 intro zt s σ H vs us Q I rus h;obtain ⟨v,rfl,m,h,ws,z,h',R,rws,e,zr⟩:=h;obtain ⟨u,u2,rfl,ru,ru2⟩:=rus.two;cases ru2;obtain ⟨ds,d,e1,e2,⟨_,rfl,rfl⟩|⟨_,q,_⟩⟩:=jE e
 ·have rr:=i6 R rws e1;cases rr with
  | cons r t =>
   cases t;rw[Ad hb] at e2;cases e2;exact Dg I r ru (Ae hb X.K _) λtk=>⟨.bl _,H,I.tok tk,rfl,zr.here R (.bl _)⟩
 exact BT.eW q
theorem Am (O:Ok X F G sc N) (hb:sG b=aa (c,f)) (hg:dX sc "isinstance"=ah) (hg2:dX sc (Qd c)=ah) (hst:noStar e=ah) (ha:PE X e (tD X F G a)) :
 PE X (.Call (.Name "isinstance" p) [e,.Name (Qd c) p2] [] pos) (tD X F G (.bi b ai (.cons a .nil))):=by
 have hB:=O.blt;have hc:PE X (.Name (Qd c) p2) (tC (.ty c)):=by
  cases b<;>simp only[sG] at hb<;>try contradiction
  all_goals (cases hb)
  exact mG (eN O hg2) (hB _ (by decide)) (u:=.type "int") (by decide +kernel) rfl (by decide) (by decide);exact mG (eN O hg2) (hB _ (by decide)) (u:=.type "bool") (by decide +kernel) rfl (by decide) (by decide);exact mG (eN O hg2) (hB _ (by decide)) (u:=.type "str") (by decide +kernel) rfl (by decide) (by decide);exact mG (eN O hg2) (hB _ (by decide)) (u:=.type "tuple") (by decide +kernel) rfl (by decide) (by decide)
 refine PE.weak (jt (xT hb) (eN O hg) (hB _ (by decide)) (by decide +kernel) (jP ha (jP hc qf) (dg hst)) (by decide) (by decide) (dg hst) rfl) fun σ H Q q=>?_;obtain ⟨m,s,h,z,h',R,S,ee,zr⟩:=q;simp only[BT.ev,BT.evs] at ee;obtain ⟨ws,h1,e1,e2⟩:=cZ ee;obtain ⟨x,h2,e3,e4⟩:=cZ e1;simp only[BT.j3,BT.dQ,BT.gQ] at e4;cases e4;refine ⟨m,s,h,x,h1,R,S,e3,λv H1 m1 x1 R1 r1=>?_⟩;exact ⟨v,rfl,m1,h1,[x],z,h',R1,.cons r1 .nil,e2,λv5 H5 m5 x5 R5 r5=>zr v5 H5 m5 (x1.trans x5) R5 r5⟩
theorem G4 (σ:L2.St) (H:Hp) (Q:VK) (q:tD X F G (.tup as) σ H Q):JV (tDs X F G as) σ H Q:=by
 refine kU (k:=λws h=>BT.Gu ws h) (λs h=>by simp only[BT.ev]) q λm h xs z h' vs H1 R r e zr=>?_;unfold BT.Gu at e;cases g:BT.dP xs with
 | none=>rw[g] at e;exact cW e
 | some ds =>
  rw[g] at e;simp only at e;obtain ⟨c,e⟩:=dG e;cases e;have rd:=r.pure g;have:=fP;have hl:=rd.length;exact ⟨by lia,λp hp=>kP R hp rd zr⟩
theorem G5 (σ:L2.St) (H:Hp) (Q:VK) (q:tD X F G (.lst mu as) σ H Q):F5 (tDs X F G as) σ H Q:=by
 refine kU (k:=λws h=>BT.Gv mu ws h) (λs h=>by simp only[BT.ev]) q λm h xs z h' vs H1 R r e zr=>?_;unfold BT.Gv at e;cases g:BT.dP xs with
 | none=>rw[g] at e;exact cW e
 | some ds =>
  rw[g] at e;simp only at e;split at e
  ·rename_i c;have rd:=r.pure g;have:=fP;have hl:=rd.length;have ez:BT.new mu ds h=(z,h'):=P5 e;exact ⟨by lia,λp hp=>qE (mu:=mu) R hp rd (by rw[ez];exact zr)⟩
  exact cW e
theorem cons_of (σ:L2.St) (H:Hp) (Q:List V->Hp->Prop) (q:tDs X F G (.cons a as) σ H Q):EZ (tD X F G a) (tDs X F G as) σ H Q:=by obtain ⟨m,s,h,zs,h',R,S,ee,zr⟩:=q;simp only[BT.evs] at ee;obtain ⟨x,h1,e1,e2⟩:=cZ ee;simp only[BT.j3] at e2;obtain ⟨xs,h2,e3,e4⟩:=cZ e2;simp only[BT.gQ] at e4;cases e4;exact ⟨m,s,h,x,h1,R,S,e1,λv H1 m1 x1 R1 r1=>⟨m1,s,h1,xs,h',R1,S.ext x1,e3,λvs H2 m2 x2 R2 r2=>zr _ H2 m2 (x1.trans x2) R2 (.cons (r1.ext x2) r2)⟩⟩
end
section
variable {K:PP}
theorem RFs.get:∀ {vs:List (aB×V)}{fs:List (aB×BT.W)},RFs K m H vs fs->BT.dU f fs=aa x->∃ v,vs.lookup f=aa v/\RA K m H v x
 | _,_,.nil,e=>by exact cW e
 | _,_,.cons (f:=g) r t,e=>by
  rw[BT.pN] at e
  by_cases c:f=g
  rw[if_pos c] at e;cases e;subst c;exact ⟨_,by simp,r⟩
  ·rw[if_neg c] at e;obtain ⟨v,h1,h2⟩:=RFs.get t e;exact ⟨v,by rw[Rn];rw[beq_false_of_ne c];exact h1,h2⟩
theorem RFs.none:∀ {vs:List (aB×V)}{fs:List (aB×BT.W)},RFs K m H vs fs->(BT.dU f fs).isNone=ah->vs.lookup f=af
 | _,_,.nil,_=>rfl
 | _,_,.cons (f:=g) r t,e=>by
  rw[BT.pN] at e
  by_cases c:f=g
  rw[if_pos c] at e;exact BT.eW e
  ·rw[if_neg c] at e;rw[Rn,beq_false_of_ne c];exact RFs.none t e
theorem RFs.put (q:RA K m H v x):∀ {vs:List (aB×V)}{fs:List (aB×BT.W)},RFs K m H vs fs->RFs K m H (L2.eH f v vs) (BT.eH f x fs)
 | _,_,.nil=>.cons q .nil
 | _,_,.cons (f:=g) r t=>by
  rw[L2.eH,BT.xE]
  by_cases c:f=g
  rw[if_pos c,if_pos c.symm];subst c;exact .cons q t;rw[if_neg c,if_neg (QW c)];exact .cons r (RFs.put q t)
theorem RFs.length:∀ {vs:List (aB×V)}{fs:List (aB×BT.W)},RFs K m H vs fs->vs.length=fs.length
 | _,_,.nil=>rfl
 | _,_,.cons _ t=>by rw[P9,P9,RFs.length t]
end
section
theorem Dp (e:BT.C1 f x h=aa r):∃ n c fs w,x=.o n/\BT.oat h n=aa (c,fs)/\BT.dU f fs=aa w/\r=(w,h):=by
 cases x with
 | o n =>
  rw[BT.Gx] at e;cases g:BT.oat h n with
  | none=>rw[g] at e;exact cW e
  | some q =>
   obtain ⟨c,fs⟩:=q;rw[g] at e;obtain ⟨w,e1,e2⟩:=dH e;exact ⟨n,c,fs,w,rfl,g,e1,e2.symm⟩
 | _=>exact cW e
theorem Dq {sc:QX}{N:List aB} (hb:dW x=ah) (hf:attrName f=ah) (ha:PE X x (tD X F G a)):PE X (.Attribute x f p) (tD X F G (.fld a f)):=by
 refine PE.weak (F3 ha (kT hb)) fun σ H Q q=>?_;refine Fg (k:=BT.C1 f) (λs h=>by simp only[BT.ev]) q λm h x z h' v H1 R r e zr=>?_;obtain ⟨n,c,fs,w,rfl,e1,e2,e3⟩:=Dp e;cases e3;cases r with
 | o hn =>
  obtain ⟨C,dx,vs,h1,h2,h3⟩:=R.sL _ _ _ _ hn e1;obtain ⟨u,l,ra⟩:=h3.get e2;exact ⟨_,C,dx,vs,u,rfl,h1,h2.cls,h2.no f hf,l,zr u H1 m (.refl _ _) R ra.rw⟩
theorem lI (hb:dW o=ah) (hst:dj args=ah) (hlen:args.length < 20) (hl:(apos.endLine==pos.line)=ah) :
 eval (.Call (.Attribute o m apos) args [] pos) env=(do
  let ov ← eval o env
  Vl apos.atName
  let (f,first) ← TR [ov] (Vm ov m (do return (← importBound o env).getD ah))
  callWith pos f first (SL pos (QC args env)) (Vd pos (TQ [] env))):=by
 have hf:methodCallForm (args.length+([]:List Ui).length) (SL pos (QC args env)) (Vd pos (TQ [] env))=ah:=by
  unfold methodCallForm;have h30:decide (args.length+([]:List Ui).length+(if (Vd pos (TQ [] env)).isEmpty then 0 else 1) < 30)=ah:=decide_eq_true (by
   show args.length+0+0 < 30;lia)
  rw[h30,jG hst];rfl
 rw[arm_eval_Call,kT hb];unfold methodCall;rw[hf];have hp:methodCallPos ah o env apos pos=pure pos:=by unfold methodCallPos;rw[hl];rfl
 rw[hp];rfl
theorem An (e:BT.zu F m ea x h=aa r) :
 ∃ n c fs ws g,x=.o n/\BT.oat h n=aa (c,fs)/\(BT.dU m fs).isNone=ah/\ea h=aa (ws,g)/\F (.m c m) (.o n::ws) g=aa r:=by
 cases x with
 | o n =>
  rw[BT.C2] at e;cases g:BT.oat h n with
  | none=>rw[g] at e;exact cW e
  | some q =>
   obtain ⟨c,fs⟩:=q;rw[g] at e;simp only at e;split at e
   ·rename_i c1;obtain ⟨ws,g2,e1,e2⟩:=cZ e;exact ⟨n,c,fs,ws,g2,rfl,g,c1,e1,e2⟩
   exact cW e
 | _=>exact cW e
theorem Ao (O:Ok X F G sc N) (hb:dW oe=ah) (hl:(apos.endLine==cpos.line)=ah) (hlen:es.length < 20) (ho:PE X oe (tD X F G o)) (hc:CEs sc N as es) (ha:PA X es (tDs X F G as)) :
 PE X (.Call (.Attribute oe m apos) es [] cpos) (tD X F G (.meth o m as)):=by
 have hst:=gO hc;intro zt s σ H Q I q;obtain ⟨m0,s',h,z,h',R,S,ee,zr⟩:=q;simp only[BT.ev] at ee;obtain ⟨x,h1,e1,e2⟩:=cZ ee;obtain ⟨n,c,fs,ws,g,rfl,e3,e4,e5,e6⟩:=An e2;obtain ⟨C,ga,fd,ps,k,hC,hM,hB,hR,ok⟩:=O.meth _ _ _ _ _ e6;have key:yV C m (spF X.prog X.w X.K (F (.m c m))) [] E0 (tD X F G o) (tDs X F G as) σ H Q:=by
  refine ⟨m0,s',h,.o n,h1,R,S,e1,λv H1 m1 x1 R1 r1=>?_⟩;cases r1 with
  | @o a _ hn =>
   obtain ⟨C',dx,vs,q1,q2,q3⟩:=R1.sL _ _ _ _ hn e3;cases q2.cn.inj hC.cn;refine ⟨a,dx,vs,rfl,q1,q3.none e4,m1,s',h1,ws,g,R1,S.ext x1,e5,λus H2 m2 x2 R2 r2=>?_⟩;show spF X.prog X.w X.K (F (.m c m)) (V.ref a::(us++[])) H2 Q E0;rw[Rf];exact ⟨m2,.o n::ws,g,z,h',R2,.cons (.o (x2.ix hn)) r2,e6,λv5 H5 m5 x5 R5 r5=>zr v5 H5 m5 ((x1.trans x2).trans x5) R5 r5⟩
 cases es with
 | nil =>
  cases as with
  | cons a r=>exact (nN hc).elim
  | nil =>
   refine yY ho hC.cls hM ok hR hB .nil m7 (lI hb hst hlen hl) zt s σ H Q I ?_;obtain ⟨m,s,h,z,h',R,S,ee,zr⟩:=key;refine ⟨m,s,h,z,h',R,S,ee,λv H1 m1 x1 R1 r1=>?_⟩;obtain ⟨a,dx,fs,q1,q2,q3,q4⟩:=zr v H1 m1 x1 R1 r1;exact ⟨a,dx,fs,q1,q2,q3,jW q4⟩
 | cons e es =>
  have hst':=hst;simp only[dj,PZ] at hst';exact Cu ho hC.cls hM ok hR hB .nil m7 ha (dg hst'.1) (dY hst'.2) (lI hb hst hlen hl) zt s σ H Q I key
theorem Aq (O:Ok X F G sc N) (hg:dX sc c=ah) (hn:fB c=ah) (hc:CEs sc N as es) (ha:PA X es (tDs X F G as)) :
 PE X (.Call (.Name c p) es [] pos) (tD X F G (.make c as)):=by
 have hst:=gO hc;intro zt s σ H Q I q;obtain ⟨m0,s',h,z,h',R,S,ee,zr⟩:=q;simp only[BT.ev] at ee;obtain ⟨ws,h1,e1,e2⟩:=cZ ee;rw[BT.zx] at e2;obtain ⟨y,h2,e3,e4⟩:=cZ e2;have e5:y=.p .non/\(z,h')=(.o h1.length,h2):=by
  cases y with
  | p d=>cases d<;>simp[BT.vC] at e4;exact ⟨rfl,by rw[e4.1,e4.2]⟩| _=>exact cW e4
 obtain ⟨rfl,e5⟩:=e5;cases e5;obtain ⟨C,ga,fd,ps,k,hC,hmg,hM,hB,hR,ok⟩:=O.mkc _ _ _ _ e3;have key:yW C (spF X.prog X.w X.K (F (.m c "__init__"))) [] E0 (tDs X F G as) σ H Q:=by
  refine ⟨m0,s',h,ws,h1,R,S,e1,λus H1 m1 x1 R1 r1 x dx nx ndx ne=>?_⟩;rw[Rf];have xa:Ext m1 H1 m1 (upd H1 dx (.own x)):=jS ndx;have Ra:RH X.K m1 (upd H1 dx (.own x)) h1:=R1.new ndx;have nx':upd H1 dx (.own x) x=af:=by rw[dD (QW ne)];exact nx
  have xb:Ext m1 (upd H1 dx (.own x)) (m1++[x]) (upd (upd H1 dx (.own x)) x (.ins C dx [])):=iO nx';have Rb:RH X.K (m1++[x]) (upd (upd H1 dx (.own x)) x (.ins C dx [])) (h1++[.o c []]):=Ra.GM nx' ⟨C,dx,[],ef,hC,.nil⟩;have ix:(m1++[x])[h1.length]?=aa x:=by rw[← R1.len];simp
  refine ⟨m1++[x],.o h1.length::ws,h1++[.o c []],.p .non,h',Rb,.cons (.o ix) (r1.ext (xa.trans xb)),e3,λv H2 m2 x2 R2 r2=>?_⟩;cases r2 with
  | p r2 =>
   cases r2;exact ⟨rfl,zr _ H2 m2 (((x1.trans xa).trans xb).trans x2) R2 (.o (x2.ix ix))⟩
 cases es with
 | nil =>
  cases as with
  | cons a r=>exact (nN hc).elim
  | nil =>
   refine yZ hM ok hR (eN O hg) hmg hB .nil m7 (gq hn).1 zt s σ H Q I ?_;exact jW key
 | cons e es =>
  simp only[dj,PZ] at hst;exact Cv hM ok hR (eN O hg) hmg hB .nil m7 ha (gq hn).1 (dg hst.1) (dY hst.2) zt s σ H Q I key
def G6 (o:BT.Bin):TIp:=λx y H Q=>∃ i j z,x=.int i/\y=.int j/\BT.ng o (.int i) (.int j)=aa (.int z)/\Q (.int z) H
noncomputable def Ar:BT.Bin->Tc->Bool
 | .add,.Add=>ah| .sub,.Sub=>ah| .mul,.Mult=>ah| _,_=>ai
theorem vQ (h:Ar o op=ah):PIp X op (G6 o):=by
 rintro zt s σ H x y u v Q I rx ry ⟨i,j,z,rfl,rfl,e,q⟩
 obtain ⟨t,rfl⟩:=(show ∃ t,u=Ud i t from rx);obtain ⟨t',rfl⟩:=(show ∃ t',v=Ud j t' from ry);cases o<;>cases op<;>cases h;cases e;exact PyProof.Rows.iadd_int ⟨.int (i+j),H,I.tok _,⟨_,rfl⟩,q⟩;cases e;exact PyProof.Rows.isub_int ⟨.int (i - j),H,I.tok _,⟨_,rfl⟩,q⟩
 ·rw[BT.sj] at e;obtain ⟨c,e⟩:=dG e;cases e;have hc:Cj i j:=by
   rcases So _ _ ▸ c with c|c
   exact .inl (qH c);exact .inr (qH c)
  exact PyProof.Rows.imul_int ⟨.int (i*j),H,I.tok _,⟨_,rfl⟩,q⟩ hc.ok
theorem vR (h:BT.ng o d e=aa z):∃ i j k,d=.int i/\e=.int j/\z=.int k:=by
 cases d with
 | int i =>
  cases e with
  | int j =>
   refine ⟨i,j,?_⟩;cases o with
   | add=>exact ⟨_,rfl,rfl,(P5 h).symm⟩| sub=>exact ⟨_,rfl,rfl,(P5 h).symm⟩
   | mul =>
    rw[BT.sj] at h;split at h;exact ⟨_,rfl,rfl,(P5 h).symm⟩;exact cW h
   | _=>exact cW h
  | _=>cases o<;>exact cW h
 | _=>cases o<;>exact cW h
end
section
variable {K:PP}
end
theorem lJ (r:dw vs us):∀ l:List Nat,dw (l.filterMap λi=>vs[i]?) (l.filterMap λi=>us[i]?)
 | []=>.nil
 | i::l=>by
  rw[Qv,Qv];cases g:vs[i]? with
  | none =>
   have:us[i]?=af:=by have h:=r.length;rw[U4] at g ⊢;lia
   rw[this];exact lJ r l
  | some d =>
   obtain ⟨v,e,q⟩:=r.get g;rw[e];exact .cons q (lJ r l)
noncomputable def sP (k:Int) (xs:List V):List V:=(Tw (Qz af af (aa k) xs.length).1 (Qz af af (aa k) xs.length).2.1 (Qz af af (aa k) xs.length).2.2).filterMap λi=>xs[i]?
section
theorem G7 (hk:k≠0) (he:PE X e te) (hs:PE X se (tC (.int k))) :
 PE X (.Subscript e (.Slice af af (aa se) p2) pos) (fun σ H Q=>te σ H λx H1=>∃ a xs,x=.ref a/\SqL X.K H1 a xs/\∀ p,H1 p=af->Q (.ref p) (upd H1 p (.lst (sP k xs)))):=by
 intro zt s σ H Q I h;refine Subscript_ (thn (he zt s σ H _ I h) λv s1 zq=>?_);obtain ⟨x,H1,I1,r1,a,xs,ex,hx,q⟩:=zq;subst ex;cases r1;refine wpAny_Slice ?_;rw[VY];refine az (az ?_);rw[evalPart_some];refine thn (hs zt s1 σ H1 (λv H'=>v=.int k/\H'=H1) I1 ⟨rfl,rfl⟩) λvs s3 zq=>?_;obtain ⟨y,H3,I3,r3,hy,hh⟩:=zq;subst hy hh;obtain ⟨t,rfl⟩:=r3;have I4:Inv X zt σ H3 { s3 with heap:=s3.heap.push { cls:=.type "slice",data:=.fields #[.none,.none,.int k t] } }:=I3.kept (t':=s3.toks) λb ob q=>PU _ q;obtain ⟨its,rv,p,hz⟩:=I4.list hx;have hg:aA (Qq X.prog X.w) X.A (UQ (.ref a) (.ref s3.heap.objs.size)) (EP X zt σ Q) X.xe { s3 with heap:=s3.heap.push { cls:=.type "slice",data:=.fields #[.none,.none,.int k t] } }:=by
  have hlen:=rv.length;refine VL p.isList (UG ..) .none .none (.int k t) (by intro z;exact hk (P5 z)) ?_ (by rw[PY];lia);have hp:slicePick its.toArray af af (aa k)=((Tw (Qz af af (aa k) xs.length).1 (Qz af af (aa k) xs.length).2.1 (Qz af af (aa k) xs.length).2.2).filterMap λi=>its[i]?).toArray:=by unfold slicePick;rw[PY,← hlen];simp
  rw[hp];have hq:=lJ rv (Tw (Qz af af (aa k) xs.length).1 (Qz af af (aa k) xs.length).2.1 (Qz af af (aa k) xs.length).2.2);have hz':(sP k xs).length<=xs.length:=by have:=slicePick_size_le its.toArray af af (aa k);rw[hp,PY,PY] at this;have e:=hq.length;unfold sP;lia
  refine ⟨.ref (s3.heap.push { cls:=.type "slice",data:=.fields #[.none,.none,.int k t] }).objs.size,_,I4.laid (t':=s3.toks) (o:=.lst (sP k xs)) (λb ob q=>PU _ q) (P6 _) ?_,rfl,q _ (I4.hok.fresh (P6 _))⟩;exact ⟨by lia,_,0,hq,Qf _ rfl⟩
 show aA (Qq X.prog X.w) X.A (VV e (.Slice af af (aa se) p2) (.ref a) (.ref s3.heap.objs.size)) (EP X zt σ Q) X.xe { s3 with heap:=s3.heap.push { cls:=.type "slice",data:=.fields #[.none,.none,.int k t] } };exact VU (ops:=[.ref a,.ref s3.heap.objs.size]) p.isList.typeIs slot_list_getitem.lookup hg (by with_unfolding_all rfl)
theorem vS (h:(C6 e).bind cInt=aa k):∃ a b,e=.Constant (.int k) a b:=by
 cases e with
 | Constant c a b =>
  cases c with
  | int j=>cases h;exact ⟨a,b,rfl⟩| _=>exact absurd (show (af:Option Int)=aa _ from h) (λz=>nomatch z)
 | _=>exact absurd (show (af:Option Int)=aa _ from h) (λz=>nomatch z)
theorem As (h:qC k e=ah):(∃ a b,e=.Constant (.int k) a b/\0 < k)\/∃ j a b p,e=.UnaryOp .USub (.Constant (.int j) a b) p/\k=-j/\0 < j:=by
 unfold qC at h;rw[So,PZ,PZ,decide_eq_true_eq,decide_eq_true_eq] at h;rcases h with ⟨h1,h2⟩|⟨h1,h2⟩
 ·obtain ⟨a,b,e1⟩:=vS (eq_of_beq h1);exact .inl ⟨a,b,e1,h2⟩
 ·have h1:=eq_of_beq h1;cases e with
  | UnaryOp o e p =>
   by_cases c:o=.USub
   ·subst c;have h3:(C6 e).bind cInt=aa (-k):=h1;obtain ⟨a,b,rfl⟩:=vS h3;exact .inr ⟨-k,a,b,p,rfl,by lia,by lia⟩
   ·have:unE (.UnaryOp o e p)=af:=if_neg c;rw[this] at h1;exact cW h1
  | _=>exact absurd (show (af:Option Int)=aa _ from h1) (λz=>nomatch z)
theorem Dr (hk:qC k se=ah) (ha:PE X x (tD X F G a)):PE X (.Subscript x (.Slice af af (aa se) p2) p) (tD X F G (.stp mu k a)):=by
 have hs:k≠0/\PE X se (tC (.int k)):=by
  rcases As hk with ⟨a,b,rfl,h⟩|⟨j,a,b,p,rfl,rfl,h⟩
  exact ⟨by lia,tX⟩;exact ⟨by lia,PE.weak (EY yL tX) fun σ H Q q=>⟨_,rfl,q⟩⟩
 refine PE.weak (G7 hs.1 ha hs.2) fun σ H Q q=>?_;refine Fg (k:=BT.Gw mu k) (λs h=>by simp only[BT.ev]) q λm h x z h' v H1 R r e zr=>?_;unfold BT.Gw at e;cases g:BT.rd x h with
 | none=>rw[g] at e;exact cW e
 | some d =>
  rw[g] at e;cases d with
  | lst xs =>
   simp only at e;have r1:=d9 R r g;obtain ⟨a,vs,rfl,hl,rr⟩:=r1.lst;have ez:BT.new mu (BT.lZ k xs) h=(z,h'):=P5 e;refine ⟨a,vs,rfl,hl.sq,λp hp=>qE (mu:=mu) R hp ?_ (by rw[ez];exact zr)⟩;unfold sP BT.lZ;rw[rr.length];exact RDs.pick rr _
  | _=>exact cW e
theorem G8 {X:Cx}{b:BT.Bi}{g:Int->Int->Int} (hb:∀ ds d,BT.biD b ds=aa d->∃ i j,ds=[.int i,.int j]/\d=.int (g i j)) {id:String} (hc:gj X (.builtin id) (λxs H Q=>∃ i j,xs=[.int i,.int j]/\Q (.int (g i j)) H)):gj X (.builtin id) (rBi X.prog X.w X.K b ai):=by
 intro zt s σ H vs us Q I rus h;obtain ⟨m,h,ws,z,h',R,rws,e,zr⟩:=h;obtain ⟨ds,d,e1,e2,⟨_,rfl,rfl⟩|⟨_,q,_⟩⟩:=jE e
 ·have rr:=i6 R rws e1;obtain ⟨i,j,rfl,rfl⟩:=hb _ _ e2;cases rr with
  | cons r t =>
   cases t with
   | cons r' t' =>
    cases t';cases r.int;cases r'.int;exact hc zt s σ H _ us Q I rus ⟨i,j,rfl,zr.here R (.int _)⟩
 exact BT.eW q
theorem Ds {X:Cx}{sc:QX}{N:List aB} (O:Ok X F G sc N) (hu:gR N=ah) {b:BT.Bi}{as:BT.Es}{x:aB}{e:P1}{es:List P1}{p pos:Pos} (hb:zL b x=ah) (hg:dX sc x=ah) (hst:dj (e::es)=ah) (ha:PA X (e::es) (tDs X F G as)) :
 PE X (.Call (.Name x p) (e::es) [] pos) (tD X F G (.bi b ai as)):=by
 simp only[dj,PZ] at hst;have hB:=O.blt;cases b<;>first|exact BT.eW hb|(replace hb:=eq_of_beq hb)
 ·subst hb;refine PE.weak (jt (G8 (b:=.max2) (g:=λi j=>if j > i then j else i) (λds d h=>?_) (xj (O.calm hu))) (eN O hg) (hB _ (by decide +kernel)) (by decide +kernel) ha (by decide) (by decide) (dg hst.1) (dY hst.2)) (fun σ H Q z=>l6 z)
  match ds,h with
  | [.int i,.int j],h=>exact ⟨i,j,rfl,(P5 h).symm⟩
end
section
variable {K:PP}
def Lk (H H':Hp):Prop:=(∀ a vs,Rd H a (.tup vs)->Rd H' a (.tup vs))/\∀ a vs,Rd H a (.lst vs)->Rd H' a (.lst vs)
mutual
theorem RD.tr (q:Lk H H'):∀ {v:V}{d:BT.D},RD K m H v d->RD K m H' v d
 | _,_,.non=>.non| _,_,.bl b=>.bl b| _,_,.int i=>.int i| _,_,.str y h=>.str y h| _,_,.tup h r=>.tup (h.elim (λz=>.inl ⟨q.1 _ _ z.1,z.2⟩) .inr) (RDs.tr q r)| _,_,.lst h r=>.lst (h.elim (λz=>.inl ⟨q.2 _ _ z.1,z.2⟩) .inr) (RDs.tr q r)
theorem RDs.tr (q:Lk H H'):∀ {vs:List V}{ds:List BT.D},RDs K m H vs ds->RDs K m H' vs ds
 | _,_,.nil=>.nil| _,_,.cons r t=>.cons (RD.tr q r) (RDs.tr q t)
end
end
open Classical in
noncomputable def hid (cl:List (aB×P4)) (H:Hp):Hp:=λb=>if ∃ x,cl.lookup x=aa b then af else H b
open Classical in
noncomputable def ret (cl:List (aB×P4)) (H0 H:Hp):Hp:=λb=>if ∃ x,cl.lookup x=aa b then H0 b else H b
section
end
noncomputable def Pp (P:Qg) (w:QA) (K:PP) (mg:aB->Option aC) (base:ay) (N:List aB) (q:aB) (sc:QX) (cl:List (aB×P4)) (f c':P4) (A:QO) (outer:List Env) (s:PX) (H:Hp):Cx where
 prog:=P
 w:=w
 K:=K
 mg:=mg
 base:=base
 A:=A.deeper (Va q sc s.heap.objs.size f (.ref c') cl)
 N:=N
 s₀:=s
 H₀:=hid cl H
 env:=Va q sc s.heap.objs.size f (.ref c') cl
 outer:=outer
 stack:=Va q sc s.heap.objs.size f (.ref c') cl::outer
 ex:=[]
 calm:=ah
 fn:=λ_=>ai
 pn:=[]
 xe:=λ_ _=>False
section
end
section
open PySem.W PySem.Calls PySem.Builtin PySem.Builtin.ObjectAttr PySem.Builtin.Getset_descriptor
variable {E:aC->PX->Prop}{K:PP}
end
section
end
section
variable {X:Cx}
end
structure uD (K:PP) (J:It) (m0:List P4) (H0:Hp) (ds:List BT.D) (C:BT.HH->Prop):Prop where
 go:∀ m H h (i:Nat),Ext m0 H0 m H->RH K m H h->C h->i < ds.length->J.go i H
 yld:∀ m H h (i:Nat) x H' d,Ext m0 H0 m H->RH K m H h->C h->ds[i]?=aa d->J.yld i H x H'->Ext m H m H'/\Le H H'/\RD K m H' x d
 stop:∀ m H h,Ext m0 H0 m H->RH K m H h->C h->J.stop ds.length H
def vU (sr:BT.Sr) (ws:List BT.W):Prop:=BT.jx ws=ah\/(sr=.seq/\∃ q,ws=[.r q])
def qP (ws:List BT.W) (ds:List BT.D) (h:BT.HH):Prop:=∀ q,ws=[.r q]->BT.lat h q=aa ds
theorem vU.p (h:vU sr ws) (n:sr≠.seq):BT.jx ws=ah:=h.resolve_right λz=>n z.1
theorem nP (a:BT.jx ws=ah):qP ws ds h:=λq e=>by subst e;exact BT.eW a
noncomputable def Itv (K:PP) (a:P4) (n:Nat):It :=
 ⟨λi H=>i < n/\∃ xs,SqL K H a xs/\xs.length=n,λi H x H'=>H'=H/\∀ xs,SqL K H a xs->xs[n - 1 - i]?=aa x,λi H=>i=n⟩
theorem Au (a it:P4) (n:Nat):Turn P w K tg (Itv K a n) [it] it (λi h=>h.IsRevIter it a ((n:Int) - 1 - i)) where
 mem:=by simp
 obj:=λi h st b hb=>by
  have e:b=it:=by simpa using hb
  subst e;obtain ⟨o,e,c,d⟩:=st;exact ⟨o,e,λv z=>by rw[d] at z;cases z⟩
 keep:=λi h h' st k=>st.at λo e=>k it (by simp) o e
 item:=by
  intro X hP hw hK hc i zt s σ H E I hf st hg;subst hP hw hK;obtain ⟨hi,xs,hq,hx⟩:=hg;obtain ⟨its,rv,p,hz⟩:=I.list hq;have hl:=rv.length;have hj:n - 1 - i < xs.length:=by lia
  obtain ⟨u,hu,ru⟩:=rv.get (P0 hj);obtain ⟨f0,f1,f2,f3,f4,f5⟩:=hf it (by simp);have ei:((n:Int) - 1 - (i:Int))=(((n - 1 - i:Nat)):Int):=by lia
  have st':s.heap.IsRevIter it a (((n - 1 - i:Nat)):Int):=by rw[← ei];exact st
  refine wpAny_pyNext_rev_item st' p.isList (x:=u) (by simpa using hu) λh' st'' sb=>?_;have I1:Inv X zt σ H { s with heap:=h' }:=I.turned (t':=s.toks) (λb o hb e=>(sb.2 b hb).trans e) f0 f1 f3 f4 f5;obtain ⟨o,e,c,d⟩:=id st'';refine ⟨u,rfl,vf (s:={ s with heap:=h' }) e c d (by decide) ⟨_,H,I1,ru,⟨rfl,λys hy=>by rw[I.rR hy hq];exact P0 hj⟩,?_,λb hb=>(hf b hb).1⟩⟩;have e2:(((n - 1 - i:Nat)):Int) - 1=(n:Int) - 1 - ((i+1:Nat):Int):=by lia
  rw[e2] at st'';exact st''
 done:=by
  intro X hP hw hK hc i zt s σ H E I hf st hg;subst hP hw hK;have hg:i=n:=hg;subst hg;obtain ⟨f0,f1,f2,f3,f4,f5⟩:=hf it (by simp);have e1:(i:Int) - 1 - (i:Int)=-1:=by lia
  have st':s.heap.IsRevIter it a (-1):=by rw[← e1];exact st
  exact wpAny_pyNext_rev_end (I.ok.hd hc) st' λh' eb=>⟨rfl,I.turned (t':=s.toks) (λb o hb e=>eb b o hb e) f0 f1 f3 f4 f5⟩
 self:=λ_ _ _ _ _ st h=>wpAny_pyIter_revIter st h
theorem Inv.Dt {X:Cx}{zt:List (P4×av)}{σ:L2.St}{H H':Hp}{s:PX}{h':ay}{fp:List P4}{tk:Nat} (I:Inv X zt σ H s) (hf:∀ b∈fp,oK X zt H b)
 (k:∀ b o,b∉fp->s.heap.get? b=aa o->h'.get? b=aa o) (hs:∀ b,b < s.heap.objs.size->H' b=H b) (hok:HOk X.prog X.w H' h'):Inv X zt σ H' { s with heap:=h',toks:=tk }:=by
 have hlt:∀ b u,H b=aa u->H' b=aa u:=λb u e=>by rw[hs b (I.hok.lt e)];exact e
 refine I.step (g':=s.gens) (d':=s.drawn) (ch:=fp) (λb hb=>?_) (λb o _ _ hc e _=>k b o hc e) (λb o _ _ hc e _=>⟨o.slots,k b o hc e⟩) (λb o _ e n=>by rw[hs b (P7 e)];exact n)
  (λb o hc e=>⟨o,k b o hc e⟩) (λb xs e=>hlt b _ e) (λb o u e=>hlt b _ e) (λb ps e=>⟨#[],by rw[hlt b _ e];simp⟩) (λm hm=>?_) hok I.bare
 ·obtain ⟨_,f1,_,f3,f4,f5⟩:=hf b hb;exact ⟨f3,f1,f4,f5⟩
 ·obtain ⟨o,es,ep,ho,r⟩:=hm;exact ⟨o,es,ep,k _ o (λz=>(hf _ z).2.1 rfl) ho,r⟩
inductive iD (X:Cx) (F:FT) (G:aB->Option BT.W) (sr:BT.Sr) (sa:BT.Es) (σ:L2.St) (H:Hp) (R:It->Hp->Prop):Prop where
 | mk (m:List P4) (s:BT.Sl) (h:BT.HH) (ws:List BT.W) (h':BT.HH) (ds:List BT.D) (RR:RH X.K m H h) (S:RS X.prog X.w X.K m H σ s) (e:BT.evs F G sa s h=aa (ws,h')) (e2:(BT.rds ws h').bind (BT.gP sr)=aa ds) (ha:vU sr ws)
  (p:∀ H' m' J,Ext m H m' H'->RH X.K m' H' h'->uD X.K J m' H' ds (qP ws ds)->R J H'):iD X F G sr sa σ H R
theorem PI.weak (h:PI X tg e t) (q:∀ σ H R,t' σ H R->t σ H R):PI X tg e t':=λzt s σ H R I hw=>h zt s σ H R I (q _ _ _ hw)
section
theorem Du (h:(Rd H0 a (.lst vs)/\a∉m0)\/KL K a vs) (r:RDs K m0 H0 vs ds):uD K (Itl K a) m0 H0 ds C:=by
 have k:∀ {m H},Ext m0 H0 m H->SqL K H a vs:=λx=>LL.sq (h.elim (λq=>.inl (Rd.ext x q.1 q.2).1) .inr);refine ⟨λm H hh i x _ _ hi=>?_,λm H hh i v H' d x RR _ hd y=>?_,λm H _ x _ _=>⟨vs,k x,by rw[r.length];exact P6 _⟩⟩;exact ⟨vs,_,k x,P0 (by rw[r.length];exact hi)⟩
 ·obtain ⟨rfl,y⟩:=y;obtain ⟨u,h1,h2⟩:=(r.ext x).get hd;have:=y vs (k x);rw[h1] at this;cases this;exact ⟨.refl _ _,λ_ _ e=>e,h2⟩
theorem G9 (h:(Rd H0 a (.tup vs)/\a∉m0)\/KT K a vs) (r:RDs K m0 H0 vs ds):uD K (Itt K a) m0 H0 ds C:=by
 have k:∀ {m H},Ext m0 H0 m H->SqT K H a vs:=λx=>h.elim (λq=>.inl (Rd.ext x q.1 q.2).1) λ⟨o,its,n,q,_⟩=>.inr ⟨o,its,n,q⟩;refine ⟨λm H hh i x _ _ hi=>?_,λm H hh i v H' d x RR _ hd y=>?_,λm H _ x _ _=>⟨vs,k x,by rw[r.length];exact P6 _⟩⟩;exact ⟨vs,_,k x,P0 (by rw[r.length];exact hi)⟩
 ·obtain ⟨rfl,y⟩:=y;obtain ⟨u,h1,h2⟩:=(r.ext x).get hd;have:=y vs (k x);rw[h1] at this;cases this;exact ⟨.refl _ _,λ_ _ e=>e,h2⟩
theorem Hf (h:(Rd H0 a (.lst vs)/\a∉m0)\/KL K a vs) (r:RDs K m0 H0 vs ds):uD K (Itv K a ds.length) m0 H0 ds.reverse C:=by
 have k:∀ {m H},Ext m0 H0 m H->SqL K H a vs:=λx=>LL.sq (h.elim (λq=>.inl (Rd.ext x q.1 q.2).1) .inr);refine ⟨λm H hh i x _ _ hi=>?_,λm H hh i v H' d x RR _ hd y=>?_,λm H _ x _ _=>by show ds.reverse.length=ds.length;simp⟩;exact ⟨by simpa using hi,vs,k x,r.length⟩
 ·obtain ⟨rfl,y⟩:=y;have hi:i < ds.length:=by have:=getD_some hd;simpa using this
  have hd':ds[ds.length - 1 - i]?=aa d:=by rw[List.getElem?_reverse hi] at hd;exact hd
  obtain ⟨u,h1,h2⟩:=(r.ext x).get hd';have:=y vs (k x);rw[h1] at this;cases this;exact ⟨.refl _ _,λ_ _ e=>e,h2⟩
theorem Av (lo:Int) (n:Nat):uD K (Itr lo n) m0 H0 (BT.upto lo n) C:=by
 have hl:(BT.upto lo n).length=n:=by simp[BT.upto]
 refine ⟨λm H hh i x _ _ hi=>by rw[hl] at hi;exact hi,λm H hh i v H' d x RR _ hd y=>?_,λm H _ x _ _=>by rw[hl];exact P6 n⟩;obtain ⟨rfl,rfl⟩:=y;have:d=.int (lo+i):=by
  have hi:i < n:=by have:=getD_some hd;rw[hl] at this;exact this
  simp only[BT.upto,Qj] at hd;rw[T4 hi] at hd;simpa using hd.symm
 subst this;exact ⟨.refl _ _,λ_ _ e=>e,.int _⟩
theorem vV:∀ {ws:List BT.W},BT.jx ws=ah->∃ ds:List BT.D,ws=ds.map BT.W.p:=by
 intro ws
 induction ws with
 | nil=>exact λ_=>⟨[],rfl⟩
 | cons w ws ih =>
  intro h;cases w with
  | p d =>
   obtain ⟨ds,rfl⟩:=ih h;exact ⟨d::ds,rfl⟩
  | _=>exact BT.eW h
theorem Aw (h:BT.HH) (ds:List BT.D):BT.rds (ds.map BT.W.p) h=aa ds:=by
 induction ds with
 | nil=>rfl
 | cons d ds ih =>
  show (BT.rds (ds.map BT.W.p) h).map (d :: ·)=_;rw[ih];rfl
theorem Ax (hs:sr=.seq\/sr=.rev\/sr=.rng1) (e:(BT.rds ws h).bind (BT.gP sr)=aa ds) (ha:BT.jx ws=ah):∃ d,ws=[.p d]/\BT.gP sr [d]=aa ds:=by
 obtain ⟨xs,rfl⟩:=vV ha;rw[Aw,QK] at e;cases xs with
 | nil=>rcases hs with rfl|rfl|rfl<;>exact cW e
 | cons d xs =>
  cases xs with
  | nil=>exact ⟨d,rfl,e⟩
  | cons d2 xs=>rcases hs with rfl|rfl|rfl<;>cases d<;>exact cW e
theorem qQ (e:BT.evs F G (.cons a .nil) s h=aa (ws,h')):∃ w,ws=[w]/\BT.ev F G a s h=aa (w,h'):=by simp only[BT.evs] at e;obtain ⟨w,g,e1,e2⟩:=cZ e;simp only[BT.j3,BT.dQ,BT.gQ] at e2;cases e2;exact ⟨w,rfl,e1⟩
theorem Dv (hq:m0[q]?=aa a):uD K (Itl K a) m0 H0 ds (qP [.r q] ds):=by
 have k:∀ {m H h},Ext m0 H0 m H->RH K m H h->qP [.r q] ds h->∃ vs,SqL K H a vs/\RDs K m H vs ds:=λ{m H h} x RR c=>by
  obtain ⟨e,rfl,_⟩:=x.pre;have e1:(m0++e)[q]?=aa a:=by rw[PV (List.getElem?_eq_some_iff.mp hq).1];exact hq
  obtain ⟨vs,c1,c2⟩:=RR.cell q a ds e1 (c q rfl);exact ⟨vs,LL.sq (.inl (.inl c1)),c2⟩
 refine ⟨λm H hh i x RR c hi=>?_,λm H hh i v H' d x RR c hd y=>?_,λm H hh x RR c=>?_⟩
 ·obtain ⟨vs,k1,k2⟩:=k x RR c;exact ⟨vs,_,k1,P0 (by rw[k2.length];exact hi)⟩
 ·obtain ⟨vs,k1,k2⟩:=k x RR c;obtain ⟨rfl,y⟩:=y;obtain ⟨u,h1,h2⟩:=k2.get hd;have:=y vs k1;rw[h1] at this;cases this;exact ⟨.refl _ _,λ_ _ e=>e,h2⟩
 ·obtain ⟨vs,k1,k2⟩:=k x RR c;exact ⟨vs,k1,by rw[k2.length];exact P6 _⟩
theorem Dw (he:PE X x (tD X F G a)):PI X tg x (iD X F G .seq (.cons a .nil)):=by
 intro zt s σ H R I q;obtain ⟨m,s',h,ws,h',ds,RR,S,e,e2,ha,zr⟩:=q;rcases ha with ha|⟨_,q,rfl⟩
 case inr =>
  obtain ⟨w,ew,e4⟩:=qQ e;cases ew;have g:BT.lat h' q=aa ds:=by
   simp only[BT.rds,BT.rd,To] at e2;cases g:BT.lat h' q with
   | none=>rw[g] at e2;exact cW e2| some xs=>rw[g] at e2;cases e2;rfl
  refine vg he zt s σ H R I ⟨m,s',h,_,h',RR,S,e4,λv H1 m1 x1 R1 r1=>?_⟩;cases r1 with
  | @r a n hn =>
   obtain ⟨vs,c1,c2⟩:=R1.cell q a ds hn g;exact ⟨a,rfl,⟨vs,LL.sq (.inl (.inl c1))⟩,zr H1 m1 _ x1 R1 (Dv hn)⟩
 obtain ⟨d,rfl,e3⟩:=Ax (.inl rfl) e2 ha;obtain ⟨w,ew,e4⟩:=qQ e;cases ew;rw[BT.zm] at e3;cases d<;>simp only[BT.qq] at e3<;>try contradiction
 ·cases e3;refine FP he zt s σ H R I ⟨m,s',h,_,h',RR,S,e4,λv H1 m1 x1 R1 r1=>?_⟩;cases r1 with
  | p r1 =>
   cases r1 with
   | @tup a vs _ h r=>exact ⟨a,rfl,⟨vs,h.elim (λq=>.inl q.1) λ⟨o,its,n,q,_⟩=>.inr ⟨o,its,n,q⟩⟩,zr H1 m1 _ x1 R1 (G9 h r)⟩
 ·cases e3;refine vg he zt s σ H R I ⟨m,s',h,_,h',RR,S,e4,λv H1 m1 x1 R1 r1=>?_⟩;cases r1 with
  | p r1 =>
   cases r1 with
   | @lst a vs _ h r=>exact ⟨a,rfl,⟨vs,LL.sq (h.elim (λq=>.inl q.1) .inr)⟩,zr H1 m1 _ x1 R1 (Du h r)⟩
theorem Ay (O:Ok X F G sc N) (hg:dX sc "range"=ah) (hs:noStar e=ah) (ha:PA X [e] (tDs X F G sa)):PI X tg (.Call (.Name "range" p) [e] [] pos) (iD X F G .rng1 sa):=by
 refine PI.weak (w9 (eN O hg) (O.blt _ (by decide)) ha (dg hs)) fun σ H R q=>?_;obtain ⟨m,s',h,ws,h',ds,RR,S,e,e2,ha,zr⟩:=q;obtain ⟨d,rfl,e3⟩:=Ax (.inr (.inr rfl)) e2 (ha.p (λz=>by cases z));refine ⟨m,s',h,_,h',RR,S,e,λvs H1 m1 x1 R1 r1=>?_⟩;obtain ⟨j,rfl⟩:∃ j:Int,d=.int j:=by
  cases d with
  | int j=>exact ⟨j,rfl⟩| _=>exact absurd (show (af:Option (List BT.D))=aa _ from e3) (λz=>nomatch z)
 rw[BT.gK] at e3;obtain ⟨c,e3⟩:=dG e3;simp only[PZ,decide_eq_true_eq] at c;cases e3;cases r1 with
 | cons r t =>
  cases t;cases r with
  | p r =>
   cases r;exact ⟨j,rfl,by lia,by lia,zr H1 m1 _ x1 R1 (Av 0 j.toNat)⟩
theorem Ll (e:(BT.rds ws h).bind (BT.gP .rng2)=aa ds) (ha:BT.jx ws=ah):∃ i j:Int,ws=[.p (.int i),.p (.int j)]/\(-100000<=i/\i<=100000/\-100000<=j/\j<=100000)/\ds=BT.upto i (j - i).toNat:=by
 obtain ⟨xs,rfl⟩:=vV ha;rw[Aw,QK] at e;have hx:∃ i j:Int,xs=[.int i,.int j]:=by
  match xs,e with
  | [.int i,.int j],_=>exact ⟨i,j,rfl⟩
 obtain ⟨i,j,rfl⟩:=hx;rw[BT.jR] at e;obtain ⟨c,e⟩:=dG e;simp only[PZ,decide_eq_true_eq] at c;cases e;exact ⟨i,j,rfl,⟨c.1.1.1,c.1.1.2,c.1.2,c.2⟩,rfl⟩
theorem Az (O:Ok X F G sc N) (hg:dX sc "range"=ah) (hs:noStar x=ah) (hs2:noStar y=ah) (ha:PA X [x,y] (tDs X F G sa)):PI X tg (.Call (.Name "range" p) [x,y] [] pos) (iD X F G .rng2 sa):=by
 refine PI.weak (xg (eN O hg) (O.blt _ (by decide)) ha (by rw[dg hs,dg hs2];rfl) (by rw[dg hs2];rfl)) fun σ H R q=>?_;obtain ⟨m,s',h,ws,h',ds,RR,S,e,e2,ha,zr⟩:=q;obtain ⟨i,j,rfl,c,rfl⟩:=Ll e2 (ha.p (λz=>by cases z));refine ⟨m,s',h,_,h',RR,S,e,λvs H1 m1 x1 R1 r1=>?_⟩;cases r1 with
 | cons r t =>
  cases t with
  | cons r2 t2 =>
   cases t2;cases r with
   | p r =>
    cases r;cases r2 with
    | p r2 =>
     cases r2;exact ⟨i,j,rfl,⟨by lia,by lia,by lia,by lia⟩,zr H1 m1 _ x1 R1 (Av i (j - i).toNat)⟩
theorem Dy (O:Ok X F G sc N) (hg:dX sc "reversed"=ah) (hs:noStar e=ah) (he:PE X e (tD X F G a)):PI X tg (.Call (.Name "reversed" p) [e] [] pos) (iD X F G .rev (.cons a .nil)):=by
 intro zt s σ H R I q;obtain ⟨m,s',h,ws,h',ds,RR,S,e,e2,ha,zr⟩:=q;obtain ⟨d,rfl,e3⟩:=Ax (.inr (.inl rfl)) e2 (ha.p (λz=>by cases z));obtain ⟨w,ew,e4⟩:=qQ e;cases ew;obtain ⟨xs,rfl⟩:∃ xs:List BT.D,d=.lst xs:=by
  cases d with
  | lst xs=>exact ⟨xs,rfl⟩| _=>exact absurd (show (af:Option (List BT.D))=aa _ from e3) (λz=>nomatch z)
 ·cases e3;refine Call_ (jo (u:=.type "reversed") I (eN O hg) (O.blt _ (by decide)) (by decide +kernel) (QT (thn (jP he qf (dg hs) pos zt s σ H (λvs H1=>∃ a vt,vs=[.ref a]/\∃ m1,Ext m H m1 H1/\RH X.K m1 H1 h'/\((Rd H1 a (.lst vt)/\a∉m1)\/KL X.K a vt)/\RDs X.K m1 H1 vt xs) I ?_) λus s1 ⟨vs,H1,I1,r1,q1⟩=>?_) (dg hs) rfl))
  ·refine ⟨m,s',h,_,h',RR,S,e4,λv H1 m1 x1 R1 r1=>?_⟩;cases r1 with
   | p r1 =>
    cases r1 with
    | @lst a vt _ hh r=>exact ⟨a,vt,rfl,m1,x1,R1,hh,r⟩
  ·obtain ⟨a,vt,rfl,m1,x1,R1,hh,r⟩:=q1;obtain ⟨u,rfl,ru⟩:=vals1 r1;cases ru;obtain ⟨z,its,nn,rv,hl,ee⟩:=rdL I1 (hh.elim (λq=>.inl q.1) .inr);have hL:s1.heap.IsList a its.toArray:=⟨_,ee,rfl,_,rfl⟩;have hlen:=r.length;refine call_reversed_list hL ?_;have stt:({ s1 with heap:=s1.heap.push (revObj a ((its.toArray.size:Int) - 1)) }:PX).heap.IsRevIter s1.heap.objs.size a ((xs.length:Int) - 1 - ((0:Nat):Int)):=by refine ⟨_,Qf _ rfl,rfl,?_⟩;show Data.fields #[.ref a,T9 ((its.toArray.size:Int) - 1)]=_;rw[PY,← hl,hlen];simp
   refine wpAny_pyIter_revIter stt ?_;refine ⟨s1.heap.objs.size,[s1.heap.objs.size],_,_,H1,rfl,I1.kept (t':=s1.toks) λb o e=>PU _ e,Au a _ xs.length,stt,λb hb=>?_,zr H1 m1 _ x1 R1 (Hf hh r)⟩;have e:b=s1.heap.objs.size:=by simpa using hb
   subst e;exact I1.Cg (P6 _) (I1.hok.fresh (P6 _))
end
section
variable {K:PP}
end
section
variable {X:Cx}{F:FT}{G:aB->Option BT.W}
noncomputable def Pq:V->V->V->Hp->(Hp->Prop)->Prop:=λo i v H Q=>∃ p kvs k,o=.ref p/\i=kV k/\H p=aa (.dK kvs)/\kvs.length < ao/\Q (upd H p (.dK (putK kvs k v)))
end
section
variable {E:aC->PX->Prop}
end
section
variable {X:Cx}{F:FT}{G:aB->Option BT.W}
end
section
variable {X:Cx}{F:FT}{G:aB->Option BT.W}{K:PP}{m:List P4}{H:Hp}
end
section
variable {F:FT}{G:aB->Option BT.W}
end
section
variable {F:FT}{G:aB->Option BT.W}
end
section
variable {X:Cx}{F:FT}{G:aB->Option BT.W}
def TyX (X:Cx) (T:String) (k:BT.Tx):Prop:=∀ (zt:List (P4×av)) (s:PX) (σ:L2.St) (H:Hp) (v:V) (v':aC) (m:List P4) (x:BT.W) (ws:List BT.W) (h:BT.HH) (r:BT.W×BT.HH),
 Inv X zt σ H s->RelV v v'->RW X.prog X.w X.K m H v x->BT.kTx k (x::ws) h=aa r->s.TypeIs v' T/\∀ a,v'=.ref a->∃ ob,s.heap.get? a=aa ob/\ob.dict=af
theorem Dz {k:BT.Tx}{ws:List BT.W}{h:BT.HH}{z:BT.W}{h':BT.HH} (hk:k≠.dget) (e:BT.kTx k ws h=aa (z,h')):∃ ds d,BT.rds ws h=aa ds/\BT.txD k ds=aa d/\z=.p d/\h'=h:=by
 have e:((BT.rds ws h).bind λds=>(BT.txD k ds).map λd=>(BT.W.p d,h))=aa (z,h'):=by
  cases k with
  | dget=>exact absurd rfl hk| _=>exact e
 obtain ⟨ds,e1,e2⟩:=Option.bind_eq_some_iff.mp e;obtain ⟨d,e3,e4⟩:=dH e2;cases e4;exact ⟨ds,d,e1,e3,rfl,rfl⟩
theorem Lm {ds:List BT.D}{d:BT.D} (e:BT.txD .join ds=aa d):∃ x ys ts,ds=[.str x,.lst ys]/\BT.strsOf ys=aa ts/\(ts.length<=4000/\x.length<=10/\∀ t∈ts,t.length<=4000)/\d=.str (Str.join x ts):=by
 match ds,e with
 | [.str x,.lst ys],e =>
  obtain ⟨ts,e1,e2⟩:=Option.bind_eq_some_iff.mp (show ((BT.strsOf ys).bind λts=>if ts.length<=4000/\x.length<=10/\∀ t∈ts,t.length<=4000 then aa (BT.D.str (Str.join x ts)) else af)=aa d from e);obtain ⟨c,e3⟩:=dG e2;exact ⟨x,ys,ts,rfl,e1,c,e3.symm⟩
theorem Ji {ds:List BT.D}{d:BT.D} (e:BT.txD .split ds=aa d):∃ x y,ds=[.str x,.str y]/\(y.length=1/\x.length<=BT.lim)/\d=.lst ((Txt.split x y).map .str):=by
 match ds,e with
 | [.str x,.str y],e =>
  obtain ⟨c,e3⟩:=dG (show (if y.length=1/\x.length<=BT.lim then aa (BT.D.lst ((Txt.split x y).map .str)) else af)=aa d from e);exact ⟨x,y,rfl,c,e3.symm⟩
theorem Hg {w:BT.W}{h:BT.HH}{x:aB} (e:BT.rd w h=aa (.str x)):w=.p (.str x):=by
 cases w with
 | p d=>exact congrArg BT.W.p (P5 e)| r n=>obtain ⟨_,_,q⟩:=dH (show (BT.lat h n).map BT.D.lst=aa (.str x) from e);cases q| _=>exact cW e
theorem AA {w:BT.W}{ws:List BT.W}{h:BT.HH}{ds:List BT.D} (e:BT.rds (w::ws) h=aa ds):∃ d r,ds=d::r/\BT.rd w h=aa d/\BT.rds ws h=aa r:=by
 cases g:BT.rd w h with
 | none=>simp[BT.rds,g] at e
 | some d =>
  cases g2:BT.rds ws h with
  | none=>simp[BT.rds,g,g2] at e| some r=>simp[BT.rds,g,g2] at e;exact ⟨d,r,e.symm,rfl,rfl⟩
theorem ty_str {k:BT.Tx} (hk:k≠.dget) (h:∀ ds d,BT.txD k ds=aa d->∃ x r,ds=.str x::r):TyX X "str" k:=by
 intro zt s σ H v v' m x ws hh r I rv rw0 e;obtain ⟨ds,d,e1,e2,_,_⟩:=Dz hk e;obtain ⟨y,r,rfl⟩:=h _ _ e2;obtain ⟨d0,r0,q1,q2,_⟩:=AA e1;cases q1;have ew:=Hg q2;subst ew;cases rw0 with
 | p r =>
  cases r with
  | str _ ok =>
   obtain ⟨t,rfl⟩:=rv;exact ⟨typeIs_str s y t,λ_ e=>nomatch e⟩
inductive rTx (P:Qg) (w:QA) (K:PP) (k:BT.Tx) (vs:List V) (H:Hp) (Q:VK):Prop where
 | mk (m:List P4) (h:BT.HH) (ws:List BT.W) (z:BT.W) (h':BT.HH) (R:RH K m H h) (rs:RWs P w K m H vs ws) (e:BT.kTx k ws h=aa (z,h')) (p:Post P w K m H z h' Q):rTx P w K k vs H Q
noncomputable def oTx (k:BT.Tx) (x y:BT.W) (h:BT.HH):Option (BT.W×BT.HH):=BT.kTx k [x,y] h
inductive Fi (X:Cx) (m:List P4) (H:Hp) (s:PX) (a:P4) (o:Option BT.D) (k:Key):Prop where
 | mk (vs:List (Key×aC)) (dd:s.heap.DictOf (dM X.prog X.w) a vs) (n:(a==SH)=ai) (h:(o=af/\valueAt vs k=af)\/∃ x v u,o=aa x/\valueAt vs k=aa u/\RelV v u/\RD X.K m H v x):Fi X m H s a o k
theorem Ln {m:List P4}{H:Hp}{vs:List (Key×aC)}{k:aB}:∀ {es:List (aB×V)}{kvs:List (aB×BT.D)},RDk K es kvs->KV (es.map λq=>((Sum.inr q.1:Key),q.2)) vs->(BT.fG k kvs=af/\valueAt vs (Sum.inr k)=af)\/∃ x v u,BT.fG k kvs=aa x/\valueAt vs (Sum.inr k)=aa u/\RelV v u/\RD K m H v x:=by
 intro es
 induction es generalizing vs with
 | nil =>
  intro kvs r q;cases r;cases q;exact .inl ⟨rfl,rfl⟩
 | cons p es ih =>
  intro kvs r q;cases r with
  | @cons x v dd _ kvs r t =>
   cases q with
   | @cons p z l1 l2 q1 q2 =>
    obtain ⟨z1,z2⟩:=z;obtain ⟨q11,q12⟩:=q1;simp only at q11 q12;subst q11;rw[BT.fG]
    by_cases c:k=x
    ·subst c;rw[if_pos rfl];exact .inr ⟨dd,v,z2,rfl,by simp[valueAt],q12,r m H⟩
    ·rw[if_neg c];have ne:¬ ((Sum.inr x:Key)=Sum.inr k):=λz=>c (Sum.inr.inj z).symm;have:=ih t q2;simp only[valueAt] at this ⊢;rw[Tv (by simpa using ne)];exact this
noncomputable def kdG:BT.Kd->aB->Option BT.D
 | .t kvs,x=>BT.fG x kvs| .l kvs,x=>BT.fM kvs (.inr x)
theorem Hh {zt:List (P4×av)}{σ:L2.St}{H:Hp}{s:PX}{m:List P4}{q:BT.Kd}{v:V}{u:aC} (I:Inv X zt σ H s) (r:RW X.prog X.w X.K m H v (.k q)) (rv:RelV v u) (x:aB) :
 ∃ a,u=.ref a/\Fi X m H s a (kdG q x) (.inr x):=by
 cases r with
 | @k a es kvs kd rk =>
  cases rv;obtain ⟨hm,vs,kv,dd⟩:=kd;exact ⟨a,rfl,vs,dd s.heap I.kIn,hm,Ln rk kv⟩
 | @kl a ob ws kvs hh rk =>
  cases rv;refine ⟨a,rfl,?_⟩;cases uC I (.inr ⟨_,hh.1⟩) rk (.inr x) with
  | no vs dd n g1 g2=>exact ⟨vs,dd,n,.inl ⟨g1,g2⟩⟩| is vs dd n y v1 u1 g1 g2 g3 g4=>exact ⟨vs,dd,n,.inr ⟨y,v1,u1,g1,g2,g3,g4⟩⟩
theorem AB {x:BT.W}{ws:List BT.W}{h:BT.HH}{z:BT.W}{h':BT.HH} (e:BT.kTx .dget (x::ws) h=aa (z,h')):∃ q y,x=.k q/\h'=h/\((ws=[.p .non]/\z=.p .non/\∃ kvs,q=.t kvs)\/(ws=[.p (.str y)]/\z=.p ((kdG q y).getD .non))\/∃ d,ws=[.p (.str y),.p d]/\z=.p ((kdG q y).getD d)):=by
 have no:∀ (o:Option (List BT.D)),(o.bind λds=>(BT.txD .dget ds).map λd=>(BT.W.p d,h))=aa (z,h')->False:=by intro o e;obtain ⟨ds,_,e2⟩:=Option.bind_eq_some_iff.mp e;obtain ⟨d,e3,_⟩:=dH e2;exact cW (P:=False) (show (af:Option BT.D)=aa d from by rw[← e3];unfold BT.txD;rfl)
 cases x with
 | k q =>
  cases q with
  | t kvs =>
   have e:BT.zD kvs ws h=aa (z,h'):=e;unfold BT.zD at e;split at e;cases e;exact ⟨_,"",rfl,rfl,.inl ⟨rfl,rfl,_,rfl⟩⟩;cases e;exact ⟨_,_,rfl,rfl,.inr (.inl ⟨rfl,rfl⟩)⟩;cases e;exact ⟨_,_,rfl,rfl,.inr (.inr ⟨_,rfl,rfl⟩)⟩;exact cW e
  | l kvs =>
   have e:BT.ux kvs ws h=aa (z,h'):=e;unfold BT.ux at e;split at e;cases e;exact ⟨_,_,rfl,rfl,.inr (.inl ⟨rfl,rfl⟩)⟩;cases e;exact ⟨_,_,rfl,rfl,.inr (.inr ⟨_,rfl,rfl⟩)⟩;exact cW e
 | p d=>exact (no (BT.rds (.p d::ws) h) e).elim| r n=>exact (no (BT.rds (.r n::ws) h) e).elim| o n=>exact (no (BT.rds (.o n::ws) h) e).elim| c f cs=>exact (no (BT.rds (.c f cs::ws) h) e).elim| x c=>exact (no (BT.rds (.x c::ws) h) e).elim
theorem ty_dict:TyX X "dict" .dget:=by intro zt s σ H v v' m x ws hh r I rv rw0 e;obtain ⟨z,h'⟩:=r;obtain ⟨q,y,rfl,_,_⟩:=AB e;obtain ⟨a,rfl,vs,dd,n,_⟩:=Hh I rw0 rv y;refine ⟨dd.typeIs,λb eb=>?_⟩;cases eb;obtain ⟨o,es,ep,ho,hx,_⟩:=dd;exact ⟨o,ho,hx.2.1⟩
end
section
end
section
variable {F:FT}{G:aB->Option BT.W}
end
end BS
end
section
namespace BX
open PySem PyProof.Rows
section
variable {prog:Qg}{w:QA}{A:QO}{E:aC->PX->Prop}{s:PX}{R:Result->PX->Prop}
end
section
variable {E:aC->PX->Prop}
end
end BX
namespace BS
open PySem PySem.Spec PyProof.Rows L2
section
end
end BS
end
section
namespace BS
open PySem PySem.Spec PyProof.Rows L2
section
end
noncomputable def nQ (sc:QX) (x:aB):Bool:=match sc.names.lookup x with
 | some .local=>ah| some .cell=>ah| _=>ai
inductive CTs (sc:QX) (N:List aB):List (Nat×aB)->List P1->Prop where
 | nil:CTs sc N [] []
 | cons {i:Nat}{x:aB}{p:Pos}{tg:List (Nat×aB)}{es:List P1} (h1:N[i]?=aa x) (h2:nQ sc x=ah) (r:CTs sc N tg es):CTs sc N ((i,x)::tg) (.Name x p::es)
inductive CT (sc:QX) (N:List aB):List (Nat×aB)->P1->Prop where
 | one {i:Nat}{x:aB}{p:Pos} (h1:N[i]?=aa x) (h2:nQ sc x=ah):CT sc N [(i,x)] (.Name x p)
 | tup {tg:List (Nat×aB)}{es:List P1}{p:Pos}{k:Nat} (hl:Nat.ble 2 tg.length=ah) (h:CTs sc N tg es):CT sc N tg (.Tuple es k p)
section
theorem RS.set {K:PP} (S:RS P w K m H σ s) (r:RW P w K m H v z):RS P w K m H (σ.set i (aa v)) (s.set i (aa z)):=by
 refine ⟨by simp[S.len],λj y e=>?_⟩
 by_cases c:i=j
 ·subst c;have hl:i < s.length:=by
   rcases Qs i s.length with q|q
   exact q;rw[Qc (by simpa using q)] at e;exact cW e
  rw[Qw hl] at e;cases e;exact ⟨v,by rw[Qw (by rw[S.len];exact hl)],r⟩
 ·rw[Ql c] at e;obtain ⟨u,h1,h2⟩:=S.get j y e;exact ⟨u,by rw[Ql c];exact h1,h2⟩
theorem nR (O:Ok X F G sc N) (h:nQ sc x=ah):L2.Loc X.env.scope x:=by
 rw[O.hsc];unfold nQ at h;unfold L2.Loc;cases e:sc.names.lookup x with
 | none=>rw[e] at h;exact BT.eW h
 | some k=>rw[e] at h;cases k<;>first|(exact .inl rfl)|(exact .inr rfl)|exact BT.eW h
theorem vW (h:ko e=ah):∀ x,foldedSetIterable e env x=pure x:=by intro x;cases e<;>first|rfl|exact BT.eW h
def GOk (X:Cx) (tg:List (Nat×aB)) (g:TG):Prop:=∀ (m:List P4) (H:Hp) (σ:L2.St) (s:BT.Sl) (x:V) (d:BT.D) (ds:List BT.D) (Q:L2.St->Hp->Prop),RS X.prog X.w X.K m H σ s->RD X.K m H x d->BT.target tg.length d=aa ds →
 (∀ σ',RS X.prog X.w X.K m H σ' (BT.sets tg ds s)->Q σ' H)->g x σ H Q
def Of (K:PP) (n:Nat) (t:TGs):TG:=λv σ H Q=>∃ a xs,v=.ref a/\(SqT K H a xs\/LL K H a xs)/\xs.length=n/\t xs σ H Q
theorem Hi {X:Cx}{es:List P1}{k:Nat}{t:TGs}{n:Nat}{pos:Pos} (hc:X.calm=ah) (h:PGs X es t) (hn:(R8 es X.env).length=n) (hst:(R8 es X.env).findIdx? (·.1)=af):PG X (.Tuple es k pos) (Of X.K n t):=by
 intro zt s σ H v u Q I r hw;obtain ⟨a,xs,rfl,hq|hq,hl,hw⟩:=hw;exact FM hc h hn hst zt s σ H _ u Q I r ⟨a,xs,rfl,hq,hl,hw⟩
 ·cases r;obtain ⟨z,its,n2,rv,hz,e⟩:=rdL I hq;rw[assign_Tuple];refine PR (UB ?_);unfold unpack;rw[hn,hst];refine PR (Ru ?_);have sz:n=its.toArray.size:=by rw[PY,← hl];exact hz
  rw[sz];refine PySem.W.kun_itemsOf (I.ok.hd hc) ⟨_,e,rfl,_,rfl⟩ λh' hx=>?_;have I1:Inv X zt σ H { s with heap:=h' }:=I.kept (t':=s.toks) λb o e=>hx b o (Qu (P7 e)) e;exact h zt _ σ H xs _ Q I1 (by simpa using rv) hw
inductive GsO (X:Cx) (tg:List (Nat×aB)) (es:List P1):Prop where
 | mk (gs:TGs) (h:PGs X es gs) (hn:(R8 es X.env).length=tg.length) (hs:(R8 es X.env).findIdx? (·.1)=af)
  (ok:∀ (m:List P4) (H:Hp) (σ:L2.St) (s:BT.Sl) (vs:List V) (ds:List BT.D) (Q:L2.St->Hp->Prop),RS X.prog X.w X.K m H σ s->RDs X.K m H vs ds->ds.length=tg.length->(∀ σ',RS X.prog X.w X.K m H σ' (BT.sets tg ds s)->Q σ' H)->gs vs σ H Q):GsO X tg es
theorem Og {X:Cx}{sc:QX}{N:List aB} (O:Ok X F G sc N) {tg:List (Nat×aB)}{es:List P1} (h:CTs sc N tg es) (hf:∀ q∈tg,X.fn q.2=ah\/X.env.scope.names.lookup q.2=aa .local):GsO X tg es:=by
 induction h with
 | nil =>
  refine ⟨JF,Cf,rfl,rfl,λm H σ s vs ds Q S r hl q=>?_⟩;cases r with
  | nil=>exact ⟨rfl,q _ S⟩| cons _ _=>cases hl
 | @cons i x p tg es h1 h2 r ih =>
  obtain ⟨gs,hg,hn,hs,ok⟩:=ih λq hq=>hf q (Qe _ hq);refine ⟨_,yF (ve (i:=i) O.nd (by rw[O.hN];exact h1) (nR O h2) (hf (i,x) (by simp))) hg,congrArg (·+1) hn,?_,λm H σ s vs ds Q S r hl q=>?_⟩
  ·show ((ai,U0 (.Name x p) X.env)::R8 es X.env).findIdx? (·.1)=af;rw[List.findIdx?_cons];show (if ai=ah then _ else _)=_;rw[if_neg (by decide),hs];rfl
  ·cases r with
   | nil=>cases hl| @cons v d vs ds ra t=>exact ⟨v,vs,rfl,ok m H (σ.set i (aa v)) (s.set i (aa (.p d))) vs ds Q (S.set (.p ra)) t (Nat.succ.inj hl) q⟩
theorem sCT (O:Ok X F G sc N) (hc:X.calm=ah) (h:CT sc N tg te) (hf:∀ q∈tg,X.fn q.2=ah\/X.env.scope.names.lookup q.2=aa .local):∃ g,PG X te g/\GOk X tg g:=by
 cases h with
 | @one i x p h1 h2 =>
  refine ⟨_,ve (i:=i) O.nd (by rw[O.hN];exact h1) (nR O h2) (hf (i,x) (by simp)),?_⟩;intro m H σ s v d ds Q S r e q;simp only[P9,QJ,Uy,BT.kK] at e;cases e;exact q _ (S.set (.p r))
 | @tup tg es p k hl h =>
  obtain ⟨gs,hg,hn,hs,ok⟩:=Og O h hf;refine ⟨_,Hi (n:=tg.length) hc hg hn hs,?_⟩;intro m H σ s v d ds Q S r e q;have h2:=VF hl;unfold BT.target at e;rw[if_neg (by lia)] at e;cases r with
  | @tup a vs dd h r =>
   rw[BT.sD] at e;obtain ⟨c,e⟩:=dG e;subst e;exact ⟨a,vs,rfl,.inl (h.elim (λq=>.inl q.1) λ⟨o,its,n,q,_⟩=>.inr ⟨o,its,n,q⟩),by rw[r.length];exact c,ok m H σ s vs _ Q S r c q⟩
  | @lst a vs dd h r =>
   rw[BT.sC] at e;obtain ⟨c,e⟩:=dG e;subst e;exact ⟨a,vs,rfl,.inr (h.elim (λq=>.inl q.1) .inr),by rw[r.length];exact c,ok m H σ s vs _ Q S r c q⟩
  | _=>exact cW e
end
end BS
end
section
namespace BC
open PySem
section
theorem xU {target:P1} (I:Nat->PX->Prop)
 (turn:∀ n s,I n s->aA (Qq prog w) A (UY it) (λr s₁=>match r with
  | none=>R (.ok .next) s₁
  | some v=>aA (Qq prog w) A (Ua target it v) (λ_ s₀=>aA (Qq prog w) A (U0 target env v) (λ_ s₂ =>
   aA (Qq prog w) A (forIn ifs ah λc r=>if r=ah then do let ok ← isTrue c env (eval c env);pure (S6 ok) else pure (S6 r)) (λok s₃ =>
    if ok=ah then aA (Qq prog w) A (eval elt env) (λx s₄ =>
     aA (Qq prog w) A (call (.builtin "list.append") [acc,x]) (λ_ s₅=>∃ m,m < n/\I m s₅) (λ_ _=>False) s₄) (λ_ _=>False) s₃
    else ∃ m,m < n/\I m s₃) (λ_ _=>False) s₂) (λ_ _=>False) s₀) (λ_ _=>False) s₁) (λ_ _=>False) s)
 (n:Nat) (h:I n s):au (Qq prog w) A (.compLoop (.ListComp elt [⟨target,iter,ifs,0⟩] scope pos) 0 it acc env) R s:=by
 refine codeAny_loop rfl I (λn s hI=>?_) n h;show aA _ A ((compTurn (.ListComp elt [⟨target,iter,ifs,0⟩] scope pos) 0 it acc env).onRaise (λx=>do noteFrame x env;theTreesLotGoes x)) _ _ s;refine wpAny_noted ?_;rw[compTurn_list];refine PR (UB (PR (Ss (turn n s hI) (λr s₁ h₁=>?_) λ_ _ h'=>h'.elim)));cases r with
 | none=>exact az h₁
 | some v =>
  refine PR (Ss h₁ (λ_ s₀ h₀'=>?_) λ_ _ h'=>h'.elim);refine PR (Ss h₀' (λ_ s₂ h₂=>PR (Ss h₂ (λok s₃ h₃=>?_) λ_ _ h'=>h'.elim)) λ_ _ h'=>h'.elim);cases ok with
  | false=>exact az ⟨rfl,h₃⟩
  | true =>
   exact PR (PR (Ss h₃ (λx s₄ h₄=>PR (Ss h₄ (λ_ s₅ h₅=>az (az ⟨rfl,h₅⟩)) λ_ _ h'=>h'.elim)) λ_ _ h'=>h'.elim))
end
noncomputable def iQ (cells:List (aB×P4)):List (aB×Sy)->List (aB×P4)->List (aB×P4)
 | [],acc=>acc
 | (n,k)::r,acc=>if k==.free then (match cells.lookup n with|some c=>iQ cells r ((n,c)::acc)|none=>iQ cells r acc) else iQ cells r acc
def uE (cells:List (aB×P4)) (names:List (aB×Sy)):Prop:=∀ x∈names,x.2=.free->∃ c,cells.lookup x.1=aa c
theorem nT:∀ (names:List (aB×Sy)) (acc:List (aB×P4)),uE env.cells names →
 (forIn names acc λx (r:List (aB×P4))=>(if x.2==.free then do let c ← cellOf env x.1;pure (S6 ((x.1,c)::r)) else pure (S6 r):Sem (ForInStep (List (aB×P4)))))=pure (iQ env.cells names acc)
 | [],acc,_=>rfl
 | (n,k)::r,acc,h=>by
  have ih:=λacc=>nT (env:=env) r acc λx hx=>h x (Qe _ hx);rw[TN]
  by_cases c:k=.free
  ·subst c;obtain ⟨a,e⟩:=h (n,.free) Qn rfl;have e:env.cells.lookup n=aa a:=e;simp only[iQ,e];show (cellOf env n >>= _) >>= _=_;unfold cellOf;rw[e];exact ih _
  ·have cb:(k==Q7)=ai:=by simpa using c
   simp only[iQ,cb];exact ih _
theorem lK {α β:Type}{m m':Sem α}{f:α->Sem β} (h:m=m'):(m >>= f)=(m' >>= f):=by rw[h]
theorem uF {scope:QX}{env:Env} (h:uE env.cells scope.names):closureFor scope env=pure (iQ env.cells scope.names []):=by have:=nT (env:=env) scope.names [] h;unfold closureFor;exact (lK this).trans rfl
theorem qR:∀ {names:List (aB×Sy)}{acc:List (aB×P4)},(∀ x c,acc.lookup x=aa c->cells.lookup x=aa c)->∀ x c,(iQ cells names acc).lookup x=aa c->cells.lookup x=aa c
 | [],acc,h,x,c,e=>h x c e
 | (n,k)::r,acc,h,x,c,e=>by
  rw[iQ] at e;split at e
  ·split at e
   ·rename_i a ea;refine qR (λy b q=>?_) x c e;rw[Rn] at q;split at q
    ·rename_i hy;have:y=n:=by simpa using hy
     subst this;cases q;exact ea
    exact h y b q
   exact qR h x c e
  exact qR h x c e
theorem mK:∀ {names:List (aB×Sy)}{acc:List (aB×P4)},(∃ c,acc.lookup x=aa c)->∃ c,(iQ cells names acc).lookup x=aa c
 | [],acc,h=>h
 | (n,k)::r,acc,h=>by
  rw[iQ];split
  ·split
   ·refine mK ?_;rw[Rn];split;exact ⟨_,rfl⟩;exact h
   exact mK h
  exact mK h
theorem qS:∀ {names:List (aB×Sy)}{acc:List (aB×P4)},(x,Q7)∈names->(∃ c,cells.lookup x=aa c)->∃ c,(iQ cells names acc).lookup x=aa c
 | [],acc,h,_=>nomatch h
 | (n,k)::r,acc,h,q=>by
  rw[iQ];rcases List.mem_cons.mp h with e|e
  ·cases e;obtain ⟨c,ec⟩:=q;rw[if_pos (by rfl),ec];refine mK ?_;exact ⟨c,by simp⟩
  ·split
   ·split;exact qS e q;exact qS e q
   exact qS e q
end BC
end
section
namespace BS
open PySem PySem.Spec PyProof.Rows L2
variable {cond:BT.Es}
def nU (F:FT) (G:aB->Option BT.W) (sc:QX) (N:List aB) (cond:BT.Es) (ifs:List P1):Prop :=
 (cond=.nil/\ifs=[])\/∃ c c',cond=.cons c .nil/\ifs=[c']/\∀ X',Ok X' F G sc N->PT X' c' (tDT X' F G c)
structure sR (sc:QX) (N tg:List aB) (fv:List (Nat×aB)) (scope:QX):Prop where
 k1:scope.kind=.function
 k2:sc.kind=.function
 cell:∀ y∈scope.names,y.2≠.cell
 loc:∀ y∈scope.names,y.2=.local->scope.names.lookup y.1=aa .local
 free:∀ y∈scope.names,y.2=.free->sc.names.lookup y.1=aa .cell
 fvs:∀ q∈fv,N[q.1]?=aa q.2/\(q.2,Q7)∈scope.names/\sc.names.lookup q.2=aa .cell/\(d8 scope sc).names.lookup q.2=aa .cell
 nd:(tg++fv.map (·.2)).Nodup
theorem pQ:∀ {l:List aB},nG l=ah->l.Nodup
 | [],_=>List.nodup_nil
 | x::r,h=>by simp only[nG,PZ,Uq] at h;refine List.nodup_cons.mpr ⟨λz=>?_,pQ h.2⟩;have:=h.1;simp[z] at this
theorem Lo (h:kq sc N tg fv scope=ah):sR sc N tg fv scope:=by
 simp only[kq,PZ] at h;obtain ⟨⟨⟨⟨⟨⟨h1,h2⟩,h3⟩,h4⟩,h5⟩,h6⟩,h7⟩:=h;rw[RG] at h3 h4 h5 h6;refine ⟨eq_of_beq h1,eq_of_beq h2,λy hy e=>?_,λy hy e=>?_,λy hy e=>?_,λq hq=>?_,pQ h7⟩
 ·have:=h3 y hy;rw[e] at this;simp at this
 ·have:=h4 y hy;rw[e] at this;simpa using this
 ·have:=h5 y hy;rw[e] at this;simpa using this
 ·have:=h6 q hq;simp only[PZ] at this;obtain ⟨⟨⟨a,b⟩,c⟩,d⟩:=this;exact ⟨by simpa using a,by simpa using b,by simpa using c,by simpa using d⟩
theorem kr {sc:QX}{x:aB}{k:Sy} (hk:k=.cell\/k=.free):∀ {names:List (aB×Sy)},(∀ y∈names,y.2≠.cell) →
 (names.map λ(n,k)=>if (k==Q7&&sc.kind==.function&&sc.names.lookup n==aa .cell) then (n,TZ) else (n,k)).lookup x=aa k->(x,Q7)∈names
 | [],_,h=>by simp at h
 | (n,q)::r,hc,h=>by
  have ih:=kr (sc:=sc) (x:=x) hk (names:=r) λy hy=>hc y (Qe _ hy);replace h:Sb x ((if (q==Q7&&sc.kind==.function&&sc.names.lookup n==aa .cell)=ah then (n,TZ) else (n,q))::(r.map λ(n,k)=>if (k==Q7&&sc.kind==.function&&sc.names.lookup n==aa .cell) then (n,TZ) else (n,k)))=aa k:=h;have go:∀ (q':Sy),(q'=q\/(q'=.cell/\q=.free))->Sb x ((n,q')::(r.map λ(n,k)=>if (k==Q7&&sc.kind==.function&&sc.names.lookup n==aa .cell) then (n,TZ) else (n,k)))=aa k->(x,Q7)∈(n,q)::r:=by
   intro q' hq gl;rw[Rn] at gl;split at gl
   ·rename_i hx;have hx:x=n:=by simpa using hx
    subst hx;have e:q'=k:=P5 gl;have hqf:q=.free:=by
     rcases hq with rfl|⟨_,e2⟩
     ·rcases hk with z|z
      exact absurd (e.trans z) (hc (x,q') Qn);exact e.trans z
     exact e2
    rw[hqf];exact Qn
   exact Qe _ (ih gl)
  by_cases c:(q==Q7&&sc.kind==.function&&sc.names.lookup n==aa .cell)=ah
  ·rw[if_pos c] at h;refine go .cell (.inr ⟨rfl,?_⟩) h;simp only[PZ] at c;exact eq_of_beq c.1.1
  ·rw[if_neg c] at h;exact go q (.inl rfl) h
noncomputable def blk (X:Cx) (N':List aB) (s2:PX) (H1:Hp) (scope:QX) (C:P4) (fp:List P4):Cx :=
 { X with N:=N',s₀:=s2,H₀:=H1,env:=VZ scope (BC.iQ X.env.cells scope.names []) C X.env,outer:=X.stack,stack:=X.stack,ex:=fp,fn:=λ_=>ai,pn:=[],xe:=λ_ _=>False }
section
variable {X:Cx}{F:FT}{G:aB->Option BT.W}{sc:QX}{N:List aB}{zt:List (P4×av)}{σ:L2.St}{H1:Hp}{s2:PX}
theorem l7 {scope:QX}{x:aB}{c:P4} (e:(BC.iQ X.env.cells scope.names []).lookup x=aa c):X.env.cells.lookup x=aa c :=
 BC.qR (λ_ _ z=>by simp at z) x c e
theorem sU (hsc:X.env.scope=sc) (x:aB):(VZ scope (BC.iQ X.env.cells scope.names []) C X.env).kindOf x=(d8 scope sc).names.lookup x:=by subst hsc;rfl
theorem vX (I1:Inv X zt σ H1 s2) (hsc:X.env.scope=sc) (cf:sR sc N tg fv scope) (hx:(x,Q7)∈scope.names):∃ c,(BC.iQ X.env.cells scope.names []).lookup x=aa c:=by refine BC.qS hx (I1.ok.has x (.inl ?_));have:=cf.free _ hx rfl;rw[← hsc] at this;exact this
theorem Hj (I1:Inv X zt σ H1 s2) (hsc:X.env.scope=sc) {scope:QX}{tg:List aB}{fv:List (Nat×aB)} (cf:sR sc N tg fv scope) {N':List aB}{C:P4}{fp:List P4} (hC:C=s2.heap.objs.size+1)
 (hf:∀ b∈fp,oK X zt H1 b) (hlt:∀ b∈fp,b < s2.heap.objs.size):(blk X N' s2 H1 scope C fp).Ok where
 mod:=I1.ok.mod
 kind:=cf.k1
 glob:=I1.ok.glob
 blt:=I1.ok.blt
 above:=by show s2.heap.objs.size<=C;rw[hC];exact Sx _
 inj:=λx y c a b=>I1.ok.inj x y c (l7 a) (l7 b)
 has:=λx hx=>by
  refine vX I1 hsc cf ?_;have hx':(d8 scope sc).names.lookup x=aa .cell\/(d8 scope sc).names.lookup x=aa .free:=by rw[← sU hsc (C:=C)];exact hx
  rcases hx' with e|e
  exact kr (.inl rfl) cf.cell e;exact kr (.inr rfl) cf.cell e
 cab:=λx c z=>by cases z
 hd:=I1.ok.hd
 frames:=I1.ok.frames
 stk:=.inl rfl
 exf:=λb hb=>⟨λz=>by have l:=hlt b hb;have z:b=C:=z;rw[z,hC] at l;exact absurd l (Nat.not_lt.mpr (Sx _)),λx c e=>(hf b hb).2.2.2.2.1 x c (l7 e)⟩
 bs:=I1.bs
 bsz:=QD I1.ok.bsz I1.sz
 noex:=λb o e hb=>by
  have q:=(I1.ok.bs b o e).1;rcases (hf b hb).2.2.2.1 with z|z
  exact I1.ok.noex b o e z;exact absurd (P7 q) (Nat.not_lt.mpr z)
 exfs:=λb hb z=>by
  rcases List.mem_cons.mp (I1.qc b z) with e|e
  exact (hf b hb).2.1 e;exact (hf b hb).2.2.1 e
 lA:=I1.stack
 frf:=I1.u9
end
noncomputable def lobj (us:List aC) (n:Nat):av:={ cls:=.type "list",data:=.seq us.toArray n }
section
variable {X:Cx}{F:FT}{G:aB->Option BT.W}{sc:QX}{N:List aB}{zt:List (P4×av)}{σ:L2.St}{H1:Hp}{s2:PX}
noncomputable def ku (n:Nat) (σ:L2.St) (fv:List (Nat×aB)):L2.St:=Qi n af++fv.map λq=>(σ[q.1]?).getD af
theorem DA (I1:Inv X zt σ H1 s2) (hsc:X.env.scope=sc) (hN:X.N=N) (cf:sR sc N tg fv scope) (hC:C=s2.heap.objs.size+1)
 (hf:∀ b∈fp,oK X zt H1 b) (hlt:∀ b∈fp,b < s2.heap.objs.size) (old:∀ b o,s2.heap.get? b=aa o->h1.get? b=aa o) (hns:h1.Ns C m) (hD:h1.get? s2.heap.objs.size=aa (lobj [] 0)) :
 Inv (blk X (tg++fv.map (·.2)) s2 H1 scope C fp) [(s2.heap.objs.size,lobj [] 0)] (ku tg.length σ fv) H1 { s2 with heap:=h1,toks:=tk } where
 ok:=Hj I1 hsc cf hC hf hlt
 os:=rfl
 bare:=I1.bare
 base:=Un.kept old
 loc:=by
  refine ⟨m,hns,λi x v e1 e2 e3=>?_⟩;have e1:(tg++fv.map (·.2))[i]?=aa x:=e1;unfold ku at e2
  by_cases c:i < tg.length
  ·rw[PV (by simpa using c),Sk,if_pos c] at e2;cases e2
  ·rw[QB (by simpa using c)] at e2;rw[QB (by simpa using c)] at e1;simp only[SB,Qj] at e1 e2;cases g:fv[i - tg.length]? with
   | none=>rw[g] at e1;exact cW e1
   | some q =>
    rw[g] at e1 e2;simp only[To,SM] at e1 e2;subst e1;obtain ⟨f1,f2,f3,f4⟩:=cf.fvs q (P8 g);have e2':σ[q.1]?=aa (aa v):=by
     cases gg:σ[q.1]? with
     | none=>rw[gg] at e2;exact cW e2| some o=>rw[gg] at e2;simp only[V6] at e2;rw[e2]
    obtain ⟨m0,hn0,hl0⟩:=I1.loc;obtain ⟨u,ru,lk⟩:=hl0 q.1 q.2 v (by rw[hN];exact f1) e2' (by rw[hsc];exact .inr (.inl f3));refine ⟨u,ru,?_⟩;have kc:X.env.kindOf q.2=aa .cell:=by show X.env.scope.names.lookup q.2=_;rw[hsc];exact f3
    rcases lk with ⟨k,_⟩|⟨k,c,ec,o,ho,hd⟩
    rw[kc] at k;cases k
    ·obtain ⟨c',ec'⟩:=vX I1 hsc cf f2;have:=l7 ec';rw[ec] at this;cases this;refine .inr ⟨.inl ?_,c,ec',o,old c o ho,hd⟩;show (VZ scope (BC.iQ X.env.cells scope.names []) C X.env).kindOf q.2=_;rw[sU hsc];exact f4
 cell:=λx c e=>by obtain ⟨v,o,ho,hd⟩:=I1.cell x c (l7 e);exact ⟨v,o,old c o ho,hd⟩
 free:=I1.hok.fresh (by show s2.heap.objs.size<=C;rw[hC];exact Sx _)
 freeC:=λx c e=>I1.freeC x c (l7 e)
 pin:=λp hp=>by
  have e:p=(s2.heap.objs.size,lobj [] 0):=by have:p∈[]++[(s2.heap.objs.size,lobj [] 0)]:=hp;simpa using this
  subst e;refine ⟨hD,I1.hok.fresh (P6 _),?_,?_,λv z=>by cases (show Data.seq _ _=Data.cell v from z)⟩
  ·show s2.heap.objs.size≠C;rw[hC];exact Qu (RI _)
  ·intro z;obtain ⟨_,o,ho,_⟩:=I1.stack.mem z;exact absurd (P7 ho) (QG _)
 hok:=I1.hok.kept old
 len:=by show (ku tg.length σ fv).length=(tg++fv.map (·.2)).length;simp[ku]
end
noncomputable def tgF:Nat->List aB->List (Nat×aB)
 | _,[]=>[]| k,x::r=>(k,x)::tgF (k+1) r
noncomputable abbrev tgI (tg:List aB):List (Nat×aB):=tgF 0 tg
theorem qT:∀ (tg:List aB) (k:Nat),(tgF k tg).length=tg.length
 | [],_=>rfl| _::r,k=>congrArg (·+1) (qT r (k+1))
theorem vY {q:Nat×aB}:∀ {tg:List aB}{k:Nat},q∈tgF k tg->q.2∈tg
 | x::r,k,h=>by
  rcases List.mem_cons.mp h with rfl|h
  exact Qn;exact Qe _ (vY h)
theorem vZ (h:nmE te=aa x):∃ p,te=.Name x p:=by
 cases te with
 | Name y p=>cases h;exact ⟨p,rfl⟩| _=>exact absurd (show (af:Option aB)=aa _ from h) (λz=>nomatch z)
theorem AC (h:GK te=a::l):∃ k p,te=.Tuple (a::l) k p:=by
 cases te with
 | Tuple xs k p=>cases h;exact ⟨k,p,rfl⟩| _=>exact absurd (show ([]:List P1)=_::_ from h) (λz=>nomatch z)
theorem AD {sc:QX}{fs:List aB}:∀ (tg:List aB) {pre:List aB}{es:List P1},tg.map aa=es.map nmE->(∀ x∈tg,nQ sc x=ah)->CTs sc (pre++(tg++fs)) (tgF pre.length tg) es
 | [],pre,es,e,_=>by
  cases es with
  | nil=>exact .nil| cons _ _=>cases e
 | x::r,pre,es,e,h=>by
  cases es with
  | nil=>cases e
  | cons a es =>
   obtain ⟨p,rfl⟩:=vZ (Vg e).symm;have q:=AD (fs:=fs) r (pre:=pre++[x]) (List.tail_eq_of_cons_eq e) λy hy=>h y (Qe _ hy);rw[QU,Qk] at q;exact .cons (by simp) (h x Qn) q
theorem DB (h:sJ sc tg te=ah):CT sc (tg++fs) (tgI tg) te/\(tgI tg).length=tg.length/\∀ q∈tgI tg,sc.names.lookup q.2=aa .local:=by
 have st:∀ {x:aB},sc.names.lookup x=aa .local->nQ sc x=ah:=λe=>by unfold nQ;rw[e]
 unfold sJ at h;rw[PZ,So,PZ,RG] at h;obtain ⟨h,ha⟩:=h;have lo:∀ {x},x∈tg->sc.names.lookup x=aa .local:=λ{x} hx=>eq_of_beq (ha x hx);rcases h with h|⟨h1,h2⟩
 ·have e:=eq_of_beq h;cases tg with
  | nil=>exact absurd (congrArg UN e) (by simp)
  | cons x r =>
   cases r with
   | cons _ _=>exact absurd (congrArg UN e) (by simp)
   | nil =>
    obtain ⟨p,rfl⟩:=vZ (Vg e).symm;have l:sc.names.lookup x=aa .local:=lo Qn;exact ⟨.one rfl (st l),rfl,λq hq=>by rw[List.mem_singleton.mp hq];exact l⟩
 ·have e:=eq_of_beq h2;cases g:GK te with
  | nil=>rw[g] at e;cases tg with
   | nil=>exact BT.eW h1| cons _ _=>cases e
  | cons a l =>
   rw[g] at e;obtain ⟨k,p,rfl⟩:=AC g;exact ⟨.tup (by rw[qT];exact h1) (AD (pre:=[]) tg e λx hx=>st (lo hx)),qT _ _,λq hq=>lo (vY hq)⟩
theorem v7:∀ (tg:List aB) (k:Nat) (ds:List BT.D) (sl:BT.Sl),ds.length=tg.length->k+tg.length<=sl.length->BT.sets (tgF k tg) ds sl=sl.take k++(ds.map BT.fO++sl.drop (k+tg.length))
 | [],k,ds,sl,h,_=>by cases List.length_eq_zero_iff.mp h;exact (List.take_append_drop k sl).symm
 | x::r,k,ds,sl,h,hl=>by
  cases ds with
  | nil=>cases h
  | cons d ds =>
   rw[P9] at hl;have kl:k < sl.length:=by lia
   show BT.sets (tgF (k+1) r) ds (sl.set k (aa (.p d)))=_;rw[v7 r (k+1) ds _ (Nat.succ.inj h) (by rw[QS];lia),List.drop_set_of_lt (by lia),List.take_succ,Qw kl,List.take_set,List.set_eq_of_length_le (by rw[Tj];lia),QU,show k+1+r.length=k+(x::r).length by rw[P9];lia];rfl
theorem uG {n:Nat}{d:BT.D}{ds:List BT.D} (h:BT.target n d=aa ds):ds.length=n:=by
 unfold BT.target at h
 by_cases c:n=1
 rw[if_pos c] at h;cases h;exact c.symm
 ·rw[if_neg c] at h;cases d with
  | tup xs=>rw[BT.sD] at h;obtain ⟨c,h⟩:=dG h;rw[← h];exact c| lst xs=>rw[BT.sC] at h;obtain ⟨c,h⟩:=dG h;rw[← h];exact c| _=>exact cW h
theorem DC (h:(tgI tg).length=tg.length) (h0:tg≠[]) (hd:BT.target tg.length d0=aa ds) (hl:sl.length=tg.length+fs.length) (hr:sl.drop tg.length=fs) :
 BT.sets (tgI tg) ds sl=ds.map BT.fO++fs/\(ds.map BT.fO++fs).length=tg.length+fs.length/\(ds.map BT.fO++fs).drop tg.length=fs:=by
 have hn:=uG hd;have g:=v7 tg 0 ds sl hn (by lia);rw[Uy,hr] at g;have le:(ds.map BT.fO).length=tg.length:=by rw[Qt];exact hn
 exact ⟨g,by rw[Qk,le],by rw[← le];exact List.drop_left⟩
theorem lM:∀ {fv:List (Nat×aB)}{fs:BT.Sl},BT.frees s fv=aa fs->fs.length=fv.length/\∀ (i:Nat) (q:Nat×aB),fv[i]?=aa q->fs[i]?=s[q.1]?
 | [],fs,e=>by simp[BT.frees] at e;subst e;exact ⟨rfl,λi q z=>by simp at z⟩
 | q::r,fs,e=>by
  simp only[BT.frees] at e;cases g:s[q.1]? with
  | none=>rw[g] at e;exact cW e
  | some w =>
   rw[g] at e;obtain ⟨fs',e1,e2⟩:=dH e;subst e2;obtain ⟨h1,h2⟩:=lM e1;refine ⟨by simp[h1],λi p z=>?_⟩;cases i with
   | zero=>simp at z;subst z;simp[g]| succ i=>simpa using h2 i p (by simpa using z)
theorem xV {K:PP} (S:RS P w K m H σ s) (hf:BT.frees s fv=aa fs):RS P w K m H (ku n σ fv) (Qi n af++fs):=by
 obtain ⟨h1,h2⟩:=lM hf;refine ⟨by simp[ku,h1],λi y e=>?_⟩
 by_cases c:i < n
 ·rw[PV (by simpa using c),Sk,if_pos c] at e;cases e
 ·rw[QB (by simpa using c)] at e;simp only[SB] at e;have hi:i - n < fv.length:=by
   rw[← h1];rcases Qs (i - n) fs.length with z|z
   exact z;rw[Qc z] at e;exact cW e
  have g:=P0 hi;rw[h2 _ _ g] at e;obtain ⟨v,hv,r⟩:=S.get _ _ e;refine ⟨v,?_,r⟩;unfold ku;rw[QB (by simpa using c)];simp only[SB,Qj,g,To,hv,V6]
theorem DE {rest:List BT.D} (e:BT.d7 f n (d::r) h=aa (rest,h2)) :
 ∃ xs o hA rest',BT.target n d=aa xs/\f xs h=aa (o,hA)/\BT.d7 f n r hA=aa (rest',h2)/\rest=(match o with|some x=>x::rest'|none=>rest'):=by
 rw[BT.d7] at e;cases g:BT.target n d with
 | none=>rw[g] at e;exact cW e
 | some xs =>
  rw[g] at e;obtain ⟨o,hA,e1,e2⟩:=cZ e;unfold BT.zo at e2;obtain ⟨rest',h3,e3,e4⟩:=cZ e2;unfold BT.vz at e4;cases e4;exact ⟨xs,o,hA,rest',rfl,e1,e3,rfl⟩
theorem Un.behind (u:Un fs ex H H' h h1) (a:∀ b,b < h.objs.size->H2 b=H' b) (lt:∀ b o,H b=aa o->b < h.objs.size) (k:∀ b o,b < h.objs.size->h1.get? b=aa o->h2.get? b=aa o):Un fs ex H H2 h h2 where
 keep:=λb o e n c d=>k b o (P7 e) (u.keep b o e n c d)
 slot:=λb o e n c d=>by obtain ⟨sl,q⟩:=u.slot b o e n c d;exact ⟨sl,k b _ (P7 e) q⟩
 free:=λb o e n d=>by rw[a b (P7 e)];exact u.free b o e n d
 there:=λb o e d=>by obtain ⟨o',q⟩:=u.there b o e d;exact ⟨o',k b o' (P7 e) q⟩
 tups:=λb xs e=>by rw[a b (lt b _ e)];exact u.tups b xs e
 frzs:=λb o w e=>by rw[a b (lt b _ e)];exact u.frzs b o w e
 tbls:=λb ps e=>by rw[a b (lt b _ e)];exact u.tbls b ps e
section
theorem Hl (O:Ok X F G sc N) (hu:gR N=ah) (cf:sR sc N tg fv scope) :
 Ok (blk X (tg++fv.map (·.2)) s2 H1 scope C fp) F G (d8 scope sc) (tg++fv.map (·.2)) where
 hsc:=by have:=O.hsc;subst this;rfl
 hN:=rfl
 nd:=cf.nd
 calm:=λ_=>O.calm hu
 hu:=O.hu
 own:=VC
 glob:=O.glob
 call:=O.call
 meth:=O.meth
 mkc:=O.mkc
 blt:=O.blt
 lam:=O.lam
 lamx:=λh=>absurd (show ai=ah from h "") (by decide)
theorem AE (e:BT.nC mu sr n (aa fs) ec ee ws h=aa z) (g:(BT.rds ws h).bind (BT.gP sr)=aa ds) :
 vU sr ws/\∃ f',(∀ xs h r,f' xs h=aa r->BT.gA ec ee fs xs h=aa r/\qP ws ds r.2)/\qP ws ds h/\BT.bnd (BT.d7 f' n ds h) (BT.iN mu)=aa z:=by
 unfold BT.nC at e;rw[g] at e;simp only at e
 by_cases ca:BT.jx ws=ah
 ·rw[if_pos ca] at e;exact ⟨.inl ca,_,λxs h r q=>⟨q,nP ca⟩,nP ca,e⟩
 ·rw[if_neg ca] at e;have two:sr=.seq/\∃ q,ws=[.r q]:=by unfold BT.uw at e;split at e;exact ⟨rfl,_,rfl⟩;exact cW e
  obtain ⟨rfl,q,rfl⟩:=two;rw[BT.zy] at e;have gl:BT.lat h q=aa ds:=by
   simp only[BT.rds,BT.rd,To] at g;cases g1:BT.lat h q with
   | none=>rw[g1] at g;exact cW g| some xs=>rw[g1] at g;cases g;rfl
  refine ⟨.inr ⟨rfl,q,rfl⟩,_,λxs h r q=>?_,λq' e'=>by cases e';exact gl,e⟩;unfold BT.chk at q;cases g2:BT.gA ec ee fs xs h with
  | none=>rw[g2] at q;exact cW q
  | some r2 =>
   rw[g2] at q;simp only at q;split at q
   ·rename_i c;cases q;exact ⟨rfl,λq' e'=>by cases e';exact c⟩
   exact cW q
inductive LI (X:Cx) (F:FT) (G:aB->Option BT.W) (scope:QX) (tg:List aB) (fv:List (Nat×aB)) (cond:BT.Es) (elt:BT.E) (s2:PX) (H1:Hp) (C:P4) (fp:List P4) (tn:Nat->ay->Prop) (m1:List P4) (ds outs:List BT.D) (fs:BT.Sl) (h2:BT.HH) (f':List BT.D->BT.HH->Option (Option BT.D×BT.HH)) (Cc:BT.HH->Prop) (n:Nat) (s:PX):Prop where
 | mk (i:Nat) (σ':L2.St) (H':Hp) (m':List P4) (hh:BT.HH) (out rest:List BT.D) (vs:List V) (us:List aC) (nn:Nat) (sl:BT.Sl) (p0:i<=ds.length) (p1:n=ds.length - i) (p2:Inv (blk X (tg++fv.map (·.2)) s2 H1 scope C fp) [(s2.heap.objs.size,lobj us nn)] σ' H' s) (p3:tn i s.heap) (p4:(∀ b∈fp,H' b=af)) (p5:Ext m1 H1 m' H') (p6:RH X.K m' H' hh) (p7:RS X.prog X.w X.K m' H' σ' sl) (p8:sl.length=tg.length+fs.length) (p9:sl.drop tg.length=fs) (p10:dw vs us) (p11:RDs X.K m' H' vs out) (p12:BT.d7 f' tg.length (ds.drop i) hh=aa (rest,h2)) (p13:out++rest=outs) (p14:Cc hh):LI X F G scope tg fv cond elt s2 H1 C fp tn m1 ds outs fs h2 f' Cc n s
structure Apart (X:Cx) (zt:List (P4×av)) (H:Hp) (C:P4):Prop where
 fr:H C=af
 lo:C≠X.env.locals
 ab:X.s₀.heap.objs.size<=C
 ce:∀ x c,X.env.cells.lookup x=aa c->c≠C
 pi:∀ p∈X.pn++zt,p.1≠C
theorem pR (O:Ok X F G sc N) (hu:gR N=ah) 
 (hk:kq sc N tg fv scope=ah) (ht:sJ (d8 scope sc) tg te=ah) (hset:ko iter=ah) (hI:PI X te iter (iD X F G sr sa)) (hC:nU F G (d8 scope sc) (tg++fv.map (·.2)) cond ifs)
 (hE:∀ X',Ok X' F G (d8 scope sc) (tg++fv.map (·.2))->PE X' elt' (tD X' F G elt)):∀ (zt:List (P4×av)) (s:PX) (σ:L2.St) (H:Hp) (Q:VK) (use:Option (aC->Sem Unit)) (Q':aC->PX->Prop),Inv X zt σ H s->tD X F G (.comp mu sr sa tg fv cond elt) σ H Q →
 (∀ (s6:PX) (H6:Hp) (C D:P4) (m:aB->Option aC),Inv X zt σ H6 s6->s6.heap.Ns C m->Apart X zt H6 C->Q (.ref D) H6->compPost (Qq X.prog X.w) X.A X.xe use Q' (.ref D) C (.ok .next) s6) →
 aA (Qq X.prog X.w) X.A (comprehension (.ListComp elt' [⟨te,iter,ifs,0⟩] scope pos) scope X.env (firstIterPos [⟨te,iter,ifs,0⟩] pos) (newList []) ai (eval iter X.env) use) Q' X.xe s:=by
 have cf:=Lo hk;obtain ⟨ct,tl,tloc⟩:=DB (fs:=fv.map (·.2)) ht;have t0:tg≠[]:=by
  rintro rfl
  simp[sJ] at ht
 intro zt s σ H Q use Q' I q hfin;obtain ⟨m,s',h,z,h',R,S,ee,zr⟩:=q;simp only[BT.ev] at ee;obtain ⟨ws,h1,e1,e2⟩:=cZ ee;cases g1:(BT.rds ws h1).bind (BT.gP sr) with
 | none=>unfold BT.nC at e2;rw[g1] at e2;exact cW e2
 | some ds =>
  cases g2:BT.frees s' fv with
  | none=>unfold BT.nC at e2;rw[g1,g2] at e2;exact cW e2
  | some fs =>
   rw[g2] at e2;obtain ⟨ca,f',hf',c1,e2⟩:=AE e2 g1;obtain ⟨outs,h2,e3,e4⟩:=cZ e2;unfold BT.iN at e4
   by_cases cl:outs.length<=BT.lim
   case neg=>rw[if_neg cl] at e4;exact cW e4
   rw[if_pos cl] at e4;have ez:BT.new mu outs h2=(z,h'):=P5 e4;have hfree:BC.uE X.env.cells scope.names:=λx hx e=>I.ok.has x.1 (.inl (by
    have:=cf.free x hx e;show X.env.scope.names.lookup x.1=_;rw[O.hsc];exact this))
   refine wpAny_comprehension_free (use:=use) rfl (vW hset) (BC.uF hfree) cf.k1 cf.loc
    (thn (hI zt s σ H (λJ H1=>∃ m1,Ext m H m1 H1/\RH X.K m1 H1 h1/\uD X.K J m1 H1 ds (qP ws ds)) I ⟨m,s',h,ws,h1,ds,R,S,e1,g1,ca,λH1 m1 J x1 R1 it=>⟨m1,x1,R1,it⟩⟩) λv s1 hv=>thn hv λitv s2 h2'=>?_)
   obtain ⟨it,fp,tn,J,H1,rfl,I1,T,st,hf,m1,x1,R1,ito⟩:=h2';have hlt:∀ b∈fp,b < s2.heap.objs.size:=λb hb=>by obtain ⟨o,ho,_⟩:=T.obj 0 _ st b hb;exact P7 ho
   refine RB (wpAny_newFunctionEnv cf.cell (by intro y hy;simp at hy) (λh3 hns hsb=>?_) cf.k1);dsimp only at hns hsb ⊢;generalize hH2:s2.heap.push { cls:=.type "list",dict:=af,data:=.seq ([]:List aC).toArray }=H2 at hns hsb ⊢;have hCs:H2.objs.size=s2.heap.objs.size+1:=by rw[← hH2,Q8]
   have old:∀ b o,s2.heap.get? b=aa o->h3.get? b=aa o:=λb o e=>hsb.extBut b o (by rw[hCs];exact Qu (Nat.lt_succ_of_lt (P7 e))) (PU _ (hH2 ▸ PU _ e));have hacc:h3.get? s2.heap.objs.size=aa (lobj [] 0):=hsb.extBut _ _ (by rw[hCs];exact Qu (RI _)) (PU _ (hH2 ▸ Qf _ rfl));have I4:=DA (tk:=s2.toks+([]:List (aB×aC)).length) I1 O.hsc O.hN cf hCs hf hlt old hns hacc;have O':=Hl (s2:=s2) (H1:=H1) (C:=H2.objs.size) (fp:=fp) O hu cf;obtain ⟨g,hg1,hg2⟩:=sCT O' (O.calm hu) ct λq hq=>.inr (by rw[O'.hsc];exact tloc q hq);have hfl:fs.length=fv.length:=(lM g2).1;have stat:∀ {H':Hp}{o:av},(∀ b∈fp,H' b=af)->∀ b∈fp,oK (blk X (tg++fv.map (·.2)) s2 H1 scope H2.objs.size fp) [(s2.heap.objs.size,o)] H' b:=λ{H' o} hn b hb=>by
    refine ⟨hn b hb,?_,?_,.inl hb,λx c e=>(hf b hb).2.2.2.2.1 x c (l7 e),λp hp=>?_⟩
    ·show b≠H2.objs.size;rw[hCs];exact Qu (Nat.lt_succ_of_lt (hlt b hb))
    ·intro zz;rcases List.mem_cons.mp (I1.qc b zz) with e|e
     exact (hf b hb).2.1 e;exact (hf b hb).2.2.1 e
    ·have hp':p=(s2.heap.objs.size,o):=by have:p∈[]++[(s2.heap.objs.size,o)]:=hp;simpa using this
     rw[hp'];show s2.heap.objs.size≠b;exact Q5 (hlt b hb)
   have loop:∀ s4:PX,s4={ s2 with heap:=h3,toks:=s2.toks+([]:List (aB×aC)).length } →
    au (Qq X.prog X.w) X.A (.compLoop (.ListComp elt' [⟨te,iter,ifs,0⟩] scope pos) 0 (.ref it) (.ref s2.heap.objs.size) (VZ scope (BC.iQ X.env.cells scope.names []) H2.objs.size X.env))
     (compPost (Qq X.prog X.w) X.A X.xe use Q' (.ref s2.heap.objs.size) H2.objs.size) s4:=by
    rintro s4 rfl
    refine BC.xU (LI X F G scope tg fv cond elt s2 H1 H2.objs.size fp tn m1 ds outs fs h2 f' (qP ws ds)) ?_
     ds.length ⟨0,_,H1,m1,h1,[],outs,[],[],0,_,RC _,rfl,I4,T.keep 0 _ _ st (λb hb o e=>old b o e),λb hb=>(hf b hb).1,.refl _ _,R1,xV (S.ext x1) g2,by simp,by simp,.nil,.nil,by rw[List.drop_zero];exact e3,rfl,c1⟩
    rintro n s5 ⟨i,σ5,H5,m5,hh,out,rest,vs,us,nn,sl,hi,rfl,I5,st5,fr5,x5,R5,S5,sl1,sl2,rv5,rd5,go5,ou5,cc5⟩
    by_cases c:i < ds.length
    ·rw[U6 c] at go5;obtain ⟨xs,o,hA,rest',eT,eF,eG,eR⟩:=DE go5;obtain ⟨eF,cA⟩:=hf' _ _ _ eF;refine thn (T.item (blk X (tg++fv.map (·.2)) s2 H1 scope H2.objs.size fp) rfl rfl rfl (O.calm hu) i _ s5 σ5 H5 _ I5 (stat fr5) st5 (ito.go m5 H5 hh i x5 R5 cc5 c)) λr s6 hr=>?_;obtain ⟨u,rfl,hr⟩:=hr;refine thn hr λ_ s7 zq=>?_;obtain ⟨x,H7,I7,r7,y7,st7,fr7⟩:=zq;obtain ⟨x7,k7,rd7⟩:=ito.yld m5 H5 hh i x H7 ds[i] x5 R5 cc5 (P0 c) y7;have R7:=R5.ext x7 k7;have I7':=I7.pinned (stat fr7) (T.obj _ _ st7);obtain ⟨sq1,sq2,sq3⟩:=DC tl t0 eT sl1 sl2;refine thn (hg1 _ s7 σ5 H7 x u (fun σ8 H8=>H8=H7/\RS X.prog X.w X.K m5 H7 σ8 (xs.map BT.fO++fs)) I7' r7 (hg2 m5 H7 σ5 sl x ds[i] xs _ (S5.ext x7) rd7 (by rw[tl];exact eT) fun σ8 S8=>⟨rfl,by rw[← sq1];exact S8⟩)) λ_ s8 h8=>?_;obtain ⟨σ8,H8,I8,rfl,S8⟩:=h8;have kept:∀ {s9:PX}{σ9:L2.St}{H9:Hp},Inv (blk X (tg++fv.map (·.2)) s2 H1 scope H2.objs.size fp) ([(s2.heap.objs.size,lobj us nn)]++lB fp s7.heap) σ9 H9 s9->tn (i+1) s9.heap/\∀ b∈fp,H9 b=af:=λ{s9 σ9 H9} I9=>by refine ⟨T.keep _ _ _ st7 λb hb o e=>(I9.pin (b,o) (QH _ (QH _ (iT hb e)))).1,λb hb=>?_⟩;obtain ⟨o,e,_⟩:=T.obj _ _ st7 b hb;exact (I9.pin (b,o) (QH _ (QH _ (iT hb e)))).2.1
     have elem:∀ {s9:PX}{H9:Hp}{m9:List P4}{h9:BT.HH}{w:BT.W}{hB:BT.HH}{d:BT.D},Inv (blk X (tg++fv.map (·.2)) s2 H1 scope H2.objs.size fp) ([(s2.heap.objs.size,lobj us nn)]++lB fp s7.heap) σ8 H9 s9->Ext m5 H8 m9 H9->RH X.K m9 H9 h9 →
      BT.ev F G elt (xs.map BT.fO++fs) h9=aa (w,hB)->BT.oS w hB=aa (aa d,hA)->o=aa d →
      aA (Qq X.prog X.w) X.A (eval elt' (VZ scope (BC.iQ X.env.cells scope.names []) H2.objs.size X.env)) (λx s₄ =>
       aA (Qq X.prog X.w) X.A (call (.builtin "list.append") [.ref s2.heap.objs.size,x]) (λ_ s₅=>∃ m,m < ds.length - i/\LI X F G scope tg fv cond elt s2 H1 H2.objs.size fp tn m1 ds outs fs h2 f' (qP ws ds) m s₅) (λ_ _=>False) s₄) (λ_ _=>False) s9:=by
      intro s9 H9 m9 h9 w hB d I9 x9 R9 eE eK eO;have ew:w=.p d/\hB=hA:=by
       unfold BT.oS at eK;cases w with
       | p d'=>cases eK;exact ⟨rfl,rfl⟩| _=>exact cW eK
      obtain ⟨rfl,rfl⟩:=ew;refine thn (hE _ O' _ s9 σ8 H9 (λv Ha=>∃ ma,Ext m9 H9 ma Ha/\RH X.K ma Ha hB/\RD X.K ma Ha v d) I9 ⟨m9,_,h9,_,hB,R9,S8.ext x9,eE,λv Ha ma xa Ra ra=>by cases ra with|p ra=>exact ⟨ma,xa,Ra,ra⟩⟩) λu10 s10 ⟨v10,H10,I10,r10,m10,x10,R10,rd10⟩=>?_
      obtain ⟨pD,nD,neD,nfD,_⟩:=I10.pin (s2.heap.objs.size,lobj us nn) (by simp);have lus:=rv5.length;have lvs:=rd5.length;have lou:out.length<=outs.length:=by rw[← ou5];simp
      have lle:=fP;have cl':outs.length<=BT.lim:=cl;refine wpAny_list_append_plain ⟨nn,pD⟩ (λh11 hp11 sb11=>?_) (by rw[PY];lia);obtain ⟨nn',hp11⟩:=hp11;have hp11:h11.get? s2.heap.objs.size=aa (lobj (us++[u10]) nn'):=by rw[hp11];simp[lobj]
      have sb11:Si s2.heap.objs.size s10.heap h11:=sb11;obtain ⟨st10,fr10⟩:=kept I10;have I11:Inv (blk X (tg++fv.map (·.2)) s2 H1 scope H2.objs.size fp) [] σ8 H10 { s10 with heap:=h11 } :=
       Inv.turned (t':=s10.toks) (I10.mF (λp hp=>by cases hp)) (λb o hb e=>(sb11.2 b hb).trans e) nD neD (.inr (P6 _)) (λx c e zz=>by obtain ⟨v,o,ho,_⟩:=I1.cell x c (l7 e);have:=P7 ho;rw[zz] at this;exact absurd this (QG _)) λp hp=>by cases hp
      have I12:Inv (blk X (tg++fv.map (·.2)) s2 H1 scope H2.objs.size fp) [(s2.heap.objs.size,lobj (us++[u10]) nn')] σ8 H10 { s10 with heap:=h11 }:=I11.mF λp hp=>by simp only[List.mem_singleton] at hp;subst hp;exact ⟨hp11,nD,neD,nfD,λv zz=>by cases (show Data.seq _ _=Data.cell v from zz)⟩
      have xt:Ext m5 H5 m10 H10:=(x7.trans x9).trans x10;refine ⟨ds.length - (i+1),by lia,i+1,σ8,H10,m10,hB,out++[d],rest',vs++[v10],us++[u10],nn',_,c,rfl,I12,?_,fr10,x5.trans xt,R10,(S8.ext x9).ext x10,sq2,sq3,rv5.append (.cons r10 .nil),(rd5.ext xt).append (.cons rd10 .nil),eG,?_,cA⟩
      ·refine T.keep _ _ _ st10 λb hb o' e=>(sb11.2 b ?_).trans e;exact Qu (hlt b hb)
      rw[← ou5,eR,eO,QU];rfl
     unfold BT.gA at eF;obtain ⟨cs,hc,eC,eK⟩:=cZ eF;rcases hC with ⟨rfl,rfl⟩|⟨cc,cc',rfl,rfl,hCC⟩
     ·simp only[BT.evs] at eC;cases eC;have eK:=(show BT.bnd _ BT.oS=_ from eK);obtain ⟨w,hB,eE,eL⟩:=cZ eK;refine wpAny_tests_nil ?_;rw[if_pos rfl];have:∃ d,o=aa d:=by
       unfold BT.oS at eL;cases w with
       | p d'=>cases eL;exact ⟨_,rfl⟩| _=>exact cW eL
      obtain ⟨d,rfl⟩:=this;exact elem I8 (.refl _ _) R7 eE eL rfl
     ·simp only[BT.evs] at eC;obtain ⟨wc,hc2,eC1,eC2⟩:=cZ eC;simp only[BT.j3,BT.dQ,BT.gQ] at eC2;cases eC2;have hb:∃ b,wc=.p (.bl b):=by
       cases wc with
       | p d =>
        cases d<;>first|exact ⟨_,rfl⟩|exact cW eK
       | _=>exact cW eK
      obtain ⟨b,rfl⟩:=hb;refine wpAny_tests_one (thn (hCC _ O' _ s8 σ8 H8 (λb' Ha=>b'=b/\∃ ma,Ext m5 H8 ma Ha/\RH X.K ma Ha hc) I8 ⟨m5,_,hh,b,hc,R7,S8,eC1,λHa ma xa Ra=>⟨rfl,ma,xa,Ra⟩⟩) λb' s9 zq=>?_);obtain ⟨H9,I9,hbb,m9,x9,R9⟩:=zq;subst hbb;cases b' with
      | false =>
       have eK:=(show aa ((af:Option BT.D),hc)=aa _ from eK);cases eK;rw[if_neg (by decide)];obtain ⟨st9,fr9⟩:=kept I9;have xt:Ext m5 H5 m9 H9:=x7.trans x9;refine ⟨ds.length - (i+1),by lia,i+1,σ8,H9,m9,hA,out,rest',vs,us,nn,_,c,rfl,I9.kG,st9,fr9,x5.trans xt,R9,S8.ext x9,sq2,sq3,rv5,rd5.ext xt,eG,?_,cA⟩;rw[← ou5,eR]
      | true =>
       have eK:=(show BT.bnd _ BT.oS=_ from eK);rw[if_pos rfl];obtain ⟨w,hB,eE,eL⟩:=cZ eK;have:∃ d,o=aa d:=by
        unfold BT.oS at eL;cases w with
        | p d'=>cases eL;exact ⟨_,rfl⟩| _=>exact cW eL
       obtain ⟨d,rfl⟩:=this;exact elem I9 x9 R9 eE eL rfl
    ·have ei:i=ds.length:=by lia
     subst ei;rw[List.drop_length,BT.d7] at go5;cases go5;rw[Rf] at ou5;subst ou5;refine thn (T.done (blk X (tg++fv.map (·.2)) s2 H1 scope H2.objs.size fp) rfl rfl rfl (O.calm hu) _ _ s5 σ5 H5 _ I5 (stat fr5) st5 (ito.stop m5 H5 _ x5 R5 cc5)) λr s6 zq=>?_;obtain ⟨hr,I6⟩:=zq;subst hr;obtain ⟨mm,hmm,_⟩:=I6.loc;obtain ⟨pD,nD,neD,nfD,_⟩:=I6.pin (s2.heap.objs.size,lobj us nn) (by simp);have neD:s2.heap.objs.size≠H2.objs.size:=neD;have hos:s6.os=s2.os:=I6.os;have lus:=rv5.length;have lvs:=rd5.length;have lle:=fP;have cl':out.length<=BT.lim:=cl;have hok:HOk X.prog X.w (upd H5 s2.heap.objs.size (.lst vs)) s6.heap:=λb u e=>by
      by_cases eb:b=s2.heap.objs.size
      ·subst eb;rw[ef] at e;cases e;exact ⟨by lia,us,nn,rv5,pD⟩
      ·rw[dD eb] at e;refine (I6.hok b u e).stay (λc v hc q=>q) (λc q=>?_) λc l q=>?_;rw[dD (λzz=>by rw[zz,nD] at q;exact cW q)];exact q;rw[dD (λzz=>by rw[zz,nD] at q;exact cW q)];exact q
     have u7:Un (frs X.stack) fp H1 (upd H5 s2.heap.objs.size (.lst vs)) s2.heap s6.heap:=Un.behind (h1:=s6.heap) I6.base (λb hb=>dD (Qu hb)) (λb o e=>I1.hok.lt e) λb o hb e=>e;have I7:=I1.call (g':=s6.gens) (t':=s6.toks) (d':=s6.drawn) (ch:=fp) u7 hok I6.bare λb hb=>⟨(hf b hb).2.2.2.1,(hf b hb).2.1,(hf b hb).2.2.2.2.1,(hf b hb).2.2.2.2.2⟩;have fr6:H5 H2.objs.size=af:=I6.free;have ltC:s2.heap.objs.size < H2.objs.size:=by rw[hCs];exact RI _
     have ap:Apart X zt (upd H5 s2.heap.objs.size (.lst vs)) H2.objs.size:=by
      refine ⟨by rw[dD (QW neD)];exact fr6,?_,?_,λx c e zz=>?_,λp hp zz=>?_⟩;exact Q5 (TY I1.lt ltC);exact QD I1.sz (SC ltC)
      ·obtain ⟨v,o,ho,_⟩:=I1.cell x c e;have l:=P7 ho;rw[zz] at l;exact absurd (TY l ltC) (QG _)
      ·have l:=P7 (I1.pin p hp).1;rw[zz] at l;exact absurd (TY l ltC) (QG _)
     refine hfin s6 _ _ _ mm ?_ hmm ap (qE (mu:=mu) R5 nD rd5 (by rw[ez];exact λv' H' m' xx RR rr=>zr v' H' m' ((x1.trans x5).trans xx) RR rr));obtain ⟨hp6,g6,d6,t6,os6⟩:=s6;have hos:os6=s2.os:=hos;subst hos;exact I7
   exact codeAny_compStart_list (loop _ rfl) (T.self _ 0 _ _ _ (T.keep 0 _ _ st (λb hb o e=>old b o e)) (loop _ rfl))
theorem DF (O:Ok X F G sc N) (hu:gR N=ah) 
 (hk:kq sc N tg fv scope=ah) (ht:sJ (d8 scope sc) tg te=ah) (hset:ko iter=ah) (hI:PI X te iter (iD X F G sr sa)) (hC:nU F G (d8 scope sc) (tg++fv.map (·.2)) cond ifs)
 (hE:∀ X',Ok X' F G (d8 scope sc) (tg++fv.map (·.2))->PE X' elt' (tD X' F G elt)):PE X (.ListComp elt' [⟨te,iter,ifs,0⟩] scope pos) (tD X F G (.comp mu sr sa tg fv cond elt)):=by
 intro zt s σ H Q I q;rw[eval_ListComp];refine pR O hu hk ht hset hI hC hE zt s σ H Q af _ I q λs6 H6 C D m I6 hn ap hq=>?_;refine ⟨m,hn,λh7 sb7=>?_⟩;have sb7:Si C s6.heap h7:=sb7;exact ⟨.ref D,H6,Inv.turned (t':=s6.toks) I6 (λb o hb e=>(sb7.2 b hb).trans e) ap.fr ap.lo (.inr ap.ab) ap.ce ap.pi,rfl,hq⟩
theorem DG (O:Ok X F G sc N) (hu:gR N=ah) 
 (hk:kq sc N tg fv scope=ah) (ht:sJ (d8 scope sc) tg te=ah) (hset:ko iter=ah) (hI:PI X te iter (iD X F G sr sa)) (hC:nU F G (d8 scope sc) (tg++fv.map (·.2)) cond ifs)
 (hE:∀ X',Ok X' F G (d8 scope sc) (tg++fv.map (·.2))->PE X' elt' (tD X' F G elt)) (hy:N[i]?=aa y) (hl:sc.names.lookup y=aa .local)
 (hsw:SW (.ListComp elt' [⟨te,iter,ifs,0⟩] scope pos) (aa (.Name y py)) spos.line X.env=pure ah) :
 PS X (.Assign [.Name y py] (.ListComp elt' [⟨te,iter,ifs,0⟩] scope pos) spos) (yG (tD X F G (.comp mu sr sa tg fv cond elt)) (vd i)):=by
 intro zt s σ H D I q;rw[exec_Assign_Name_used _ _ _ _ hsw];refine PR (UB (PR ?_));show aA _ X.A (do let _ ← comprehension (.ListComp elt' [⟨te,iter,ifs,0⟩] scope pos) scope X.env _ (newList []) ai (eval iter X.env) (aa (U0 (.Name y py) X.env))) _ _ s;refine PR (thn (pR O hu hk ht hset hI hC hE zt s σ H _ (aa (U0 (.Name y py) X.env)) (λ_ s'=>SP X zt D .next s') I q λs6 H6 C D' m I6 hn ap hq=>?_) λ_ s' hq=>az (az hq));show aA _ X.A (U0 (.Name y py) X.env (.ref D')) _ _ _;refine wpAny_assign_Name (pA I6 O.nd (by rw[O.hN];exact hy) (.inl (by rw[O.hsc];exact hl)) (v:=.ref D') rfl (λs7 I7 hs=>?_) (.inr (by rw[O.hsc];exact hl)));obtain ⟨a,sb,ha⟩:=hs;have neC:C≠a:=by
  rcases ha with rfl|ha
  exact ap.lo;exact λz=>ap.ce y a ha z.symm
 refine ⟨m,hn.sameBut sb neC,λh8 sb8=>?_⟩;have sb8:Si C s7.heap h8:=sb8;exact ⟨_,H6,Inv.turned (t':=s7.toks) I7 (λb o hb e=>(sb8.2 b hb).trans e) ap.fr ap.lo (.inr ap.ab) ap.ce ap.pi,hq⟩
end
section
variable {E:aC->PX->Prop}
end
section
end
end BS
end
section
namespace L2
open PySem PySem.Spec PyProof.Rows
section
variable {X:Cx}{tg:SK}
end
end L2
namespace BS
open PySem PySem.Spec PyProof.Rows L2
section
variable {F:FT}{G:aB->Option BT.W}
end
end BS
end
section
namespace BS
open PySem PySem.Spec PyProof.Rows L2
variable {k1:Nat}
section
variable {E:aC->PX->Prop}
theorem f9 (hit:s.heap.IsTupleIter it t i) (ht:s.heap.IsTuple t items) (hx:items[i]?=aa x)
 (hQ:∀ h',h'.IsTupleIter it t (i+1)->Si it s.heap h'->Q x { s with heap:=h' }) :
 aA (Qq prog w) A (Qx (.ref it)) Q E s:=by
 obtain ⟨o,ho,hc,hd⟩:=id hit;obtain ⟨ol,hol,_,nl,hdl⟩:=ht;unfold Qx;refine PR (QY (name:=Qd "__next__") hit.typeIs F.slot_tuple_iterator_next
  (RL F.slot_tuple_iterator_next hit.typeIs F.entry_tuple_iterator_next ?_ (F.args_tuple_iterator_next_1 _)))
 show aA _ _ (field (.ref it) 0 >>= _) _ _ s;refine PR (QV ho hd (x:=.ref t) rfl ?_);show aA _ _ (if (QF t==RE)=ah then _ else _) _ _ s;rw[if_neg (show ¬ ((QF t==RE)=ah) from QM)];show aA _ _ (field (.ref it) 1 >>= _) _ _ s;refine PR (QV ho hd (x:=.int i 0) rfl ?_);show aA _ _ (seqItems? (.ref t) >>= _) _ _ s;refine PR (Rx hol hdl ?_);simp only[Sz,hx];refine PR (wpAny_setField ho hd (by simp) (az ⟨x,rfl,az (hQ _ ?_ (UO ..))⟩));exact ⟨_,Rr _ ho (Obj.isFreed_of_fields (Obj.data_mapFields hd _)),(Obj.cls_mapFields ..).trans hc,by
  rw[Obj.data_mapFields hd];simp[T9]⟩
theorem qU (hh:A.handled=af) (hit:s.heap.IsTupleIter it t i) (ht:s.heap.IsTuple t items) (hx:items[i]?=af)
 (hE:∀ h' e,Heap.ExtBut it s.heap h'->(∃ o,h'.get? e=aa o/\o.cls=.type "StopIteration")->E (.ref e) { s with heap:=h' }) :
 aA (Qq prog w) A (Qx (.ref it)) Q E s:=by
 obtain ⟨o,ho,hc,hd⟩:=id hit;obtain ⟨ol,hol,_,nl,hdl⟩:=ht;unfold Qx;refine PR (QY (name:=Qd "__next__") hit.typeIs F.slot_tuple_iterator_next
  (RL F.slot_tuple_iterator_next hit.typeIs F.entry_tuple_iterator_next ?_ (F.args_tuple_iterator_next_1 _)))
 show aA _ _ (field (.ref it) 0 >>= _) _ _ s;refine PR (QV ho hd (x:=.ref t) rfl ?_);show aA _ _ (if (QF t==RE)=ah then _ else _) _ _ s;rw[if_neg (show ¬ ((QF t==RE)=ah) from QM)];show aA _ _ (field (.ref it) 1 >>= _) _ _ s;refine PR (QV ho hd (x:=.int i 0) rfl ?_);show aA _ _ (seqItems? (.ref t) >>= _) _ _ s;refine PR (Rx hol hdl ?_);simp only[Sz,hx];refine PR (VJ (PR (wpAny_setField ho hd (by simp) ?_)));show aA _ _ (newExc (.type "StopIteration") [] >>= _) _ _ _;refine PR ?_;simp only[newExc,newTuple];refine PR (RB ?_ (by size_fits));refine PR (m:=firstArgMember _ _) (wpAny_of_eq (a:=RE) (by first|rfl|(simp only[firstArgMember];rfl)) ?_);refine RB ?_ (by size_fits);simp only[raiseNew];refine PR (wpAny_handled ?_)
 first|rw[show A.in1.handled=af from hh]|rw[hh]
 refine PR (az (wpAny_throw ?_));exact hE _ _ (((UO ..).extBut.push _).push _) ⟨_,Qf _ rfl,rfl⟩
noncomputable abbrev xW (h:ay) (z TI TO:P4) (f0:aC) (f:Bool):Prop :=
 h.get? z=aa { cls:=.type "zip",dict:=af,data:=.fields #[f0,.bool f,.bool ai,.ref TI,.ref TO],slots:=#[] }
theorem AF {z TI TO i1 i2 l1 l2:P4}{k2:Nat}{xs ys:Array aC}{x y a b:aC}{Q:aC->PX->Prop} (D:V3 z TI TO i1 i2 l1 l2)
 (hz:VG s.heap z TI TO .none) (hTI:SG s.heap TI (.ref i1) (.ref i2)) (hTO:SG s.heap TO a b)
 (h1:s.heap.IsTupleIter i1 l1 k1) (h2:s.heap.IsTupleIter i2 l2 k2) (hl1:s.heap.IsTuple l1 xs) (hl2:s.heap.IsTuple l2 ys) (hx:xs[k1]?=aa x) (hy:ys[k2]?=aa y)
 (hQ:∀ h',VG h' z TI TO (T9 s.heap.objs.size)->SG h' TO x y->h'.IsTupleIter i1 l1 (k1+1)->h'.IsTupleIter i2 l2 (k2+1)->SG h' s.heap.objs.size x y->h'.objs.size=s.heap.objs.size+1 →
  (∀ c o,c≠z->c≠TO->c≠i1->c≠i2->s.heap.get? c=aa o->h'.get? c=aa o)->Q (.ref s.heap.objs.size) { s with heap:=h' }) :
 aA (Qq prog w) A (Builtin.«zip.__next__» ⟨[.ref z],[]⟩) (λfin s'=>∃ v,fin=.done (.ret v)/\Q v s') E s:=by
 show aA _ _ (field (.ref z) 2 >>= _) _ _ _;refine PR (QV hz rfl (x:=.bool ai) rfl ?_);show aA _ _ (field (.ref z) 3 >>= _) _ _ _;refine PR (QV hz rfl (x:=.ref TI) rfl ?_);refine PR (Rx hTI rfl ?_);show aA _ _ (QE (.ref z) >>= _) _ _ _;refine PR ?_;unfold QE;refine PR (QV hz rfl (x:=.none) rfl (az ?_));simp only[if_true];refine PR (VJ ?_);refine PR (QV hz rfl (x:=.ref TO) rfl ?_);refine PR (S7 hz (by simp) λh₁ hz₁ hs₁=>?_);replace hz₁:VG h₁ z TI TO .ellipsis:=hz₁;refine PR ?_;simp only[List.zipIdx_cons,List.zipIdx_nil,TN,U5];refine PR (PR (wpAny_onRaise ?_));show aA _ _ (Qx (.ref i1) >>= _) _ _ _;refine PR (f9 (h1.extBut hs₁.extBut D.i1z) (hl1.extBut hs₁.extBut D.l1z) hx λh₂ h1₂ hs₂=>az ?_);have hTO₂:SG h₂ TO a b:=hs₂.extBut _ _ D.TOi1 (hs₁.extBut _ _ D.TOz hTO);refine PR (Rx hTO₂ rfl ?_);refine PR (wpAny_updateSeq_pair hTO₂ λh₃ hTO₃ hs₃=>?_);replace hTO₃:SG h₃ TO x b:=hTO₃;refine PR (wpAny_letGo (az ?_));refine PR (PR (wpAny_onRaise ?_));show aA _ _ (Qx (.ref i2) >>= _) _ _ _;refine PR (f9 (((h2.extBut hs₁.extBut D.i2z).extBut hs₂.extBut D.i12.symm).extBut hs₃.extBut D.TOi2.symm)
  (((hl2.extBut hs₁.extBut D.l2z).extBut hs₂.extBut D.l2i1).extBut hs₃.extBut D.l2TO) hy λh₄ h2₄ hs₄=>az ?_)
 have hTO₄:SG h₄ TO x b:=hs₄.extBut _ _ D.TOi2 hTO₃;refine PR (Rx hTO₄ rfl ?_);refine PR (wpAny_updateSeq_pair hTO₄ λh₅ hTO₅ hs₅=>?_);replace hTO₅:SG h₅ TO x y:=hTO₅;refine PR (wpAny_letGo (az (az ?_)));refine PR (Rx hTO₅ rfl ?_);refine PR (wpAny_newTuple ?_);have hsz:h₅.objs.size=s.heap.objs.size:=by rw[hs₅.1,hs₄.1,hs₃.1,hs₂.1,hs₁.1]
 have hz₅:VG h₅ z TI TO .ellipsis:=hs₅.extBut _ _ D.TOz.symm (hs₄.extBut _ _ D.i2z.symm (hs₃.extBut _ _ D.TOz.symm (hs₂.extBut _ _ D.i1z.symm hz₁)));have hk₅:∀ c o,c≠z->c≠TO->c≠i1->c≠i2->s.heap.get? c=aa o->h₅.get? c=aa o:=λc o c1 c2 c3 c4 e =>
  hs₅.extBut _ _ c2 (hs₄.extBut _ _ c4 (hs₃.extBut _ _ c2 (hs₂.extBut _ _ c3 (hs₁.extBut _ _ c1 e))))
 have h1₅:h₅.IsTupleIter i1 l1 (k1+1):=((h1₂.extBut hs₃.extBut D.TOi1.symm).extBut hs₄.extBut D.i12).extBut hs₅.extBut D.TOi1.symm;have h2₅:h₅.IsTupleIter i2 l2 (k2+1):=h2₄.extBut hs₅.extBut D.TOi2.symm;have hzlt:z < h₅.objs.size:=P7 hz₅;have hTOlt:TO < h₅.objs.size:=P7 hTO₅;show aA _ _ (SQ (.ref z) (.ref h₅.objs.size) >>= _) _ _ _;refine PR ?_;unfold SQ;have hz₆:VG (h₅.push { cls:=.type "tuple",data:=.seq #[x,y] }) z TI TO .ellipsis:=PU _ hz₅;refine PR (S7 hz₆ (by simp) λh₇ hz₇ hs₇=>?_);replace hz₇:VG h₇ z TI TO (T9 h₅.objs.size):=hz₇;refine S7 hz₇ (by simp) λh₈ hz₈ hs₈=>?_;replace hz₈:VG h₈ z TI TO (T9 h₅.objs.size):=hz₈;have up:∀ c o,c≠z->h₅.get? c=aa o->h₈.get? c=aa o:=λc o c1 e=>hs₈.extBut _ _ c1 (hs₇.extBut _ _ c1 (PU _ e));have hT₈:SG h₈ h₅.objs.size x y:=hs₈.extBut _ _ (Q5 hzlt) (hs₇.extBut _ _ (Q5 hzlt) (Qf _ rfl));have hz8:h₈.objs.size=h₅.objs.size+1:=by rw[hs₈.1,hs₇.1,Q8]
 rw[hsz] at hz₈ hT₈ hz8;refine az ⟨_,rfl,?_⟩;show Q (.ref h₅.objs.size) _;rw[hsz];exact hQ h₈ hz₈ (up _ _ D.TOz hTO₅) (let ⟨o,e,r⟩:=h1₅;⟨o,up _ o D.i1z e,r⟩) (let ⟨o,e,r⟩:=h2₅;⟨o,up _ o D.i2z e,r⟩) hT₈ hz8 λc o c1 c2 c3 c4 e=>up c o c1 (hk₅ c o c1 c2 c3 c4 e)
theorem v8 {z TI TO a:P4}{f:Bool}{oa:av}{Q:Bool->PX->Prop} (hz:xW s.heap z TI TO (T9 a) f) (ha:s.heap.get? a=aa oa)
 (hQ:∀ h',xW h' z TI TO (T9 a) ah->Si z s.heap h'->Q ai { s with heap:=h' }):aA (Qq prog w) A (QE (.ref z)) Q E s:=by
 unfold QE;refine PR (QV hz rfl (x:=T9 a) rfl ?_);show aA _ _ (loadIfAlive ((a:Int).toNat) >>= _) _ _ _;rw[Sz];refine PR (PySem.W.kdx_alive ha ?_);simp only[Option.isNone_some,Sq,if_false];refine PR (QV hz rfl (x:=.bool f) rfl ?_);cases f with
 | true =>
  rw[if_neg (show ¬ ((SX ah != SX ah)=ah) from QM)];exact az (hQ s.heap hz (Heap.SameBut.refl _ _))
 | false =>
  rw[if_pos (show (SX ai != SX ah)=ah from rfl)];refine PR (S7 hz (by simp) λh₃ he₃ hs₃=>?_);exact az (hQ h₃ he₃ hs₃)
theorem DH {z TI TO i1 i2 l1 l2 c:P4}{f:Bool}{oc:av}{k2:Nat}{xs ys:Array aC}{x y:aC}{Q:aC->PX->Prop} (D:V3 z TI TO i1 i2 l1 l2)
 (hz:xW s.heap z TI TO (T9 c) f) (hc:s.heap.get? c=aa oc) (hTI:SG s.heap TI (.ref i1) (.ref i2))
 (h1:s.heap.IsTupleIter i1 l1 k1) (h2:s.heap.IsTupleIter i2 l2 k2) (hl1:s.heap.IsTuple l1 xs) (hl2:s.heap.IsTuple l2 ys) (hx:xs[k1]?=aa x) (hy:ys[k2]?=aa y)
 (hQ:∀ h',xW h' z TI TO (T9 c) ah->h'.IsTupleIter i1 l1 (k1+1)->h'.IsTupleIter i2 l2 (k2+1)->SG h' s.heap.objs.size x y->h'.objs.size=s.heap.objs.size+1 →
  (∀ b o,b≠z->b≠i1->b≠i2->s.heap.get? b=aa o->h'.get? b=aa o)->Q (.ref s.heap.objs.size) { s with heap:=h' }) :
 aA (Qq prog w) A (Builtin.«zip.__next__» ⟨[.ref z],[]⟩) (λfin s'=>∃ v,fin=.done (.ret v)/\Q v s') E s:=by
 show aA _ _ (field (.ref z) 2 >>= _) _ _ _;refine PR (QV hz rfl (x:=.bool ai) rfl ?_);show aA _ _ (field (.ref z) 3 >>= _) _ _ _;refine PR (QV hz rfl (x:=.ref TI) rfl ?_);refine PR (Rx hTI rfl ?_);show aA _ _ (QE (.ref z) >>= _) _ _ _;refine PR (v8 hz hc λh₁ hz₁ hs₁=>?_);simp only[Sq,if_false];refine PR ?_;simp only[← VS,TN,U5];refine PR (PR (Ru ?_));show aA _ _ (Qx (.ref i1) >>= _) _ _ _;refine PR (f9 (h1.extBut hs₁.extBut D.i1z) (hl1.extBut hs₁.extBut D.l1z) hx λh₂ h1₂ hs₂=>az (az ?_));refine PR (PR (Ru ?_));show aA _ _ (Qx (.ref i2) >>= _) _ _ _;refine PR (f9 ((h2.extBut hs₁.extBut D.i2z).extBut hs₂.extBut D.i12.symm)
  ((hl2.extBut hs₁.extBut D.l2z).extBut hs₂.extBut D.l2i1) hy λh₄ h2₄ hs₄=>az (az (az ?_)))
 refine PR (wpAny_newTuple (hsz:=by show 2<=ao;decide) ?_);have hsz:h₄.objs.size=s.heap.objs.size:=by rw[hs₄.1,hs₂.1,hs₁.1]
 have up:∀ b o,h₄.get? b=aa o->(h₄.push { cls:=.type "tuple",data:=.seq #[x,y] }).get? b=aa o:=λb o e=>PU _ e;refine az ⟨_,rfl,?_⟩;have hp:SG (h₄.push { cls:=.type "tuple",data:=.seq #[x,y] }) h₄.objs.size x y:=Qf _ rfl;show Q (.ref h₄.objs.size) _;rw[hsz] at hp ⊢;exact hQ _ (up _ _ (hs₄.extBut _ _ D.i2z.symm (hs₂.extBut _ _ D.i1z.symm hz₁))) (let ⟨o,e,r⟩:=h1₂;⟨o,up _ o (hs₄.extBut _ _ D.i12 e),r⟩) (let ⟨o,e,r⟩:=h2₄;⟨o,up _ o e,r⟩) hp (by rw[Q8,hsz])
  λb o b1 b2 b3 e=>up b o (hs₄.extBut _ _ b3 (hs₂.extBut _ _ b2 (hs₁.extBut _ _ b1 e)))
theorem Ho {z TI TO i1 i2 l1 l2 c:P4}{f:Bool}{oc:av}{xs:Array aC}{Q:Fin->PX->Prop} (hh:A.handled=af) (D:V3 z TI TO i1 i2 l1 l2)
 (hz:xW s.heap z TI TO (T9 c) f) (hc:s.heap.get? c=aa oc) (hTI:SG s.heap TI (.ref i1) (.ref i2))
 (h1:s.heap.IsTupleIter i1 l1 k1) (hl1:s.heap.IsTuple l1 xs) (hx:xs[k1]?=af)
 (hE:∀ h' e,(∀ b o,b≠z->b≠i1->s.heap.get? b=aa o->h'.get? b=aa o)->(∃ o,h'.get? e=aa o/\o.cls=.type "StopIteration")->E (.ref e) { s with heap:=h' }) :
 aA (Qq prog w) A (Builtin.«zip.__next__» ⟨[.ref z],[]⟩) Q E s:=by
 show aA _ _ (field (.ref z) 2 >>= _) _ _ _;refine PR (QV hz rfl (x:=.bool ai) rfl ?_);show aA _ _ (field (.ref z) 3 >>= _) _ _ _;refine PR (QV hz rfl (x:=.ref TI) rfl ?_);refine PR (Rx hTI rfl ?_);show aA _ _ (QE (.ref z) >>= _) _ _ _;refine PR (v8 hz hc λh₁ hz₁ hs₁=>?_);simp only[Sq,if_false];refine PR ?_;simp only[← VS,TN,U5];refine PR (PR (Ru ?_));show aA _ _ (Qx (.ref i1) >>= _) _ _ _;exact PR (qU hh (h1.extBut hs₁.extBut D.i1z) (hl1.extBut hs₁.extBut D.l1z) hx λh₂ e hs₂ he=>hE h₂ e (λb o b1 b2 q=>hs₂ _ _ b2 (hs₁.extBut _ _ b1 q)) he)
structure ZLo (z TI TO i1 i2 l1 l2 S:P4):Prop where
 D:V3 z TI TO i1 i2 l1 l2
 z:z < S
 TI:TI < S
 TO:TO < S
 i1:i1 < S
 i2:i2 < S
 l1:l1 < S
 l2:l2 < S
structure ZS (z TI TO i1 i2 l1 l2 S:P4) (xs ys:Array aC) (i:Nat) (h:ay):Prop where
 st:(i=0/\VG h z TI TO .none/\∃ a b,SG h TO a b)\/∃ (c:P4) (f:Bool) (oc:av),xW h z TI TO (T9 c) f/\h.get? c=aa oc/\S < c
 ti:SG h TI (.ref i1) (.ref i2)
 a1:h.IsTupleIter i1 l1 i
 a2:h.IsTupleIter i2 l2 i
 t1:h.IsTuple l1 xs
 t2:h.IsTuple l2 ys
theorem ZS.keep {TI TO S:P4} (L:ZLo z TI TO i1 i2 l1 l2 S) (Z:ZS z TI TO i1 i2 l1 l2 S xs ys i h) (k:∀ b o,b≠S->h.get? b=aa o->h'.get? b=aa o):ZS z TI TO i1 i2 l1 l2 S xs ys i h':=by
 have n:∀ {b:P4},b < S->b≠S:=λq=>Qu q;refine ⟨?_,k _ _ (n L.TI) Z.ti,let ⟨o,e,r⟩:=Z.a1;⟨o,k _ o (n L.i1) e,r⟩,let ⟨o,e,r⟩:=Z.a2;⟨o,k _ o (n L.i2) e,r⟩,let ⟨o,e,r⟩:=Z.t1;⟨o,k _ o (n L.l1) e,r⟩,let ⟨o,e,r⟩:=Z.t2;⟨o,k _ o (n L.l2) e,r⟩⟩;rcases Z.st with ⟨e,q,a,b,p⟩|⟨c,f,oc,q,hc,lt⟩
 exact .inl ⟨e,k _ _ (n L.z) q,a,b,k _ _ (n L.TO) p⟩;exact .inr ⟨c,f,oc,k _ _ (n L.z) q,k _ _ (Q5 lt) hc,lt⟩
theorem ZS.at {TI TO S:P4}{x y:aC} (L:ZLo z TI TO i1 i2 l1 l2 S) (Z:ZS z TI TO i1 i2 l1 l2 S xs ys i h)
 (k:∀ b o,b≠z->b≠TO->b≠i1->b≠i2->h.get? b=aa o->h'.get? b=aa o):SG h' TI (.ref i1) (.ref i2)/\h'.IsTuple l1 xs/\h'.IsTuple l2 ys :=
 ⟨k _ _ L.D.TIz L.D.TITO L.D.TIi1 L.D.TIi2 Z.ti,let ⟨o,e,r⟩:=Z.t1;⟨o,k _ o L.D.l1z L.D.l1TO L.D.l1i1 L.D.l1i2 e,r⟩,let ⟨o,e,r⟩:=Z.t2;⟨o,k _ o L.D.l2z L.D.l2TO L.D.l2i1 L.D.l2i2 e,r⟩⟩
theorem DI {TI TO S:P4} (L:ZLo z TI TO i1 i2 l1 l2 S) (Z:ZS z TI TO i1 i2 l1 l2 S xs ys i s.heap) (hS:S < s.heap.objs.size) (hx:xs[i]?=aa x) (hy:ys[i]?=aa y)
 (hQ:∀ h',ZS z TI TO i1 i2 l1 l2 S xs ys (i+1) h'->SG h' s.heap.objs.size x y->h'.objs.size=s.heap.objs.size+1->(∀ b o,b≠z->b≠TO->b≠i1->b≠i2->s.heap.get? b=aa o->h'.get? b=aa o)->Q (aa (.ref s.heap.objs.size)) { s with heap:=h' }) :
 aA (Qq prog w) A (UY (.ref z)) Q E s:=by
 have lt:∀ {b:P4},b < S->S < b->False:=λp q=>QG _ (TY p q);rcases Z.st with ⟨e,q,a,b,p⟩|⟨c,f,oc,q,hc,hl⟩
 ·have hT:s.TypeIs (.ref z) "zip":=⟨_,q,rfl⟩;unfold UY;refine PR (VT (QY (name:=Qd "__next__") hT F.slot_zip_next
   (RL F.slot_zip_next hT F.entry_zip_next
    (AF L.D q Z.ti p Z.a1 Z.a2 Z.t1 Z.t2 hx hy λh' a1 a2 a3 a4 a5 a6 a7=>az (hQ h' ?_ a5 a6 a7)) (F.args_zip_next_1 _))))
  obtain ⟨b1,b2,b3⟩:=Z.at (x:=x) (y:=y) L a7;exact ⟨.inr ⟨_,ai,_,a1,a5,hS⟩,b1,a3,a4,b2,b3⟩
 ·have hT:s.TypeIs (.ref z) "zip":=⟨_,q,rfl⟩;unfold UY;refine PR (VT (QY (name:=Qd "__next__") hT F.slot_zip_next
   (RL F.slot_zip_next hT F.entry_zip_next
    (DH L.D q hc Z.ti Z.a1 Z.a2 Z.t1 Z.t2 hx hy λh' a1 a3 a4 a5 a6 a7=>az (hQ h' ?_ a5 a6 λb o n1 _ n3 n4 e=>a7 b o n1 n3 n4 e)) (F.args_zip_next_1 _))))
  obtain ⟨b1,b2,b3⟩:=Z.at (x:=x) (y:=y) (h':=h') L λb o n1 _ n3 n4 e=>a7 b o n1 n3 n4 e;exact ⟨.inr ⟨c,ah,oc,a1,a7 c oc (λz=>lt (z ▸ L.z) hl) (λz=>lt (z ▸ L.i1) hl) (λz=>lt (z ▸ L.i2) hl) hc,hl⟩,b1,a3,a4,b2,b3⟩
theorem DJ {TI TO S:P4} (hh:A.handled=af) (L:ZLo z TI TO i1 i2 l1 l2 S) (Z:ZS z TI TO i1 i2 l1 l2 S xs ys i s.heap) (hi:0 < i) (hx:xs[i]?=af)
 (hQ:∀ h',(∀ b o,b≠z->b≠i1->s.heap.get? b=aa o->h'.get? b=aa o)->Q af { s with heap:=h' }) :
 aA (Qq prog w) A (UY (.ref z)) Q E s:=by
 rcases Z.st with ⟨e,q,a,b,p⟩|⟨c,f,oc,q,hc,hl⟩
 lia
 ·have hT:s.TypeIs (.ref z) "zip":=⟨_,q,rfl⟩;unfold UY;refine PR (VT (QY (name:=Qd "__next__") hT F.slot_zip_next
   (RL F.slot_zip_next hT F.entry_zip_next (Ho hh L.D q hc Z.ti Z.a1 Z.t1 hx λh' e hk he=>?_) (F.args_zip_next_1 _))))
  obtain ⟨o,ho,hcc⟩:=he;refine PR (wpAny_isInstance (T:="StopIteration") (b:=ah) ⟨o,ho,hcc⟩ isSubtype_stop ?_);exact az (hQ _ hk)
structure ZG (xs ys:Array aC) (S:P4) (h:ay) (as:List P4):Prop where
 rise:as.Pairwise (· < ·)
 above:∀ a∈as,S < a
 pairs:∀ (j:Nat) (a:P4),as[j]?=aa a->∃ x y,xs[j]?=aa x/\ys[j]?=aa y/\SG h a x y
theorem ZG.there {S:P4} (g:ZG xs ys S h as) (ha:a∈as):a < h.objs.size:=by obtain ⟨j,hj⟩:=List.mem_iff_getElem?.mp ha;obtain ⟨_,_,_,_,e⟩:=g.pairs j a hj;exact P7 e
end
section
variable {prog:Qg}{w:QA}{A:QO}{s:PX}{R:Result->PX->Prop}{xs ys:Array aC}{z TI TO i1 i2 l1 l2 S:P4}
theorem DK (hh:A.handled=af) (L:ZLo z TI TO i1 i2 l1 l2 S) (hn0:0 < xs.size) (hxy:xs.size=ys.size) (hn:xs.size<=ao) (res:aC) {h₁:ay}
 (hR:∀ h' tk acc c as,(∀ b o,b≠S->b≠z->b≠TO->b≠i1->b≠i2->h₁.get? b=aa o->h'.get? b=aa o)->h'.get? S=aa { cls:=.type "list",dict:=af,data:=.seq acc c,slots:=#[] }->as.length=xs.size->ZG xs ys S h' as →
  acc.toList=as.map QF->R (.ok (.ret res)) { s with heap:=h',toks:=tk }) :
 ∀ (k i:Nat) (h:ay) (tk c:Nat) (acc:Array aC) (as:List P4),xs.size - i=k->i<=xs.size->ZS z TI TO i1 i2 l1 l2 S xs ys i h->(∀ b o,b≠S->b≠z->b≠TO->b≠i1->b≠i2->h₁.get? b=aa o->h.get? b=aa o) →
  h.get? S=aa { cls:=.type "list",dict:=af,data:=.seq acc c,slots:=#[] }->acc.toList=as.map QF->as.length=i->ZG xs ys S h as →
  au (Qq prog w) A (.builtin "list.extend.loop" ⟨[.ref S,.ref z,res],[]⟩) R { s with heap:=h,toks:=tk }:=by
 have ne:∀ {b:P4},b < S->S≠b:=λq=>Q5 q;have na:∀ {a b:P4},S < a->b < S->a≠b:=λp q=>Q5 (TY q p);intro k
 induction k with
 | zero =>
  intro i h tk c acc as hk hi hst hkeep hS hacc hal hG;have hin:i=xs.size:=by lia
  refine codeAny_builtin UE ?_;rw[Vs RV _];show aA _ A.in1 (UY (.ref z) >>= _) _ _ _;refine PR (DJ (s:={ s with heap:=h,toks:=tk }) (A:=A.in1) hh L hst (by lia) (Array.getElem?_eq_none (by lia)) λh' he=>?_);have he:∀ b o,b≠z->b≠i1->h.get? b=aa o->h'.get? b=aa o:=he;refine az (hR h' tk acc c as (λb o n1 n2 n3 n4 n5 e=>he b o n2 n4 (hkeep b o n1 n2 n3 n4 n5 e)) (he S _ (ne L.z) (ne L.i1) hS) (by lia) ⟨hG.rise,hG.above,λj a hj=>?_⟩ hacc);obtain ⟨x,y,e1,e2,e3⟩:=hG.pairs j a hj;have ab:=hG.above a (P8 hj);exact ⟨x,y,e1,e2,he a _ (na ab L.z) (na ab L.i1) e3⟩
 | succ k ih =>
  intro i h tk c acc as hk hi hst hkeep hS hacc hal hG;have hlt:i < xs.size:=by lia
  have hx:xs[i]?=aa xs[i]:=SS hlt;have hy:ys[i]?=aa (ys[i]'(by lia)):=SS (by lia);have hsz:acc.size=i:=by rw[← Q9,hacc,Qt,hal]
  refine codeAny_builtin UE ?_;rw[Vs RV _];show aA _ A.in1 (UY (.ref z) >>= _) _ _ _;refine PR (DI (s:={ s with heap:=h,toks:=tk }) L hst (P7 hS) hx hy λh' hst' ht hz hkp=>?_);dsimp only at ht hz hkp ⊢;have hS':=hkp S _ (ne L.z) (ne L.TO) (ne L.i1) (ne L.i2) hS;have up:∀ b o,b≠S->h'.get? b=aa o->(h'.update S (Ro (·.push (QF h.objs.size)))).get? b=aa o:=λb o hb e=>(Rg _ _ (QW hb)).trans e;have hSl:S < h.objs.size:=P7 hS;show aA _ A.in1 (updateSeq S (·.push (QF h.objs.size)) >>= _) _ _ _;refine PR ?_;refine SV hS' rfl (az ⟨plainId_quiet RV _,ih (i+1) _ tk _ (acc.push (QF h.objs.size)) (as++[h.objs.size]) (by lia) hlt (hst'.keep L up)
   (λb o n1 n2 n3 n4 n5 e=>up b o n1 (hkp b o n2 n3 n4 n5 (hkeep b o n1 n2 n3 n4 n5 e))) (Rr _ hS' rfl) (by rw[Array.toList_push,hacc,RP];rfl) (by rw[Qk,hal];rfl) ⟨?_,?_,?_⟩⟩) (by rw[hsz];lia) (by show (acc.push (QF h.objs.size)).size<=ao+1;rw[Array.size_push,hsz];lia)
  ·refine List.pairwise_append.mpr ⟨hG.rise,List.pairwise_singleton _ _,λa ha b hb=>?_⟩;rw[List.mem_singleton.mp hb];exact hG.there ha
  ·intro a ha;rcases List.mem_append.mp ha with ha|ha
   exact hG.above a ha;rw[List.mem_singleton.mp ha];exact hSl
  ·intro j b hj;rcases Nat.lt_trichotomy j as.length with h1|h1|h1
   ·rw[PV h1] at hj;obtain ⟨x',y',e1,e2,e3⟩:=hG.pairs j b hj;have hb:=hG.above b (P8 hj);exact ⟨x',y',e1,e2,up b _ (Q5 hb) (hkp b _ (na hb L.z) (na hb L.TO) (na hb L.i1) (na hb L.i2) e3)⟩
   ·subst h1;have hb:h.objs.size=b:=by simpa using hj
    subst hb;exact ⟨_,_,by rw[hal];exact hx,by rw[hal];exact hy,up _ _ (Q5 hSl) ht⟩
   ·have hnone:(as++[h.objs.size])[j]?=af:=Qc (by rw[Qk,SA];lia);rw[hnone] at hj;cases hj
end
theorem uH:typeLookup (.type "zip") "__len__"=pure af:=by rw[typeLookup_type,builtinLookup_eq_fast];kernel_rfl
theorem sV:typeLookup (.type "zip") "__length_hint__"=pure af:=by rw[typeLookup_type,builtinLookup_eq_fast];kernel_rfl
section
variable {prog:Qg}{w:QA}{A:QO}{E:aC->PX->Prop}{s:PX}{R:Result->PX->Prop}{xs ys:Array aC}{z TI TO i1 i2 l1 l2 S:P4}
theorem xX (hh:A.handled=af) (L:ZLo z TI TO i1 i2 l1 l2 S) (hn0:0 < xs.size) (hxy:xs.size=ys.size) (hn:xs.size<=ao) (res:aC) (c₀:Nat) (hq:VG s.heap z TI TO .none) (Z:ZS z TI TO i1 i2 l1 l2 S xs ys 0 s.heap) (hS:s.heap.get? S=aa { cls:=.type "list",data:=.seq #[] c₀ })
 (hR:∀ h' tk acc c as,(∀ b o,b≠S->b≠z->b≠TO->b≠i1->b≠i2->s.heap.get? b=aa o->h'.get? b=aa o)->h'.get? S=aa { cls:=.type "list",dict:=af,data:=.seq acc c,slots:=#[] }->as.length=xs.size->ZG xs ys S h' as →
  acc.toList=as.map QF->R (.ok (.ret res)) { s with heap:=h',toks:=tk }) :
 aA (Qq prog w) A.in1 (Rz (.ref S) (.ref z) res)
  (λfin s'=>match fin with | .done f=>R (.ok f) s' | .again c'=>c'.quiet=ah/\au (Qq prog w) A c' R s') (λe s'=>R (.error e) s') s:=by
 have hSz:S≠z:=Q5 L.z;have hT:s.TypeIs (.ref z) "zip":=⟨_,hq,rfl⟩;unfold Rz;refine PR (UX hT ?_);have h1:Ul (.ref S) (.ref z)=ai:=by simp[Ul,hSz]
 have h2:(Tz "zip"==Tz "list")=ai:=by decide
 have h3:(Tz "zip"==Tz "tuple")=ai:=by decide
 simp only[h1,h2,h3,Td,Sq,if_false];refine PR (wpAny_pyIter_zip hq ?_);refine PR (Ru ?_);unfold Builtin.List.listLengthHint;refine PR (wpAny_specialOf hT uH ?_);show aA _ A.in1 (specialOf (QF z) (Qd "__length_hint__") >>= _) _ _ _;refine PR (wpAny_specialOf hT sV ?_);refine az ?_;show aA _ A.in1 (rule "list.extend.makes-room" >>= λ_=>Builtin.List.listTouch (.ref S) >>= λ_ =>
  again (.builtin "list.extend.loop" ⟨[.ref S,.ref z,res],[]⟩)) _ _ _
 refine PR (VJ ?_);refine PR ?_;show aA _ A.in1 (updateSeq S (·.push .none) >>= λ_=>updateSeq S (·.pop)) _ _ _;refine PR (SV hS rfl ?_);have hS₂:=Rr (Ro (·.push RE)) hS rfl;refine SV (hz:=by seq_fits) hS₂ rfl ?_;have hS₃:=Rr (Ro (·.pop)) hS₂ rfl;have oth:∀ b o,b≠S->s.heap.get? b=aa o->((s.heap.update S (Ro (·.push RE))).update S (Ro (·.pop))).get? b=aa o :=
  λb o hb e=>(Rg _ _ (QW hb)).trans ((Rg _ _ (QW hb)).trans e)
 exact az ⟨plainId_quiet RV _,DK (s:=s) (h₁:=s.heap) hh L hn0 hxy hn res hR xs.size 0 _ s.toks _ #[] [] (Nat.sub_zero _) (RC _) (Z.keep L oth) (λb o n1 _ _ _ _ e=>oth b o n1 e) hS₃ rfl rfl
  ⟨UW,(λ_ ha=>nomatch ha),(λj a hj=>by simp at hj)⟩⟩
theorem DL (hh:A.handled=af) (L:ZLo z TI TO i1 i2 l1 l2 S) (hn0:0 < xs.size) (hxy:xs.size=ys.size) (hn:xs.size<=ao) (hq:VG s.heap z TI TO .none) (Z:ZS z TI TO i1 i2 l1 l2 S xs ys 0 s.heap) (hS:s.heap.get? S=aa { cls:=.type "list",data:=.seq #[] })
 (hR:∀ h' tk acc c as,(∀ b o,b≠S->b≠z->b≠TO->b≠i1->b≠i2->s.heap.get? b=aa o->h'.get? b=aa o)->h'.get? S=aa { cls:=.type "list",dict:=af,data:=.seq acc c,slots:=#[] }->as.length=xs.size->ZG xs ys S h' as →
  acc.toList=as.map QF->R (.ok (.ret .none)) { s with heap:=h',toks:=tk }) :
 aA (Qq prog w) A.in1 (Builtin.«list.__init__» ⟨[.ref S,.ref z],[]⟩)
  (λfin s'=>match fin with | .done f=>R (.ok f) s' | .again c'=>c'.quiet=ah/\au (Qq prog w) A c' R s') (λe s'=>R (.error e) s') s:=by
 show aA _ _ (do let old ← Uw (.ref S);Builtin.List.listUpdate (.ref S) (λ_=>#[]);letGo old.toList.reverse;Rz (.ref S) (.ref z) .none) _ _ s;refine PR ?_;unfold Uw;refine PR (Rx hS rfl (az ?_));show aA _ _ (updateSeq S (λ_=>#[]) >>= λ_=>letGo (#[]:Array aC).toList.reverse >>= λ_=>Rz (.ref S) (.ref z) .none) _ _ s;refine PR (SV hS rfl ?_);have hS₂:=Rr (Ro (λ_=>(#[]:Array aC))) hS rfl;have oth:∀ b o,b≠S->s.heap.get? b=aa o->(s.heap.update S (Ro (λ_=>(#[]:Array aC)))).get? b=aa o :=
  λb o hb e=>(Rg _ _ (QW hb)).trans e
 refine PR (wpAny_letGo ?_);refine xX (s:={ s with heap:=s.heap.update S (Ro (λ_=>(#[]:Array aC))) }) hh L hn0 hxy hn .none _ (oth _ _ (Qu L.z) hq) (Z.keep L oth) hS₂ λh' tk acc c as hk hS' hl hG hacc=>?_;exact hR h' tk acc c as (λb o n1 n2 n3 n4 n5 e=>hk b o n1 n2 n3 n4 n5 (oth b o n1 e)) hS' hl hG hacc
theorem DM (hh:A.handled=af) (L:ZLo z TI TO i1 i2 l1 l2 s.heap.objs.size) (hn0:0 < xs.size) (hxy:xs.size=ys.size) (hn:xs.size<=ao) (hq:VG s.heap z TI TO .none) (Z:ZS z TI TO i1 i2 l1 l2 s.heap.objs.size xs ys 0 s.heap)
 (hQ:∀ h' tk acc c as,(∀ b o,b≠z->b≠TO->b≠i1->b≠i2->s.heap.get? b=aa o->h'.get? b=aa o)->h'.get? s.heap.objs.size=aa { cls:=.type "list",dict:=af,data:=.seq acc c,slots:=#[] }->as.length=xs.size->ZG xs ys s.heap.objs.size h' as →
  acc.toList=as.map QF->Q (.ref s.heap.objs.size) { s with heap:=h',toks:=tk }) :
 aA (Qq prog w) A (call (.type "list") [.ref z]) Q E s:=by
 refine callType_codes (Q₁:=λobj s₁=>obj=.ref s.heap.objs.size/\s₁={ s with heap:=s.heap.push { cls:=.type "list",data:=.seq #[] } }) PySem.F.called_list (PySem.F.typeCall_list_1 _) PySem.F.entry_list_init
  (code_list_new _ ⟨rfl,rfl⟩) λobj s₁ h₁=>?_
 obtain ⟨rfl,rfl⟩:=h₁;have hS:(s.heap.push { cls:=.type "list",data:=.seq #[] }).get? s.heap.objs.size=aa { cls:=.type "list",data:=.seq #[] }:=Qf _ rfl;have up:∀ b o,s.heap.get? b=aa o->(s.heap.push { cls:=.type "list",data:=.seq #[] }).get? b=aa o:=λb o e=>PU _ e;refine ⟨⟨_,hS,rfl⟩,PySem.F.args_list_init_2 _ _,DL (s:={ s with heap:=s.heap.push { cls:=.type "list",data:=.seq #[] } }) (A:=A.in1) hh L hn0 hxy hn (up _ _ hq) (Z.keep L λb o _ e=>up b o e) hS λh' tk acc c as hk hS' hl hG hacc=>?_⟩;exact ⟨rfl,hQ h' tk acc c as (λb o n2 n3 n4 n5 e=>hk b o (Qu (P7 e)) n2 n3 n4 n5 (up b o e)) hS' hl hG hacc⟩
end
noncomputable abbrev DN (h:ay) (l1:P4):ay:=h.push { cls:=.type "tuple_iterator",data:=.fields #[.ref l1,.int 0 0] }
noncomputable abbrev DO (h:ay) (l1 l2:P4):ay:=(DN h l1).push { cls:=.type "tuple_iterator",data:=.fields #[.ref l2,.int 0 0] }
noncomputable abbrev DP (h:ay) (l1 l2:P4):ay:=(DO h l1 l2).push { cls:=.type "tuple",data:=.seq #[.ref h.objs.size,.ref (DN h l1).objs.size] }
noncomputable abbrev DQ (h:ay) (l1 l2:P4):ay:=(DP h l1 l2).push { cls:=.type "tuple",data:=.seq #[.none,.none] }
noncomputable abbrev uI (h:ay) (l1 l2:P4):ay:=(DQ h l1 l2).push { cls:=.type "zip",data:=.fields #[.none,.bool ai,.bool ai,.ref (DO h l1 l2).objs.size,.ref (DP h l1 l2).objs.size] }
theorem qV (l1 l2:P4) (xs ys:Array aC) :
 Meets (Builtin.«zip.__new__» ⟨[.type "zip",.ref l1,.ref l2],[]⟩) (λ_ R s=>s.heap.IsTuple l1 xs/\s.heap.IsTuple l2 ys ∧
  R (.ok (.ret (.ref (DQ s.heap l1 l2).objs.size))) { s with heap:=uI s.heap l1 l2 }) :=
 .of_wp λprog w A R s h=>by
  obtain ⟨hp,g,d,tk,os⟩:=s;obtain ⟨hl1,hl2,h⟩:=h;have hsub:=sub_zip;have hL1:Heap.IsTuple (Shared.heap ⟨hp,g,d,tk,os⟩) l1 xs:=hl1;have hL2:Heap.IsTuple (Shared.heap ⟨hp.push { cls:=.type "tuple_iterator",data:=.fields #[.ref l1,.int 0 0] },g,d,tk,os⟩) l2 ys:=Heap.IsTuple.push hl2 _
  wp_walk using UC hL1,UC hL2
  exact ⟨_,rfl,h⟩
section
variable {E:aC->PX->Prop}
theorem DR (hl1:s.heap.IsTuple l1 xs) (hl2:s.heap.IsTuple l2 ys)
 (h:∀ h',VG h' (s.heap.objs.size+4) (s.heap.objs.size+2) (s.heap.objs.size+3) .none->SG h' (s.heap.objs.size+2) (.ref s.heap.objs.size) (.ref (s.heap.objs.size+1)) →
  SG h' (s.heap.objs.size+3) .none .none->h'.IsTupleIter s.heap.objs.size l1 0->h'.IsTupleIter (s.heap.objs.size+1) l2 0->h'.objs.size=s.heap.objs.size+5 →
  (∀ c o,s.heap.get? c=aa o->h'.get? c=aa o)->Q (.ref (s.heap.objs.size+4)) { s with heap:=h' }) :
 aA (Qq prog w) A (call (.type "zip") [.ref l1,.ref l2]) Q E s:=by
 refine callType_new F.called_zip (by decide) (F.typeCall_zip_2 _ _) (F.newCall_zip_2 _ _) (λobj=>F.args_object_init_3 obj _ _) F.entry_zip_new
  (qV l1 l2 xs ys) ⟨hl1,hl2,?_⟩
 have z1:(DN s.heap l1).objs.size=s.heap.objs.size+1:=Q8 ..;have z2:(DO s.heap l1 l2).objs.size=s.heap.objs.size+2:=by rw[Q8,z1]
 have z3:(DP s.heap l1 l2).objs.size=s.heap.objs.size+3:=by rw[Q8,z2]
 have z4:(DQ s.heap l1 l2).objs.size=s.heap.objs.size+4:=by rw[Q8,z3]
 have z5:(uI s.heap l1 l2).objs.size=s.heap.objs.size+5:=by rw[Q8,z4]
 have g5:(uI s.heap l1 l2).get? (DQ s.heap l1 l2).objs.size=aa _:=Qf _ rfl;have g4:(uI s.heap l1 l2).get? (DP s.heap l1 l2).objs.size=aa _:=PU _ (Qf _ rfl);have g3:(uI s.heap l1 l2).get? (DO s.heap l1 l2).objs.size=aa _:=PU _ (PU _ (Qf _ rfl));have g2:(uI s.heap l1 l2).get? (DN s.heap l1).objs.size=aa _:=PU _ (PU _ (PU _ (Qf _ rfl)));have g1:(uI s.heap l1 l2).get? s.heap.objs.size=aa _:=PU _ (PU _ (PU _ (PU _ (Qf _ rfl))));show _/\_;rw[z2,z3,z4] at g5;rw[z1,z2] at g3;rw[z3] at g4;rw[z1] at g2;rw[z4];exact ⟨⟨_,g5,rfl⟩,h _ g5 g3 g4 ⟨_,g1,rfl,rfl⟩ ⟨_,g2,rfl,rfl⟩ z5 λc o x =>
  PU _ (PU _ (PU _ (PU _ (PU _ x))))⟩
theorem xY (hh:A.handled=af) (hl1:s.heap.IsTuple l1 xs) (hl2:s.heap.IsTuple l2 ys) (hn0:0 < xs.size) (hxy:xs.size=ys.size) (hn:xs.size<=ao)
 (hQ:∀ h' tk acc c as,(∀ b o,s.heap.get? b=aa o->h'.get? b=aa o)->h'.get? (s.heap.objs.size+5)=aa { cls:=.type "list",dict:=af,data:=.seq acc c,slots:=#[] }->as.length=xs.size->ZG xs ys (s.heap.objs.size+5) h' as →
  acc.toList=as.map QF->Q (.ref (s.heap.objs.size+5)) { s with heap:=h',toks:=tk }) :
 aA (Qq prog w) A (call (.type "zip") [.ref l1,.ref l2]) (λv s1=>v=.ref (s.heap.objs.size+4)/\aA (Qq prog w) A (call (.type "list") [v]) Q E s1) E s:=by
 have a1:l1 < s.heap.objs.size:=let ⟨o,e,_⟩:=hl1;P7 e;have a2:l2 < s.heap.objs.size:=let ⟨o,e,_⟩:=hl2;P7 e;refine DR hl1 hl2 λh1 b1 b2 b3 b4 b5 b6 b7=>⟨rfl,?_⟩;have D:V3 (s.heap.objs.size+4) (s.heap.objs.size+2) (s.heap.objs.size+3) s.heap.objs.size (s.heap.objs.size+1) l1 l2:=zipApart_new a1 a2;have L:ZLo (s.heap.objs.size+4) (s.heap.objs.size+2) (s.heap.objs.size+3) s.heap.objs.size (s.heap.objs.size+1) l1 l2 h1.objs.size:=by rw[b6];exact ⟨D,RI _,Uh (by decide:2 < 5) _,Uh (by decide:3 < 5) _,Nat.lt_add_of_pos_right (by decide),Uh (by decide:1 < 5) _,Qo a1 (Rp _ _),Qo a2 (Rp _ _)⟩
 have Z:ZS (s.heap.objs.size+4) (s.heap.objs.size+2) (s.heap.objs.size+3) s.heap.objs.size (s.heap.objs.size+1) l1 l2 h1.objs.size xs ys 0 h1 :=
  ⟨.inl ⟨rfl,b1,_,_,b3⟩,b2,b4,b5,let ⟨o,e,r⟩:=hl1;⟨o,b7 _ o e,r⟩,let ⟨o,e,r⟩:=hl2;⟨o,b7 _ o e,r⟩⟩
 refine DM (s:={ s with heap:=h1 }) hh L hn0 hxy hn b1 Z λh' tk acc c as k e1 e2 e3 e4=>?_;have k:∀ b o,b≠s.heap.objs.size+4->b≠s.heap.objs.size+3->b≠s.heap.objs.size->b≠s.heap.objs.size+1->h1.get? b=aa o->h'.get? b=aa o:=k;have e1:h'.get? h1.objs.size=aa { cls:=.type "list",dict:=af,data:=.seq acc c,slots:=#[] }:=e1;have e3:ZG xs ys h1.objs.size h' as:=e3;show Q (.ref h1.objs.size) _;rw[b6] at e1 e3 ⊢;refine hQ h' tk acc c as (λb o e=>k b o ?_ ?_ ?_ ?_ (b7 b o e)) e1 e2 e3 e4
 all_goals exact Qu (Qo (P7 e) (by first|exact Rp _ _|exact P6 _))
end
noncomputable def hpz (H:Hp) (n S:P4) (as:List P4) (ps:List (V×V)):Hp:=λb=>if b < n then H b else if b=S then aa (.lst (as.map V.ref)) else ((as.zip ps).lookup b).map λp=>HO.tup [p.1,p.2]
theorem AG {as:List P4}{ps:List (V×V)}{b:P4}{p:V×V} (h:(as.zip ps).lookup b=aa p):∃ j:Nat,as[j]?=aa b/\ps[j]?=aa p:=by
 induction as generalizing ps with
 | nil=>cases h
 | cons a as ih =>
  cases ps with
  | nil=>cases h
  | cons q ps =>
   rw[RJ,Rn] at h
   by_cases e:b=a
   ·subst e;simp at h;subst h;exact ⟨0,rfl,rfl⟩
   ·have e':(b==a)=ai:=by simpa using e
    rw[e'] at h;obtain ⟨j,h1,h2⟩:=ih h;exact ⟨j+1,by simpa using h1,by simpa using h2⟩
theorem DS {as:List P4}{ps:List (V×V)} (hr:as.Pairwise (· < ·)) {j:Nat}{b:P4}{p:V×V} (h1:as[j]?=aa b) (h2:ps[j]?=aa p):(as.zip ps).lookup b=aa p:=by
 induction as generalizing ps j with
 | nil=>simp at h1
 | cons a as ih =>
  cases ps with
  | nil=>simp at h2
  | cons q ps =>
   rw[RJ,Rn];obtain ⟨r1,r2⟩:=List.pairwise_cons.mp hr;cases j with
   | zero =>
    simp at h1 h2;subst h1 h2;simp
   | succ j =>
    simp at h1 h2;have lt:=r1 b (P8 h1);have e':(b==a)=ai:=by simp only[beq_eq_false_iff_ne,ne_eq];exact Q5 lt
    rw[e'];exact ih r2 h1 h2
theorem v9 {K:PP}:∀ {as:List P4}{vt ut:List V}{xs ys:List BT.D},as.length=vt.length->vt.length=ut.length->RDs K m H vt xs->RDs K m H ut ys →
 (∀ (j:Nat) a v u,as[j]?=aa a->vt[j]?=aa v->ut[j]?=aa u->H a=aa (.tup [v,u])/\a∉m)->RDs K m H (as.map V.ref) (BT.oR xs ys)
 | [],_,_,_,_,h1,h2,r1,r2,_=>by
  cases r1 with
  | nil=>simp[BT.oR];exact .nil| cons _ _=>simp at h1
 | a::as,_,_,_,_,h1,h2,r1,r2,k=>by
  cases r1 with
  | nil=>simp at h1
  | cons q1 t1 =>
   cases r2 with
   | nil=>simp at h2
   | cons q2 t2 =>
    obtain ⟨k1,k2⟩:=k 0 a _ _ rfl rfl rfl;refine .cons (.tup (.inl ⟨.inl k1,k2⟩) (.cons q1 (.cons q2 .nil))) (v9 (by simpa using h1) (by simpa using h2) t1 t2 λj a v u e1 e2 e3=>k (j+1) a v u (by simpa using e1) (by simpa using e2) (by simpa using e3))
theorem pS (r:dw vs us) {j:Nat} (h:us[j]?=aa u):∃ v,vs[j]?=aa v/\RelV v u:=by
 have hl:=r.length;have hj:j < vs.length:=by have:=(List.getElem?_eq_some_iff.mp h).1;lia
 obtain ⟨u',e1,e2⟩:=r.get (P0 hj);rw[h] at e1;cases e1;exact ⟨_,P0 hj,e2⟩
section
theorem AH {X:Cx}{sc:QX}{N:List aB} (O:Ok X F G sc N) (hu:gR N=ah) {ex ey:P1}{sa:BT.Es}{np zp p pos:Pos} (hg:dX sc "list"=ah) (hg2:dX sc "zip"=ah) (hs:noStar ex=ah) (hs2:noStar ey=ah) (hA:PA X [ex,ey] (tDs X F G sa)) :
 PE X (.Call (.Name "list" np) [.Call (.Name "zip" zp) [ex,ey] [] pos] [] p) (tD X F G (.bi .lzip ai sa)):=by
 intro zt s σ H Q I q;have q:=l6 q;refine Call_ (jo (u:=.type "list") I (eN O hg) (O.blt _ (by decide)) (by decide +kernel) (QT ?_ (dg rfl) rfl));rw[dg (show noStar (.Call (.Name "zip" zp) [ex,ey] [] pos)=ah from rfl)];show aA _ _ (spliced ((ai,eval (.Call (.Name "zip" zp) [ex,ey] [] pos) X.env)::SL p (QC [] X.env))) _ _ s;refine VR (Call_ (jo (u:=.type "zip") I (eN O hg2) (O.blt _ (by decide)) (by decide +kernel) (QT (thn (hA pos zt s σ H _ I q) λus s1 ⟨vs,H1,I1,r1,q1⟩=>?_) (dg hs) (dY (by simp[dj,hs2])))));obtain ⟨m,h,ws,z,h',R,rws,e,zr⟩:=q1;obtain ⟨ds,d,e1,e2,⟨_,rfl,rfl⟩|⟨_,q,_⟩⟩:=jE e
 rotate_left
 cases q;have rr:=i6 R rws e1;have hd:∃ xs ys,ds=[.tup xs,.tup ys]:=by
  match ds,e2 with
  | [.tup xs,.tup ys],_=>exact ⟨xs,ys,rfl⟩
 obtain ⟨xs,ys,rfl⟩:=hd;rw[BT.sA] at e2
 by_cases c:0 < xs.length/\xs.length=ys.length
 rotate_left
 rw[if_neg c] at e2;cases e2;rw[if_pos c] at e2;cases e2;cases rr with
 | cons ra t =>
  cases t with
  | cons rb t =>
   cases t;cases ra with
   | d ra =>
    cases rb with
    | d rb =>
     cases ra with
     | @tup a vt _ h1 ra =>
      cases rb with
      | @tup b ut _ h2 rb =>
       obtain ⟨u1,u2,rfl,ru1,ru2⟩:=r1.two;cases ru1;cases ru2;have sq1:SqT X.K H1 a vt:=h1.elim (λq=>.inl q.1) λ⟨o,its,n,q,_⟩=>.inr ⟨o,its,n,q⟩;have sq2:SqT X.K H1 b ut:=h2.elim (λq=>.inl q.1) λ⟨o,its,n,q,_⟩=>.inr ⟨o,its,n,q⟩;obtain ⟨its1,rv1,p1,z1⟩:=I1.tuple sq1;obtain ⟨its2,rv2,p2,z2⟩:=I1.tuple sq2;have n1:=ra.length;have n2:=rb.length;have n3:=rv1.length;have n4:=rv2.length;refine thn (xY (Q:=EP X zt σ Q) (I1.ok.hd (O.calm hu)) (xs:=its1.toArray) (ys:=its2.toArray) p1 p2 (by simp;lia) (by simp;lia) (by simp;lia) λh' tk acc cc as k g1 g2 g3 g4=>?_) λv s2 hv=>Wb hv.2;have low:∀ c:P4,c < s1.heap.objs.size->hpz H1 s1.heap.objs.size (s1.heap.objs.size+5) as (vt.zip ut) c=H1 c:=λc hc=>if_pos hc;have nS:¬ (s1.heap.objs.size+5 < s1.heap.objs.size):=Nat.not_lt.mpr (Rp _ _);have atS:hpz H1 s1.heap.objs.size (s1.heap.objs.size+5) as (vt.zip ut) (s1.heap.objs.size+5)=aa (.lst (as.map V.ref)):=by unfold hpz;rw[if_neg nS,if_pos rfl]
       have gtS:∀ c:P4,s1.heap.objs.size+5 < c->hpz H1 s1.heap.objs.size (s1.heap.objs.size+5) as (vt.zip ut) c=((as.zip (vt.zip ut)).lookup c).map λp=>HO.tup [p.1,p.2]:=λc hc=>by unfold hpz;rw[if_neg (Nat.not_lt.mpr (QD (Rp _ 5) (SC hc))),if_neg (Q5 hc)]
       have zg:∀ (j:Nat) (v u:V),vt[j]?=aa v->ut[j]?=aa u->(vt.zip ut)[j]?=aa (v,u):=λj v u q1 q2=>by rw[U3];exact ⟨q1,q2⟩
       have atA:∀ (j:Nat) a v u,as[j]?=aa a->vt[j]?=aa v->ut[j]?=aa u->hpz H1 s1.heap.objs.size (s1.heap.objs.size+5) as (vt.zip ut) a=aa (.tup [v,u]):=λj a v u q1 q2 q3=>by rw[gtS a (g3.above a (P8 q1)),DS g3.rise q1 (zg j v u q2 q3)];rfl
       have fresh:∀ c:P4,s1.heap.objs.size<=c->H1 c=af:=λc hc=>I1.hok.fresh hc;have live:∀ c u,H1 c=aa u->hpz H1 s1.heap.objs.size (s1.heap.objs.size+5) as (vt.zip ut) c=aa u:=λc u q=>by rw[low c (I1.hok.lt q)];exact q
       have hok:HOk X.prog X.w (hpz H1 s1.heap.objs.size (s1.heap.objs.size+5) as (vt.zip ut)) h':=λc u q=>by
        by_cases lc:c < s1.heap.objs.size
        ·rw[low c lc] at q;exact (I1.hok c u q).stay (λb o _ w=>k b o w) (λb w=>live b _ w) λb l w=>live b _ w
        ·by_cases ec:c=s1.heap.objs.size+5
         ·subst ec;rw[atS] at q;cases q;refine ⟨by rw[Qt,g2];simp;lia,acc.toList,cc,?_,by simpa using g1⟩;rw[g4];clear g1 g2 g3 g4 atA gtS atS low live
          induction as with
          | nil=>exact .nil| cons a as ih=>exact .cons rfl ih
         ·have hx:=q;unfold hpz at hx;rw[if_neg lc,if_neg ec] at hx;cases hL:(as.zip (vt.zip ut)).lookup c with
          | none=>rw[hL] at hx;cases hx
          | some pr =>
           rw[hL] at hx;cases hx;obtain ⟨j,j1,j2⟩:=AG hL;obtain ⟨v,w⟩:=pr;rw[U3] at j2;obtain ⟨x,y,x1,y1,pa⟩:=g3.pairs j c j1;obtain ⟨v',v1,v2⟩:=pS rv1 (by simpa using x1);obtain ⟨w',w1,w2⟩:=pS rv2 (by simpa using y1);rw[j2.1] at v1;rw[j2.2] at w1;cases v1;cases w1;exact ⟨by show 2<=ao;decide,[x,y],.cons v2 (.cons w2 .nil),_,pa,rfl,_,rfl⟩
       have I2:Inv X zt σ (hpz H1 s1.heap.objs.size (s1.heap.objs.size+5) as (vt.zip ut)) { s1 with heap:=h',toks:=tk }:=Inv.Dt (s:=s1) (tk:=tk) (fp:=[]) I1 (λb hb=>nomatch hb) (λb o _ e=>k b o e) low hok;have x:Ext m H1 m (hpz H1 s1.heap.objs.size (s1.heap.objs.size+5) as (vt.zip ut)):=⟨⟨[],by simp,by simp⟩,λc o q _ _=>live c o q,λc q=>by
        cases g:H1 c with
        | none=>rfl
        | some o=>rw[live c o g] at q;exact absurd q (by simp),λc ob vs q=>live c _ q⟩
       have ni:∀ c:P4,s1.heap.objs.size<=c->c∉m:=λc hc=>R.jA (fresh c hc);refine ⟨.ref (s1.heap.objs.size+5),_,I2,rfl,zr _ _ m x (R.ext x live) (.p (.lst (.inl ⟨.inl atS,ni _ (Rp _ _)⟩) (v9 ?_ ?_ (ra.ext x) (rb.ext x) λj a v u q1 q2 q3=>⟨atA j a v u q1 q2 q3,ni a ?_⟩)))⟩;rw[g2];simp;lia;lia;exact QD (Rp _ 5) (SC (g3.above a (P8 q1)))
end
inductive ZK where
 | l (a:P4)|t (a:P4)|s (x:aB) (k:Tok)
noncomputable def ZK.ty:ZK->String
 | .l _=>"list_iterator"| .t _=>"tuple_iterator"| .s x _=>strIterType x
noncomputable def ZK.val:ZK->aC
 | .l a=>.ref a| .t a=>.ref a| .s x k=>.str x k
def ZK.at (q:ZK) (it:P4) (i:Nat) (h:ay):Prop:=match q with
 | .l a=>h.IsListIter it a i| .t a=>h.IsTupleIter it a i| .s x k=>h.IsStrIter it (strIterType x) x k i
def ZK.item (q:ZK) (i:Nat) (h:ay) (u:aC):Prop:=match q with
 | .l a=>∃ us:List aC,h.IsList a us.toArray/\us[i]?=aa u| .t a=>∃ us:List aC,h.IsTuple a us.toArray/\us[i]?=aa u| .s x _=>∃ c t,x.cps[i]?=aa c/\u=.str ⟨#[c]⟩ t
def ZK.done (q:ZK) (i:Nat) (h:ay):Prop:=match q with
 | .l a=>∃ us:List aC,h.IsList a us.toArray/\us.length<=i| .t a=>∃ us:List aC,h.IsTuple a us.toArray/\us.length<=i| .s x _=>x.cps.size<=i
section
variable {prog:Qg}{w:QA}{A:QO}{E:aC->PX->Prop}{s:PX}
end
noncomputable def ZK.ob (q:ZK):av:={ cls:=.type q.ty,data:=.fields #[q.val,.int 0 0] }
def ZK.here (q:ZK) (h:ay):Prop:=match q with
 | .l a=>∃ us:List aC,h.IsList a us.toArray| .t a=>∃ us:List aC,h.IsTuple a us.toArray| .s _ _=>True
section
variable {prog:Qg}{w:QA}{A:QO}{E:aC->PX->Prop}{s:PX}
end
section
variable {prog:Qg}{w:QA}{A:QO}{E:aC->PX->Prop}{s:PX}
end
def ZK.has (q:ZK) (K:PP) (H:Hp) (i:Nat):Prop:=match q with
 | .l a=>∃ xs x,SqL K H a xs/\xs[i]?=aa x| .t a=>∃ xs x,SqT K H a xs/\xs[i]?=aa x| .s x _=>∃ c,x.cps[i]?=aa c
def ZK.is (q:ZK) (K:PP) (H:Hp) (i:Nat) (v:V):Prop:=match q with
 | .l a=>∀ xs,SqL K H a xs->xs[i]?=aa v| .t a=>∀ xs,SqT K H a xs->xs[i]?=aa v| .s x _=>∃ c,x.cps[i]?=aa c/\v=.str ⟨#[c]⟩
def ZK.over (q:ZK) (K:PP) (H:Hp) (i:Nat):Prop:=match q with
 | .l a=>∃ xs,SqL K H a xs/\xs.length<=i| .t a=>∃ xs,SqT K H a xs/\xs.length<=i| .s x _=>x.cps.size<=i
section
variable {X:Cx}{zt:List (P4×av)}{σ:L2.St}{H:Hp}{s:PX}
end
section
variable {F:FT}{G:aB->Option BT.W}
end
section
variable {prog:Qg}{w:QA}{A:QO}{E:aC->PX->Prop}{s:PX}
end
section
variable {F:FT}{G:aB->Option BT.W}
end
section
variable {X:Cx}{F:FT}{G:aB->Option BT.W}
end
section
variable {X:Cx}{F:FT}{G:aB->Option BT.W}
end
section
variable {m:List P4}
theorem RBs.length {vs:List V}{ns:List Nat} (r:RBs m vs ns):vs.length=ns.length:=by
 induction r with
 | nil=>rfl| cons _ _ ih=>rw[P9,P9,ih]
theorem RBs.get:∀ {vs:List V}{ns:List Nat}{i n:Nat},RBs m vs ns->ns[i]?=aa n->∃ a,vs[i]?=aa (.ref a)/\m[n]?=aa a
 | _,_,_,_,.nil,e=>by simp at e
 | _,_,0,_,.cons r _,e=>by simp at e;subst e;exact ⟨_,rfl,r⟩
 | _,_,i+1,d,.cons _ t,e=>by obtain ⟨u,h1,h2⟩:=RBs.get (i:=i) (n:=d) t (by simpa using e);exact ⟨u,by simpa using h1,h2⟩
theorem RBs.add {n:Nat}{a:P4} (h:m[n]?=aa a):∀ {vs:List V}{ns:List Nat},RBs m vs ns->RBs m (vs++[.ref a]) (ns++[n])
 | _,_,.nil=>.cons h .nil| _,_,.cons r t=>.cons r (RBs.add h t)
theorem RBs.atI {vs:List V}{ns:List Nat}{i:Int}{d:Nat} (r:RBs m vs ns) (e:BT.atP ns i=aa d):∃ a,L2.atI vs i=aa (.ref a)/\m[d]?=aa a:=by unfold BT.atP at e;unfold L2.atI;obtain ⟨j,h1,h2⟩:=Option.bind_eq_some_iff.mp e;obtain ⟨v,q1,q2⟩:=r.get h2;refine ⟨v,?_,q2⟩;rw[r.length];show ((BT.place ns.length i).bind λj=>vs[j]?)=_;rw[h1];exact q1
end
section
variable {F:FT}{G:aB->Option BT.W}
theorem Hq {X:Cx}{a:BT.E} (σ:L2.St) (H:Hp) (Q:VK) (q:tD X F G (.obl a) σ H Q):F5 (tDs X F G (.cons a .nil)) σ H Q:=by
 obtain ⟨m,s,h,z,h',R,S,ee,zr⟩:=q;simp only[BT.ev] at ee;obtain ⟨x,h1,e1,e2⟩:=cZ ee;cases x with
 | o n =>
  cases e2;refine ⟨m,s,h,[.o n],h1,R,S,by simp only[BT.evs,e1,BT.dQ,BT.j3,BT.gQ],λvs H1 m1 x1 R1 r1=>?_⟩;cases r1 with
  | cons r t =>
   cases t;cases r with
   | o hn =>
    refine ⟨by show 1<=_;decide,λp hp=>?_⟩;refine zr _ _ (m1++[p]) (x1.trans (iO hp)) (R1.GM hp ⟨_,ef,.cons ((iO (H:=H1) (o:=.own 0) hp).ix hn) .nil⟩) (.r ?_);rw[← R1.len];simp
 | _=>exact cW e2
theorem Hr {X:Cx}:IxR X (rOp X.prog X.w X.K BT.Gz):=by
 intro value slice zt s σ H v u v' u' Q I rv ru h hs;obtain ⟨m,h,x,y,z,h',R,rx,ry,e,zr⟩:=h;cases rx with
 | @r a n hn =>
  cases ry with
  | p ry =>
   cases ry with
   | int i =>
    rw[BT.C3] at e;obtain ⟨ns,g,e⟩:=Option.bind_eq_some_iff.mp e;obtain ⟨d,e1,e2⟩:=dH e;cases e2;obtain ⟨vs,h1,h2⟩:=R.vE _ _ _ hn g;obtain ⟨b,q1,q2⟩:=h2.atI e1;exact vp value slice zt s σ H _ _ _ _ Q I rv ru ⟨a,vs,i,_,rfl,rfl,.inl (.inl h1),q1,zr _ _ m (.refl _ _) R (.o q2)⟩ hs
   | _=>exact cW e
  | _=>exact cW e
 | _=>exact cW e
theorem Hs {X:Cx}{sc:QX}{N:List aB} (O:Ok X F G sc N) {a:BT.E}{e:P1}{p pos:Pos} (hg:dX sc "len"=ah) (hs:noStar e=ah) (ha:PA X [e] (tDs X F G (.cons a .nil))):PE X (.Call (.Name "len" p) [e] [] pos) (tD X F G (.obn a)):=by
 refine PE.weak (jt iW (eN O hg) (O.blt _ (by decide)) PySem.boot_len ha (by decide) (by decide) (dg hs) rfl) fun σ H Q q=>?_;obtain ⟨m,s,h,z,h',R,S,ee,zr⟩:=q;simp only[BT.ev] at ee;obtain ⟨x,h1,e1,e2⟩:=cZ ee;cases x with
 | r n =>
  rw[BT.GC] at e2;obtain ⟨ns,g,e3⟩:=Option.bind_eq_some_iff.mp e2;obtain ⟨c,e3⟩:=dG e3;cases e3;refine ⟨m,s,h,[.r n],h',R,S,by simp only[BT.evs,e1,BT.dQ,BT.j3,BT.gQ],λvs H1 m1 x1 R1 r1=>?_⟩;cases r1 with
  | cons r t =>
   cases t;cases r with
   | r hn =>
    obtain ⟨us,q1,q2⟩:=R1.vE _ _ _ hn g;refine ⟨_,us,rfl,.inl (.inl (.inl q1)),?_⟩;rw[q2.length];exact zr _ _ m1 x1 R1 (.p (.int _))
 | _=>exact cW e2
theorem Hu {X:Cx}{o a:BT.E}{oe e:P1}{apos cpos:Pos} (hb:dW oe=ah) (hl:(apos.endLine==cpos.line)=ah) (hs:noStar e=ah) (ho:PE X oe (tD X F G o)) (ha:PA X [e] (tDs X F G (.cons a .nil))):PE X (.Call (.Attribute oe "append" apos) [e] [] cpos) (tD X F G (.oba o a)):=by
 refine PE.weak (zd Sg UL UK pI ho ha (kT hb) (by rw[jG (es:=[e]) (by simp[dj,hs])];rfl) hl (dg hs) rfl) fun σ H Q q=>?_;obtain ⟨m,s,h,z,h',R,S,ee,zr⟩:=q;simp only[BT.ev] at ee;obtain ⟨x,h1,e1,e2⟩:=cZ ee;cases x with
 | r n =>
  rw[BT.GB] at e2;have c:(BT.bat h1 n).isSome=ah:=Decidable.byContradiction λz=>by rw[if_neg z] at e2;exact cW e2
  rw[if_pos c] at e2;obtain ⟨y,h2,e3,e4⟩:=cZ e2;obtain ⟨ns0,g0⟩:=Option.isSome_iff_exists.mp c;refine ⟨m,s,h,.r n,h1,R,S,e1,λv H1 m1 x1 R1 r1=>?_⟩;cases r1 with
  | r hn =>
   obtain ⟨us0,q1,_⟩:=R1.vE _ _ _ hn g0;refine ⟨.inl ⟨rfl,us0,.inl (.inl q1)⟩,m1,s,h1,[y],h2,R1,S.ext x1,by simp only[BT.evs,e3,BT.dQ,BT.j3,BT.gQ],λvs H2 m2 x2 R2 r2=>?_⟩;cases r2 with
   | cons r t =>
    cases t;cases r with
    | o hk =>
     rw[BT.GA] at e4;obtain ⟨ns,g,e4⟩:=Option.bind_eq_some_iff.mp e4;obtain ⟨c2,e4⟩:=dG e4;cases e4;have hn2:=x2.ix hn;obtain ⟨us,q3,q4⟩:=R2.vE _ _ _ hn2 g;have:=fP;have hlen:=q4.length;exact ⟨_,us,_,rfl,rfl,q3,by lia,zr _ _ m2 ((x1.trans x2).trans (gS (P8 hn2) q3)) (R2.setC hn2 ⟨_,q3,rfl⟩ ⟨_,ef,q4.add hk⟩) (.p .non)⟩
    | _=>exact cW e4
 | _=>exact cW e2
theorem xZ {K:PP}{C f:P4} (h:Qp K (.ref C) "__init__"=aa (aa (.ref f))) (h2:Tg K (.ref f)=ah):V5 K (.ref C) (.type "type") "__init__"=aa (.val (.ref f)):=by unfold V5;rw[show Qp K (.type "type") "__init__"=aa (aa (.builtin "type.__init__")) from (by decide +kernel:Qp [] (.type "type") "__init__"=aa (aa (.builtin "type.__init__")))];simp only[QK];rw[show RM K (.builtin "type.__init__") "__get__"=aa (aa (.builtin "wrapper_descriptor.__get__")) from (by decide +kernel:RM [] (.builtin "type.__init__") "__get__"=aa (aa (.builtin "wrapper_descriptor.__get__")))];simp only[QK];rw[show Te K (.builtin "type.__init__")=aa ai from (by decide +kernel:Te [] (.builtin "type.__init__")=aa ai)];simp only[QK];rw[h];simp only[QK];rw[if_neg (show ¬ Builtin.heldUnderItsOwnName "__init__" (.ref f)=ah from λz=>nomatch z),eq_of_beq h2];simp only[QK];rw[if_pos (by decide +kernel)]
theorem Hv {X:Cx}{sc:QX}{N:List aB} (O:Ok X F G sc N) {c:aB}{as:BT.Es}{e:P1}{es:List P1}{np apos cpos:Pos} (hg:dX sc c=ah) (hn:fB c=ah) (hl:(apos.endLine==cpos.line)=ah) (hlen:(e::es).length < 20) (hst:dj (e::es)=ah) (ha:PA X (e::es) (tDs X F G as)) :
 PE X (.Call (.Attribute (.Name c np) "__init__" apos) (e::es) [] cpos) (tD X F G (.sup c as)):=by
 intro zt s σ H Q I q;obtain ⟨m0,s',h,z,h',R,S,ee,zr⟩:=q;simp only[BT.ev] at ee;obtain ⟨ws,h1,e1,e2⟩:=cZ ee;obtain ⟨C,ga,fd,ps,k,hC,hM,hB,hR,ok⟩:=O.meth _ _ _ _ _ e2;obtain ⟨C',_,_,_,_,hC',hmg,_,_,_,_⟩:=O.mkc _ _ _ _ e2;cases hC.cn.inj hC'.cn;have key:vj (spF X.prog X.w X.K (F (.m c "__init__"))) [] E0 (tDs X F G as) σ H Q:=by refine ⟨m0,s',h,ws,h1,R,S,e1,λus H1 m1 x1 R1 r1=>?_⟩;rw[Rf];exact ⟨m1,ws,h1,z,h',R1,r1,e2,λv5 H5 m5 x5 R5 r5=>zr v5 H5 m5 (x1.trans x5) R5 r5⟩
 have hrd:=hC.rd;simp only[Uu,PZ,beq_iff_eq] at hrd;have hsp:RM X.K (.ref C) "__getattribute__"=aa (aa (.builtin "type.__getattribute__")):=by unfold RM;rw[hrd.1.1.1.2];exact hrd.1.1.2
 have hst':=hst;simp only[dj,PZ] at hst';refine Tf (thn (qd (v:=.ref C) (eN O hg) hmg rfl (gq hn).1 zt s σ H (λv H'=>v=.ref C/\H'=H) I ⟨rfl,rfl⟩) λu s1 ⟨x,H1,I1,rx,ex,eh⟩=>?_) (lI rfl hst hlen hl);subst ex eh;obtain rfl:u=QF C:=rx;refine PySem.W.method_cls I1.kIn hsp (PySem.W.cls_value I1.kIn hC.rd (xZ hM.at_ hM.fn) rfl ?_);have I2:=I1.tok (s1.toks+1);refine SN (first:=[]) (h₀:=X.base) I.ok.mod.kin hM.kp (thn (ha cpos zt _ σ H1 _ I2 key) λus s2 ⟨vs,H2,I3,r,q2⟩=>⟨I3.kIn,?_⟩) (dg hst'.1) (dY hst'.2);exact mY (us:=us) (vs:=vs) ok hR hB .nil m7 I3 r q2
end
section
theorem ya {X:Cx}{v:V}{ds:List BT.D} (r:∀ m H,RW X.prog X.w X.K m H v (.p (.tup ds))):∃ a vs,v=.ref a/\KT X.K a vs:=by
 have z:=r [] (λ_=>af);cases z with
 | p z =>
  cases z with
  | @tup a vs _ h _ =>
   rcases h with ⟨h,_⟩|h
   ·rcases h with h|⟨o,h⟩<;>exact cW h
   exact ⟨a,vs,rfl,h⟩
theorem yb {X:Cx}{sc:QX}{N:List aB} (O:Ok X F G sc N) {x:aB}{as:BT.Es}{es:List P1}{np apos cpos:Pos} (h2:dX sc x=ah) (h3:fB x=ah) (hl:(apos.endLine==cpos.line)=ah) (hlen:es.length < 20) (hc:CEs sc N as es) (ha:PA X es (tDs X F G as)) :
 PE X (.Call (.Attribute (.Name x np) "index" apos) es [] cpos) (tD X F G (.me .tindex (.glo x) as)):=by
 have hst:=gO hc;intro zt s σ H Q I q;obtain ⟨m,s',h,z,h',R,S,ee,zr⟩:=q;simp only[BT.ev] at ee;obtain ⟨w,g,e1,e2⟩:=cZ ee;obtain ⟨_,e2⟩:=vK e2;obtain ⟨ws,g2,e3,e4⟩:=cZ e2;obtain ⟨w',e5,e6⟩:=dH e1;cases e6;obtain ⟨u,v0,hm,rv,rw0⟩:=O.glob _ _ e5;have hT:∃ ds xs,BT.dP ws=aa ds/\w=.p (.tup xs)/\ds≠[]:=by
  cases w with
  | p d =>
   rw[BT.nh] at e4;cases gp:BT.dP ws with
   | none=>rw[gp] at e4;exact cW e4
   | some ds =>
    rw[gp] at e4;obtain ⟨b,e7,e8⟩:=dH e4;cases d with
    | tup xs=>refine ⟨ds,xs,rfl,rfl,λz=>?_⟩;subst z;exact cW e7| _=>cases ds<;>exact cW e7
  | _=>cases ws<;>(first|exact cW e4|simp[BT.meW] at e4)
 obtain ⟨ds,xs,gp,rfl,hne⟩:=hT;obtain ⟨a,vt,rfl,o,its,n,⟨k1,k2,k3,k4,k5⟩,k6⟩:=ya rw0;cases es with
 | nil =>
  cases as with
  | cons a r=>exact (nN hc).elim| nil=>simp only[BT.evs] at e3;cases e3;simp[BT.dP] at gp;exact absurd gp hne
 | cons e es =>
  simp only[dj,PZ] at hst;have h30:decide ((e::es).length+([]:List Ui).length+(if ([]:List Ui).isEmpty then 0 else 1) < 30)=ah:=decide_eq_true (by
   simp only[P9,QJ,List.isEmpty_nil,if_true] at hlen ⊢;lia)
  refine (zd PySem.F.plainAttrs_tuple PySem.F.slot_tuple_index PySem.F.type_tuple_index (xQ O.hu) (qd (eN O h2) hm rv (gq h3).1) ha rfl (by
   rw[jG (es:=e::es) (by simp only[dj,PZ];exact hst),h30];rfl) hl (dg hst.1) (dY hst.2)) zt s σ H Q I ?_
  refine ⟨.inr (.inl ⟨rfl,o,k1,k2,k6⟩),m,s',h,ws,g2,R,S,e3,λvs H2 m2 x2 R2 r2=>?_⟩;exact ⟨m2,g2,.p (.tup xs),ws,z,h',R2,rw0 m2 H2,r2,e4,λv5 H5 m5 x5 R5 r5=>zr v5 H5 m5 (x2.trans x5) R5 r5⟩
theorem Hw {X:Cx}{me:BT.Me} (hm:me=.append\/me=.pop\/me=.extend) {o:BT.E}:∀ (m:List P4) (h h2:BT.HH) (H:Hp) (v:V) (x:BT.W) ws r,RH X.K m H h->RW X.prog X.w X.K m H v x->BT.mj x h=ah->BT.meW me x ws h2=aa r->(∃ σ s,RS X.prog X.w X.K m H σ s/\∃ h0,BT.ev F G o s h0=aa (x,h))->tyV X.K "list" v H:=by intro m h h2 H v x ws r R rq ok e _;obtain ⟨n,rfl⟩:=Od hm e;exact ty_list R rq ok
theorem Oh {X:Cx}{o:BT.E}:∀ (m:List P4) (h h2:BT.HH) (H:Hp) (v:V) (x:BT.W) ws r,RH X.K m H h->RW X.prog X.w X.K m H v x->BT.mj x h=ah->BT.meW .sindex x ws h2=aa r->(∃ σ s,RS X.prog X.w X.K m H σ s/\∃ h0,BT.ev F G o s h0=aa (x,h))->tyV X.K "str" v H:=by
 intro m h h2 H v x ws r R rq _ e _;cases x with
 | p d =>
  rw[BT.nj] at e;cases g:BT.dP ws with
  | none=>rw[g] at e;exact cW e
  | some ds =>
   rw[g] at e;obtain ⟨b,e7,e8⟩:=dH e;cases d with
   | str y=>cases rq with|p r=>cases r;exact rfl
   | _=>cases ds<;>exact cW e7
 | _=>cases ws<;>(first|exact cW e|simp[BT.meW] at e)
theorem Oi (σ:L2.St) (H:Hp) (Q:Bool->Hp->Prop) (q:tDT X F G e σ H Q):tB (tD X F G e) σ H Q:=by obtain ⟨m,s,h0,b,h',R,S,ee,zr⟩:=q;refine ⟨m,s,h0,_,h',R,S,ee,λv H' m' x R' r=>?_⟩;exact ⟨b,lH r,zr H' m' x R'⟩
def XE (F:FT) (G:aB->Option BT.W) (X:Cx) (e':BT.E) (e:P1):Prop:=PE X e (tD X F G e')/\(tOK e'=ah->PT X e (tDT X F G e')/\∀ op vs p,e=.BoolOp op vs p->PW X e (tDT X F G e'))
def XO (F:FT) (G:aB->Option BT.W) (X:Cx) (es':BT.Es) (o:Option P1):Prop:=∃ t,PO X o t ∧
 ∀ σ H (Q:Option Int->Hp->Prop),(∃ m s h l zs h',RH X.K m H h/\RS X.prog X.w X.K m H σ s/\BT.evs F G es' s h=aa (zs,h')/\(BT.dP zs).bind BT.qk=aa l/\∀ H' m',Ext m H m' H'->RH X.K m' H' h'->Q l H')->t σ H Q
theorem ff (p:PE X e (tD X F G e')) (hb:∀ op vs q,e≠.BoolOp op vs q) (he:∀ whole,isTrue e X.env whole=(do let v ← whole;Vl e.pos;TR [v] (truthy v)):=by intro _;rfl):XE F G X e' e :=
 ⟨p,λ_=>⟨PT.weak (FF p he) Oi,λop vs q z=>absurd z (hb op vs q)⟩⟩
theorem Hx:XO F G X .nil af:=⟨_,Cz,fun σ H Q q=>by obtain ⟨m,s,h,l,zs,h',R,S,e1,e2,zr⟩:=q;simp only[BT.evs] at e1;cases e1;simp[BT.dP,BT.qk] at e2;subst e2;exact zr H m (.refl _ _) R⟩
theorem Hy (ha:PE X e (tD X F G a)):XO F G X (.cons a .nil) (aa e):=by
 refine ⟨_,CA ha,fun σ H Q q=>?_⟩;obtain ⟨m,s,h,l,zs,h',R,S,e1,e2,zr⟩:=q;simp only[BT.evs] at e1;obtain ⟨x,h1,e3,e4⟩:=cZ e1;simp only[BT.j3,BT.dQ,BT.gQ] at e4;cases e4;refine ⟨m,s,h,x,h',R,S,e3,λv H1 m1 x1 R1 r1=>?_⟩;cases r1 with
 | p r =>
  cases r<;>simp[BT.dP,BT.qk] at e2;subst e2;exact ⟨_,rfl,zr H1 m1 x1 R1⟩
 | _=>simp[BT.dP] at e2
theorem lN (ha:PE X e (tD X F G a)) (hs:noStar e=ah):PA X [e] (tDs X F G (.cons a .nil)) :=
 PA.weak (jP ha qf (dg hs)) fun σ H Q q=>by obtain ⟨m,s,h,z0,h',R,S,ee,zr⟩:=cons_of σ H Q q;exact ⟨m,s,h,z0,h',R,S,ee,λv H1 m1 x1 R1 r1=>jW (zr v H1 m1 x1 R1 r1)⟩
theorem uJ (ha:PE X e (tD X F G a)) (hb:PE X f (tD X F G b)) (hs:noStar e=ah) (hs2:noStar f=ah):PA X [e,f] (tDs X F G (.cons a (.cons b .nil))) :=
 PA.weak (jP ha (lN hb hs2) (dg hs)) cons_of
def Lp (sc:QX) (oe:P1) (o:BT.E):Prop:=∃ x p,o=.glo x/\oe=.Name x p/\dX sc x=ah/\fB x=ah
noncomputable def Oj (sc:QX):Tq->Prop
 | .e o oe=>uy o=ai\/Lp sc oe o| _=>True
theorem DT (h:CQ sc N t):Oj sc t:=by
 induction h with
 | glo hg hn=>exact .inr ⟨_,_,rfl,rfl,hg,hn⟩
 | _=>first|exact .inl rfl|exact Sd
theorem Hz (h:CE' sc N o oe):uy o=ai\/Lp sc oe o:=DT h
theorem sMe (O:Ok X F G sc N) (h1:zN m o=ah) (h2:name=zM m) (h3:dW oe=ah) (h6:(apos.endLine==cpos.line)=ah) (h7:es.length < 20) (ho:CE' sc N o oe) (ha:CEs sc N as es) (hO:PE X oe (tD X F G o)) (hA:PA X es (tDs X F G as)) :
 PE X (.Call (.Attribute oe name apos) es [] cpos) (tD X F G (.me m o as)):=by
 subst h2;cases m with
 | append=>exact qO (sc:=sc) (N:=N) Sg UL UK xO h3 h6 h7 hO ha hA (Hw (.inl rfl))| pop=>exact qO (sc:=sc) (N:=N) Sg PySem.F.slot_list_pop PySem.F.type_list_pop GU h3 h6 h7 hO ha hA (Hw (.inr (.inl rfl)))| extend=>exact qO (sc:=sc) (N:=N) Sg PySem.F.slot_list_extend PySem.F.type_list_extend xP h3 h6 h7 hO ha hA (Hw (.inr (.inr rfl)))| sindex=>exact qO (sc:=sc) (N:=N) PySem.F.plainAttrs_str PySem.F.slot_str_index PySem.F.type_str_index xR h3 h6 h7 hO ha hA Oh
 | tindex =>
  rcases Hz ho with z|⟨x,p,rfl,rfl,hg,hn⟩
  exact Bool.noConfusion (z.symm.trans h1);exact yb O hg hn h6 h7 ha hA
 | _=>simp[zN] at h1
theorem Lq (pe:PE X (.BoolOp .And (x::r) p) (tD X F G (.and a b))) (w:tOK (.and a b)=ah->PW X (.BoolOp .And (x::r) p) (tDT X F G (.and a b))):XE F G X (.and a b) (.BoolOp .And (x::r) p) :=
 ⟨pe,λht=>⟨(w ht).pt,λ_ _ _ e=>by cases e;exact w ht⟩⟩
theorem sOr (pe:PE X (.BoolOp .Or (x::r) p) (tD X F G (.or a b))) (w:tOK (.or a b)=ah->PW X (.BoolOp .Or (x::r) p) (tDT X F G (.or a b))):XE F G X (.or a b) (.BoolOp .Or (x::r) p) :=
 ⟨pe,λht=>⟨(w ht).pt,λ_ _ _ e=>by cases e;exact w ht⟩⟩
theorem mL (h:tOK (.and a b)=ah):tOK a=ah/\tOK b=ah:=by have h:(tOK a&&tOK b)=ah:=h;simpa only[PZ] using h
theorem qW (h:tOK (.or a b)=ah):tOK a=ah/\tOK b=ah:=by have h:(tOK a&&tOK b)=ah:=h;simpa only[PZ] using h
noncomputable def MX (F:FT) (G:aB->Option BT.W) (sc:QX) (N:List aB):Tq->Prop
 | .e e' e=>∀ (X:Cx),Ok X F G sc N->XE F G X e' e| .es as es=>∀ (X:Cx),Ok X F G sc N->PA X es (tDs X F G as)| .o es' o=>∀ (X:Cx),Ok X F G sc N->XO F G X es' o| .c cond ifs=>nU F G sc N cond ifs| .i sr sa iter=>∀ (X:Cx),Ok X F G sc N->∀ (tg:P1),sI sr tg=ah->PI X tg iter (iD X F G sr sa)
theorem sQ (h:CQ sc N t):MX F G sc N t:=by
 refine @CQ.rec (λsc N t _=>MX F G sc N t)
  (λh1 h2 h3 X O=>ff (vJ O h1 h2 h3) (λ_ _ _ z=>nomatch z))
  (λh X O=>ff (Di h) (λ_ _ _ z=>nomatch z))
  (λh2 h3 X O=>ff (Dj O h2 h3) (λ_ _ _ z=>nomatch z))
  (λh _ _ ia ib X O=>ff (PE.weak (JN (opB h) (ia _ O).1 (ib _ O).1) (nO λs h=>by simp only[BT.ev])) (λ_ _ _ z=>nomatch z))
  (λ_ ia X O=>ff (PE.weak (EY yL (ia _ O).1) G1) (λ_ _ _ z=>nomatch z))
  (λ_ ia X O=>⟨PE.weak (FI (ia _ O).1) Do,λht=>⟨PT.weak (FH ((ia _ O).2 ht).1) Dn,λ_ _ _ e=>nomatch e⟩⟩)
  (λ_ _ ia ib X O=>Lq (PE.weak (yD (ia _ O).1 (yC (ib _ O).1)) vN) λht=>PW.weak (yz ((ia _ O).2 (mL ht).1).1 (Cb ((ib _ O).2 (mL ht).2).1)) vO)
  (λ_ _ ia ib X O=>Lq (PE.weak (yD (ia _ O).1 (ib _ O).1) vN) λht=>PW.weak (yz ((ia _ O).2 (mL ht).1).1 (((ib _ O).2 (mL ht).2).2 _ _ _ rfl)) vO)
  (λ_ _ ia ib X O=>sOr (PE.weak (EX (ia _ O).1 (yC (ib _ O).1)) Aj) λht=>PW.weak (EU ((ia _ O).2 (qW ht).1).1 (FG ((ib _ O).2 (qW ht).2).1)) Ak)
  (λ_ _ ia ib X O=>sOr (PE.weak (EX (ia _ O).1 (ib _ O).1) Aj) λht=>PW.weak (EU ((ia _ O).2 (qW ht).1).1 (((ib _ O).2 (qW ht).2).2 _ _ _ rfl)) Ak)
  (λh _ _ hm ia ib X O=>⟨PE.weak (Co (opC O h) (ia _ O).1 (ib _ O).1 hm) (nO λs h=>by simp only[BT.ev]),λ_=>⟨PT.weak (Cq (opC O h) (ia _ O).1 (ib _ O).1 hm) (sN (nO λs h=>by simp only[BT.ev])),λ_ _ _ e=>nomatch e⟩⟩)
  (λh h' _ _ _ hm ia ib ic X O=>⟨PE.weak (yO (opC O h) (opC O h') (ia _ O).1 (ib _ O).1 (ic _ O).1 hm) sO,λ_=>⟨PT.weak (yP (opC O h) (opC O h') (ia _ O).1 (ib _ O).1 (ic _ O).1 hm) (sN sO),λ_ _ _ e=>nomatch e⟩⟩)
  (λh _ _ _ ic ia ib X O=>⟨PE.weak (yE ((ic _ O).2 h).1 (ia _ O).1 (ib _ O).1) G0,λht=>nomatch ht⟩)
  (λ_ ia X O=>⟨PE.weak (F6 (ia _ O)) G4,λht=>nomatch ht⟩)
  (λ_ ia X O=>⟨PE.weak (yU (ia _ O)) G5,λht=>nomatch ht⟩)
  (λ_ _ hs ia ii X O=>ff (PE.weak (E1 GT (ia _ O).1 (ii _ O).1 (sM hs)) (nO λs h=>by simp only[BT.ev])) (λ_ _ _ z=>nomatch z))
  (λ_ _ _ ia il iu X O=>ff (by
   obtain ⟨tl,hl1,hl2⟩:=il _ O;obtain ⟨tu,hu1,hu2⟩:=iu _ O;exact PE.weak (zb osl (ia _ O).1 hl1 hu1) (G2 hl2 hu2)) (λ_ _ _ z=>nomatch z))
  (λhg hn ha ia X O=>ff (Al O hg hn ha (ia _ O)) (λ_ _ _ z=>nomatch z))
  (λhu hb hg hs _ ia X O=>ff (G3 O hu hb hg (by simp[dj,hs]) (lN (ia _ O).1 hs)) (λ_ _ _ z=>nomatch z))
  (λhb hg hg2 hs _ ia X O=>ff (Am O hb hg hg2 hs (ia _ O).1) (λ_ _ _ z=>nomatch z))
  (λh1 h2 h3 h6 h7 ho ha io ia X O=>ff (sMe O h1 h2 h3 h6 h7 ho ha (io _ O).1 (ia _ O)) (λ_ _ _ z=>nomatch z))
  (λhu hk ht hz hs _ _ _ ii ic ie X O=>⟨DF O hu hk ht hs (ii _ O _ hz) ic λX' O'=>(ie _ O').1,λht=>nomatch ht⟩)
  (λhb hf _ ia X O=>ff (Dq (sc:=sc) (N:=N) hb hf (ia _ O).1) (λ_ _ _ z=>nomatch z))
  (λh3 h6 h7 _ ha io ia X O=>ff (Ao O h3 h6 h7 (io _ O).1 ha (ia _ O)) (λ_ _ _ z=>nomatch z))
  (λhk _ ia X O=>ff (Dr hk (ia _ O).1) (λ_ _ _ z=>nomatch z))
  (λhu hb hg hs1 hs2 _ _ ia ib X O=>ff (Ds O hu hb hg (by simp[dj,hs1,hs2]) (uJ (ia _ O).1 (ib _ O).1 hs1 hs2)) (λ_ _ _ z=>nomatch z))
  (λhu hg hg2 hs1 hs2 _ _ ia ib X O=>ff (AH O hu hg hg2 hs1 hs2 (uJ (ia _ O).1 (ib _ O).1 hs1 hs2)) (λ_ _ _ z=>nomatch z))
  (λhg hn ha ia X O=>ff (Aq O hg hn ha (ia _ O)) (λ_ _ _ z=>nomatch z))
  (λhs _ ia X O=>⟨PE.weak (yU (lN (ia _ O).1 hs)) Hq,λht=>nomatch ht⟩)
  (λh3 h6 hs _ _ io ia X O=>ff (Hu h3 h6 hs (io _ O).1 (lN (ia _ O).1 hs)) (λ_ _ _ z=>nomatch z))
  (λ_ _ hs ia ii X O=>ff (PE.weak (E1 Hr (ia _ O).1 (ii _ O).1 (sM hs)) (nO λs h=>by simp only[BT.ev])) (λ_ _ _ z=>nomatch z))
  (λhg hs _ ia X O=>ff (Hs O hg hs (lN (ia _ O).1 hs)) (λ_ _ _ z=>nomatch z))
  (λhg hn h6 h7 ha ia X O=>ff (Hv O hg hn h6 h7 (gO ha) (ia _ O)) (λ_ _ _ z=>nomatch z))
  (λX O=>PA.weak qf fun σ H Q q=>jW q)
  (λhs _ _ ia ir X O=>PA.weak (jP (ia _ O).1 (ir _ O) (dg hs)) cons_of)
  (λX O=>Hx)
  (λ_ ia X O=>Hy (ia _ O).1)
  (.inl ⟨rfl,rfl⟩)
  (λht _ ia=>.inr ⟨_,_,rfl,rfl,λX' O'=>((ia _ O').2 ht).1⟩)
  (λhg hs _ ia X O _ _=>Ay O hg hs (lN (ia _ O).1 hs))
  (λhg hs hs2 _ _ ia ib X O _ _=>Az O hg hs hs2 (uJ (ia _ O).1 (ib _ O).1 hs hs2))
  (λhg hs _ ia X O _ _=>Dy O hg hs (ia _ O).1)
  (λ_ ia X O _ _=>Dw (ia _ O).1)
  sc N t h
theorem sE (h:CE' sc N e' e) (O:Ok X F G sc N):PE X e (tD X F G e'):=(sQ h X O).1
theorem sT (h:CE' sc N e' e) (O:Ok X F G sc N) (ht:tOK e'=ah):PT X e (tDT X F G e')/\∀ op vs p,e=.BoolOp op vs p->PW X e (tDT X F G e'):=(sQ h X O).2 ht
theorem sCC {cond:BT.Es} (h:CC sc N cond ifs):nU F G sc N cond ifs:=sQ h
theorem sCI (h:CI sc N sr sa iter) (O:Ok X F G sc N) (hz:sI sr tg=ah):PI X tg iter (iD X F G sr sa):=sQ h X O tg hz
end
end BS
end
section
namespace BS
open PySem PySem.Spec PyProof.Rows L2
open Classical in
section
end
section
variable {F:FT}{G:aB->Option BT.W}
section
variable {X:Cx}{cl:List (aB×P4)}{H3 H5:Hp}{s3 s5:PX}{m2 m5:List P4}
end
end
end BS
end
section
namespace BS
open PySem PySem.Spec PyProof.Rows L2
variable {K:PP}{st:QN}
noncomputable def lO:P1->Bool
 | .ListComp _ _ _ _=>ai| .SetComp _ _ _ _=>ai| .DictComp _ _ _ _ _=>ai| _=>ah
noncomputable def swB (sc scope:QX) (x:aB) (np pos:Pos):Bool :=
 (if sc.kind.isAnnotationScope then ScopeKind.function else sc.kind)==.function&&sc.names.lookup x==aa .local&&np.line==pos.line&&!(scope.names.any λ(n,k)=>n==x&&(k==.local||k==.cell))
mutual
inductive CS (sc:QX) (N:List aB):BT.S->QN->Prop where
 | setc {i:Nat}{x:aB}{mu:Bool}{sr:BT.Sr}{sa:BT.Es}{tg:List aB}{fv:List (Nat×aB)}{cond:BT.Es}{elt:BT.E}{te iter elt':P1}{ifs:List P1}{scope:QX}{pos np p:Pos} (hu:gR N=ah) (h1:N[i]?=aa x) (h3:(sc.names.lookup x==aa .cell||swB sc scope x np pos)=ah)
  (hk:kq sc N tg fv scope=ah) (ht:sJ (d8 scope sc) tg te=ah) (hz:sI sr te=ah) (hs:ko iter=ah) (hi:CI sc N sr sa iter) (hc:CC (d8 scope sc) (tg++fv.map (·.2)) cond ifs) (he:CE' (d8 scope sc) (tg++fv.map (·.2)) elt elt') :
  CS sc N (.set i (.comp mu sr sa tg fv cond elt)) (.Assign [.Name x np] (.ListComp elt' [⟨te,iter,ifs,0⟩] scope pos) p)
 | set {i:Nat}{x:aB}{e:BT.E}{v:P1}{np p:Pos} (h1:N[i]?=aa x) (h2:nQ sc x=ah) (h3:lO v=ah) (he:CE' sc N e v):CS sc N (.set i e) (.Assign [.Name x np] v p)
 | unp {tg:List (Nat×aB)}{e:BT.E}{es:List P1}{k:Nat}{fe:P1}{args:List P1}{kw:List Ui}{tp cp p:Pos} (hu:gR N=ah) (ht:CT sc N tg (.Tuple es k tp)) (he:CE' sc N e (.Call fe args kw cp)):CS sc N (.unp tg e) (.Assign [.Tuple es k tp] (.Call fe args kw cp) p)
 | put {i:Nat}{x:aB}{k e:BT.E}{ke v:P1}{np sp p:Pos} (h1:N[i]?=aa x) (h2:sH sc x=ah) (h3:fB x=ah) (h4:lO v=ah) (h5:kN ke=ah) (hk:CE' sc N k ke) (he:CE' sc N e v):CS sc N (.put i k e) (.Assign [.Subscript (.Name x np) ke sp] v p)
 | aug {i:Nat}{x:aB}{o:BT.Bin}{op:Tc}{e:BT.E}{v:P1}{np p:Pos} (h1:N[i]?=aa x) (h2:nQ sc x=ah) (h3:Ar o op=ah) (he:CE' sc N e v):CS sc N (.aug i o e) (.AugAssign (.Name x np) op v p)
 | setf {o e:BT.E}{f:aB}{oe v:P1}{np p:Pos} (h1:attrName f=ah) (h2:lO v=ah) (ho:CE' sc N o oe) (he:CE' sc N e v):CS sc N (.setf o f e) (.Assign [.Attribute oe f np] v p)
 | augf {o e:BT.E}{f:aB}{b:BT.Bin}{op:Tc}{oe v:P1}{np p:Pos} (h1:attrName f=ah) (h3:Ar b op=ah) (ho:CE' sc N o oe) (he:CE' sc N e v):CS sc N (.augf o f b e) (.AugAssign (.Attribute oe f np) op v p)
 | ex {e:BT.E}{v:P1}{p:Pos} (h:lO v=ah) (he:CE' sc N e v):CS sc N (.ex e) (.Expr v p)
 | ret {e:BT.E}{v:P1}{p:Pos} (he:CE' sc N e v):CS sc N (.ret e) (.Return (aa v) p)
 | ife {c:BT.E}{a b:BT.S}{t:P1}{xs ys:List QN}{p:Pos} (h:tOK c=ah) (hc:CE' sc N c t) (ha:CSs sc N a xs) (hb:CSs sc N b ys):CS sc N (.ife c a b) (.If t xs ys p)
 | whl {c:BT.E}{b:BT.S}{t:P1}{xs:List QN}{p:Pos} (h:tOK c=ah) (hc:CE' sc N c t) (hb:CSs sc N b xs):CS sc N (.whl c b) (.While t xs [] p)
 | for {tg:List (Nat×aB)}{sr:BT.Sr}{sa:BT.Es}{b:BT.S}{te iter:P1}{xs:List QN}{p:Pos} (hu:gR N=ah) (ht:CT sc N tg te) (hi:CI sc N sr sa iter) (hz:sI sr te=ah) (hs:ko iter=ah) (hb:CSs sc N b xs):CS sc N (.for tg sr sa b) (.For te iter xs [] p)
 | bad {st:QN}:CS sc N .bad st
 | rai {st:QN}{c:aB}{e:BT.E}:CS sc N (.rai c e) st
inductive CSs (sc:QX) (N:List aB):BT.S->List QN->Prop where
 | nil:CSs sc N .nil []
 | one {s:BT.S}{st:QN} (h:CS sc N s st):CSs sc N s [st]
 | cons {a b:BT.S}{st st2:QN}{r:List QN} (h:CS sc N a st) (hr:CSs sc N b (st2::r)):CSs sc N (.seq a b) (st::st2::r)
end
def kW (X:Cx) (m:List P4) (H:Hp) (fl:BT.Fl) (D:Ends):Prop:=match fl with
 | .nx s' h'=>∀ σ' H' m',Ext m H m' H'->RH X.K m' H' h'->RS X.prog X.w X.K m' H' σ' s'->D.nx σ' H'| .rt z h'=>∀ v H' m',Ext m H m' H'->RH X.K m' H' h'->RW X.prog X.w X.K m' H' v z->D.rt v H'| .bk s' h'=>∀ σ' H' m',Ext m H m' H'->RH X.K m' H' h'->RS X.prog X.w X.K m' H' σ' s'->D.bk σ' H'| .ct s' h'=>∀ σ' H' m',Ext m H m' H'->RH X.K m' H' h'->RS X.prog X.w X.K m' H' σ' s'->D.ct σ' H'
theorem kW.ext {D:Ends} (x:Ext m H m' H') (p:kW X m H fl D):kW X m' H' fl D:=by cases fl<;>exact λa b c y=>p a b c (x.trans y)
inductive tDS (X:Cx) (F:FT) (G:aB->Option BT.W) (S:BT.S) (D:Ends) (σ:L2.St) (H:Hp):Prop where
 | mk (m:List P4) (s:BT.Sl) (h:BT.HH) (fl:BT.Fl) (R:RH X.K m H h) (r:RS X.prog X.w X.K m H σ s) (e:BT.evS F G S s h=aa fl) (p:kW X m H fl D):tDS X F G S D σ H
theorem PS.weak (h:PS X st t) (q:∀ D σ H,t' D σ H->t D σ H):PS X st t':=λzt s σ H D I hw=>h zt s σ H D I (q _ _ _ hw)
theorem PSs.weak {st:List QN} (h:PSs X st t) (q:∀ D σ H,t' D σ H->t D σ H):PSs X st t':=λzt s σ H D I hw=>h zt s σ H D I (q _ _ _ hw)
section
theorem AI (D:Ends) (σ:L2.St) (H:Hp) (q:tDS X F G (.seq a b) D σ H):JB (tDS X F G a) (tDS X F G b) D σ H:=by
 obtain ⟨m,s,h,fl,R,S,e,zr⟩:=q;simp only[BT.evS] at e;cases g:BT.evS F G a s h with
 | none=>rw[g] at e;exact cW e
 | some f1 =>
  rw[g] at e;refine ⟨m,s,h,f1,R,S,g,?_⟩;cases f1 with
  | nx s1 h1=>exact fun σ1 H1 m1 x1 R1 S1=>⟨m1,s1,h1,fl,R1,S1,e,zr.ext x1⟩
  | _=>cases e;exact zr
theorem l9 {X:Cx}{S0:BT.S}{a:BT.E}{k:BT.Sl->BT.W->BT.HH->Option BT.Fl} (he:∀ s h,BT.evS F G S0 s h=BT.bnd (BT.ev F G a s h) (k s)) {D:Ends}{σ:L2.St}{H:Hp} (q:tDS X F G S0 D σ H) {R':V->Hp->Prop}
 (h1:∀ m s h x fl v H1,RH X.K m H1 h->RS X.prog X.w X.K m H1 σ s->RW X.prog X.w X.K m H1 v x->k s x h=aa fl->kW X m H1 fl D->R' v H1):tD X F G a σ H R':=by
 obtain ⟨m,s,h,fl,R,S,ee,zr⟩:=q;rw[he] at ee;obtain ⟨x,g,e1,e2⟩:=cZ ee;exact ⟨m,s,h,x,g,R,S,e1,λv H1 m1 x1 R1 r1=>h1 m1 s g x fl v H1 R1 (S.ext x1) r1 e2 (zr.ext x1)⟩
theorem we (h:BT.tst x k=aa fl):∃ b g,x=aa (.p (.bl b),g)/\k b g=aa fl:=by
 unfold BT.tst at h;obtain ⟨w,g,e1,e2⟩:=cZ h;unfold BT.KO at e2;cases w with
 | p d =>
  cases d<;>simp only at e2<;>try contradiction
  exact ⟨_,g,e1,e2⟩
 | _=>exact cW e2
theorem mO (h:lO e=ah):SW e t l env=pure ai:=by cases e<;>first|rfl|exact BT.eW h
theorem DU (h:lO e=ah):swapsWithSole [t] e l env=pure ai:=mO h
theorem uK (h:kN i=ah):∀ v,U0 (.Subscript o i pos) env v=(do
 let ov ← TR [v] (eval o env)
 let iv ← TR [v,ov] (eval i env)
 Vl pos
 TR [v,ov,iv] (setItem ov iv v)
 release [v,ov,iv] []):=by
 intro v;cases i<;>first|rfl|exact BT.eW h
theorem HA (D:Ends) (σ:L2.St) (H:Hp) (q:tDS X F G (.whl c b) D σ H):yJ (tDT X F G c) (tDS X F G b) D σ H:=by
 obtain ⟨m0,s,h,fl,R,S,e,zr⟩:=q;simp only[BT.evS] at e;refine ⟨λn σ H=>∃ m s h,RH X.K m H h/\RS X.prog X.w X.K m H σ s/\BT.eg (BT.ev F G c) (BT.evS F G b) n s h=aa fl/\kW X m H fl D,⟨BT.turns,m0,s,h,R,S,e,zr⟩,?_⟩
 rintro n σ1 H1 ⟨m,s,h,R,S,e,zr⟩
 cases n with
 | zero=>exact cW e
 | succ n =>
  rw[BT.eg] at e;obtain ⟨t,g,e1,e2⟩:=we e;refine ⟨m,s,h,t,g,R,S,e1,λH2 m2 x2 R2=>?_⟩;cases t with
  | false =>
   rw[BT.nF] at e2;cases e2;rw[if_neg (by decide)];exact zr σ1 H2 m2 x2 R2 (S.ext x2)
  | true =>
   rw[BT.kj] at e2;rw[if_pos rfl];refine ⟨fun σ' H'=>∃ m' s' h',RH X.K m' H' h'/\RS X.prog X.w X.K m' H' σ' s'/\BT.eg (BT.ev F G c) (BT.evS F G b) n s' h'=aa fl/\kW X m' H' fl D,fun σ' H' ⟨m',s',h',a1,a2,a3,a4⟩=>⟨n,RI n,m',s',h',a1,a2,a3,a4⟩,?_⟩;cases gb:BT.evS F G b s g with
   | none=>rw[gb] at e2;exact cW e2
   | some f1 =>
    rw[gb] at e2;refine ⟨m2,s,g,f1,R2,S.ext x2,gb,?_⟩;cases f1 with
    | nx s1 h1=>exact fun σ3 H3 m3 x3 R3 S3=>⟨m3,s1,h1,R3,S3,e2,(zr.ext x2).ext x3⟩
    | ct s1 h1=>exact fun σ3 H3 m3 x3 R3 S3=>⟨m3,s1,h1,R3,S3,e2,(zr.ext x2).ext x3⟩
    | bk s1 h1=>cases e2;exact fun σ3 H3 m3 x3 R3 S3=>zr σ3 H3 m3 (x2.trans x3) R3 S3
    | rt z h1=>cases e2;exact λv H3 m3 x3 R3 r3=>zr v H3 m3 (x2.trans x3) R3 r3
theorem HB (D:Ends) (σ:L2.St) (H:Hp) (q:tDS X F G (.aug i o e) D σ H):JI i (tD X F G e) (G6 o) D σ H:=by
 obtain ⟨m,s,h,fl,R,S,ee,zr⟩:=q;simp only[BT.evS] at ee;obtain ⟨y,g,e1,e2⟩:=cZ ee;unfold BT.KZ at e2;have hs:∃ d d' z,s[i]?=aa (aa (.p d))/\y=.p d'/\BT.ng o d d'=aa z/\fl=.nx (s.set i (aa (.p z))) g:=by
  cases g1:s[i]? with
  | none=>rw[g1] at e2;cases y<;>exact cW e2
  | some ow =>
   cases ow with
   | none=>rw[g1] at e2;cases y<;>exact cW e2
   | some w0 =>
    rw[g1] at e2;cases w0<;>cases y<;>simp only at e2<;>try contradiction
    obtain ⟨z,e3,e4⟩:=dH e2;exact ⟨_,_,z,rfl,rfl,e3,e4.symm⟩
 obtain ⟨d,d',z,g1,rfl,e3,rfl⟩:=hs;obtain ⟨a,b,k,rfl,rfl,rfl⟩:=vR e3;obtain ⟨v,hv,rv⟩:=S.get i _ g1;have ev:v=.int a:=by cases rv with|p rv=>cases rv;rfl
 subst ev;refine ⟨_,hv,m,s,h,_,g,R,S,e1,λu H1 m1 x1 R1 r1=>?_⟩;cases r1 with
 | p r1 =>
  cases r1;exact ⟨a,b,k,rfl,rfl,e3,zr _ H1 m1 x1 R1 ((S.ext x1).set (.p (.int k)))⟩
theorem yc (e:BT.qA s f v x h=aa fl):∃ n c fs,x=.o n/\BT.oat h n=aa (c,fs)/\BT.attrOk v=ah/\fs.length < 1000/\fl=.nx s (h.set n (.o c (BT.eH f v fs))):=by
 cases x with
 | o n =>
  rw[BT.zG] at e;cases g:BT.oat h n with
  | none=>rw[g] at e;exact cW e
  | some q =>
   obtain ⟨c,fs⟩:=q;rw[g] at e;simp only at e;obtain ⟨c1,e⟩:=dG e;cases e;simp only[PZ,decide_eq_true_eq] at c1;exact ⟨n,c,fs,rfl,g,c1.1,c1.2,rfl⟩
 | _=>exact cW e
theorem sW {D:Ends} (R:RH X.K m H h) (S:RS X.prog X.w X.K m H σ s) (hn:m[n]?=aa a) (h1:H a=aa (.ins C dx vs)) (h2:nH X.K c C) (h3:RFs X.K m H vs fs) (ra:RA X.K m H v y)
 (zr:kW X m H (.nx s (h.set n (.o c (BT.eH f y fs)))) D):D.nx σ (upd H a (.ins C dx (L2.eH f v vs))):=by
 have x:Ext m H m (upd H a (.ins C dx (L2.eH f v vs))):=nI (P8 hn) ⟨_,h1,rfl⟩;exact zr σ _ m x (R.setC hn ⟨_,h1,rfl⟩ ⟨C,dx,_,ef,h2,(RFs.put ra h3).ext x⟩) (S.ext x)
theorem DV {X:Cx}{o e:BT.E}{f:aB} (hf:attrName f=ah) (D:Ends) (σ:L2.St) (H:Hp) (q:tDS X F G (.setf o f e) D σ H):JU X.K (tD X F G o) (tD X F G e) f D σ H:=by
 refine l9 (k:=λs=>BT.zH (BT.ev F G o s) s f) (λs h=>by simp only[BT.evS]) q λm s h y fl v H1 R S r e1 zr=>?_;rw[BT.zI] at e1;obtain ⟨x,g,e2,e3⟩:=cZ e1;obtain ⟨n,c,fs,rfl,g1,ok,hl,rfl⟩:=yc e3;refine ⟨m,s,h,.o n,g,R,S,e2,λu H2 m2 x2 R2 r2=>?_⟩;cases r2 with
 | @o a _ hn =>
  obtain ⟨C,dx,vs,q1,q2,q3⟩:=R2.sL _ _ _ _ hn g1;exact ⟨a,C,dx,vs,rfl,q1,q2.cls,q2.no f hf,by rw[q3.length];exact hl,sW R2 (S.ext x2) hn q1 q2 q3 ((r.ext x2).ra ok) (zr.ext x2)⟩
theorem AJ (e:BT.vD ee s f op x h=aa fl):∃ n c fs d y g fs' z,x=.o n/\BT.oat h n=aa (c,fs)/\BT.dU f fs=aa (.p d)/\ee h=aa (.p y,g)/\BT.oat g n=aa (c,fs')/\BT.ng op d y=aa z/\fs'.length < 1000/\fl=.nx s (g.set n (.o c (BT.eH f (.p z) fs'))):=by
 cases x with
 | o n =>
  rw[BT.C4] at e;cases g1:BT.oat h n with
  | none=>rw[g1] at e;exact cW e
  | some q =>
   obtain ⟨c,fs⟩:=q;rw[g1] at e;simp only at e;cases g2:BT.dU f fs with
   | none=>rw[g2] at e;exact cW e
   | some w0 =>
    rw[g2] at e;cases w0 with
    | p d =>
     simp only at e;obtain ⟨y,g,e1,e2⟩:=cZ e;cases y with
     | p y =>
      rw[BT.zJ] at e2;cases g3:BT.oat g n with
      | none=>rw[g3] at e2;exact cW e2
      | some q =>
       obtain ⟨c',fs'⟩:=q;rw[g3] at e2;simp only at e2;cases g4:BT.ng op d y with
       | none=>rw[g4] at e2;exact cW e2
       | some z =>
        rw[g4] at e2;simp only at e2;obtain ⟨c1,e2⟩:=dG e2;cases e2;obtain ⟨rfl,c1⟩:=c1;exact ⟨n,c',fs,d,y,g,fs',z,rfl,g1,g2,e1,g3,g4,c1,rfl⟩
     | _=>exact cW e2
    | _=>exact cW e
 | _=>exact cW e
theorem DW {X:Cx}{o e:BT.E}{f:aB}{b:BT.Bin} (hf:attrName f=ah) (D:Ends) (σ:L2.St) (H:Hp) (q:tDS X F G (.augf o f b e) D σ H):vh X.K (tD X F G o) (tD X F G e) (G6 b) f D σ H:=by
 refine l9 (k:=λs=>BT.vD (BT.ev F G e s) s f b) (λs h=>by simp only[BT.evS]) q λm s h y fl v H1 R S r e1 zr=>?_;obtain ⟨n,c,fs,d,y,g,fs',z,rfl,g1,g2,e2,g3,g4,hl,rfl⟩:=AJ e1;obtain ⟨i,j,k,rfl,rfl,rfl⟩:=vR g4;cases r with
 | @o a _ hn =>
  obtain ⟨C,dx,vs,q1,q2,q3⟩:=R.sL _ _ _ _ hn g1;obtain ⟨u,l,ra⟩:=q3.get g2;have eu:u=.int i:=by cases ra with|p ra=>cases ra;rfl
  subst eu;refine ⟨a,C,dx,vs,_,rfl,q1,q2.cls,q2.no f hf,l,m,s,h,_,g,R,S,e2,λu2 H2 m2 x2 R2 r2=>?_⟩;cases r2 with
  | p r2 =>
   cases r2;obtain ⟨C',dx',vs',p1,p2,p3⟩:=R2.sL _ _ _ _ (x2.ix hn) g3;cases p2.cn.inj q2.cn;exact ⟨i,j,k,rfl,rfl,g4,dx',vs',p1,by rw[p3.length];exact hl,sW R2 (S.ext x2) (x2.ix hn) p1 p2 p3 (.p (.int k)) (zr.ext x2)⟩
theorem HC {X:Cx}{i:Nat}{k e:BT.E} (D:Ends) (σ:L2.St) (H:Hp) (q:tDS X F G (.put i k e) D σ H):yG (tD X F G e) (JH (tD X F G (.var i)) (tD X F G k) E2) D σ H:=by
 refine l9 (k:=λs=>BT.GH (BT.ev F G k s) s i) (λs h=>by simp only[BT.evS]) q λm s h y fl v H1 R S r e1 zr=>?_;unfold BT.GH at e1;cases y with
 | p d =>
  cases g:s[i]? with
  | none=>rw[g] at e1;exact cW e1
  | some o =>
   cases o with
   | none=>rw[g] at e1;exact cW e1
   | some wz =>
    cases wz with
    | r n =>
     rw[g] at e1;simp only at e1;obtain ⟨q,h2,e2,e3⟩:=cZ e1;refine ⟨m,s,h,.r n,h,R,S,by simp only[BT.ev,g],λo H2 m2 x2 R2 r2=>⟨m2,s,h,q,h2,R2,S.ext x2,e2,λki H3 m3 x3 R3 r3=>?_⟩⟩;unfold BT.E8 at e3;cases q with
     | p dk =>
      cases g2:BT.lat h2 n with
      | none=>rw[g2] at e3;cases dk<;>exact cW e3
      | some xs =>
       rw[g2] at e3;cases dk with
       | int j =>
        simp only at e3;cases g3:BT.place xs.length j with
        | none=>rw[g3] at e3;exact cW e3
        | some mm =>
         rw[g3] at e3;cases e3;have r2':=r2.ext x3;cases r2' with
         | @r a _ hn =>
          cases r3 with
          | p r3 =>
           cases r3;obtain ⟨us,hH,ru⟩:=R3.cell n a xs hn g2;refine ⟨a,us,j,mm,rfl,rfl,hH,by rw[ru.length];exact g3,?_⟩;have x4:Ext m3 H3 m3 (upd H3 a (.lst (us.set mm v))):=gS (P8 hn) hH;cases r with
           | p r=>exact zr σ _ m3 ((x2.trans x3).trans x4) (R3.set hn hH (RDs.set ((r.ext x2).ext x3) mm ru)) (((S.ext x2).ext x3).ext x4)
       | _=>exact cW e3
     | _=>exact cW e3
    | _=>rw[g] at e1;exact cW e1
 | _=>exact cW e1
end
section
theorem HD (hg:GOk X tg g) (D:Ends) (σ:L2.St) (H:Hp) (q:tDS X F G (.for tg sr sa b) D σ H):JM (iD X F G sr sa) g (tDS X F G b) D σ H:=by
 obtain ⟨m,s,h,fl,R,S,e,zr⟩:=q;simp only[BT.evS] at e;obtain ⟨ws,h1,e1,e2⟩:=cZ e;unfold BT.kFor at e2;cases g1:(BT.rds ws h1).bind (BT.gP sr) with
 | none=>rw[g1] at e2;exact cW e2
 | some ds =>
  rw[g1] at e2;simp only at e2;split at e2
  ·rename_i ca;refine ⟨m,s,h,ws,h1,ds,R,S,e1,g1,.inl ca,λH1 m1 J x1 R1 it=>?_⟩;refine ⟨λi n σ H=>i<=ds.length/\n=ds.length - i/\∃ m s h,Ext m1 H1 m H/\RH X.K m H h/\RS X.prog X.w X.K m H σ s/\BT.gB (BT.evS F G b) tg (ds.drop i) s h=aa fl/\kW X m H fl D,
    ⟨ds.length,RC _,rfl,m1,s,h1,.refl _ _,R1,S.ext x1,by rw[List.drop_zero];exact e2,zr.ext x1⟩,?_⟩
   rintro i n σ2 H2 ⟨hi,rfl,m2,s2,h2,x2,R2,S2,e3,post2⟩
   by_cases c:i < ds.length
   ·refine .inr ⟨it.go m2 H2 h2 i x2 R2 (nP ca) c,_,fun σ' H' z=>⟨ds.length - (i+1),by lia,c,rfl,z⟩,λx H3 y=>?_⟩;obtain ⟨x3,k3,r3⟩:=it.yld m2 H2 h2 i x H3 ds[i] x2 R2 (nP ca) (P0 c) y;rw[U6 c,BT.gB] at e3;cases g2:BT.target tg.length ds[i] with
    | none=>rw[g2] at e3;exact cW e3
    | some dd =>
     rw[g2] at e3;simp only at e3;have R3:=R2.ext x3 k3;refine hg m2 H3 σ2 s2 x ds[i] dd _ (S2.ext x3) r3 g2 fun σ4 S4=>?_;cases g3:BT.evS F G b (BT.sets tg dd s2) h2 with
     | none=>rw[g3] at e3;exact cW e3
     | some f1 =>
      rw[g3] at e3;refine ⟨m2,_,h2,f1,R3,S4,g3,?_⟩;cases f1 with
      | nx s5 h5=>exact fun σ5 H5 m5 x5 R5 S5=>⟨m5,s5,h5,(x2.trans x3).trans x5,R5,S5,e3,(post2.ext x3).ext x5⟩
      | ct s5 h5=>exact fun σ5 H5 m5 x5 R5 S5=>⟨m5,s5,h5,(x2.trans x3).trans x5,R5,S5,e3,(post2.ext x3).ext x5⟩
      | bk s5 h5=>cases e3;exact fun σ5 H5 m5 x5 R5 S5=>post2 σ5 H5 m5 (x3.trans x5) R5 S5
      | rt z h5=>cases e3;exact λv H5 m5 x5 R5 r5=>post2 v H5 m5 (x3.trans x5) R5 r5
   ·have ei:i=ds.length:=by lia
    subst ei;refine .inl ⟨it.stop m2 H2 h2 x2 R2 (nP ca),?_⟩;rw[List.drop_length,BT.gB] at e3;cases e3;exact post2 σ2 H2 m2 (.refl _ _) R2 S2
  exact cW e2
theorem Lr {X:Cx}{sc:QX}{N:List aB} (O:Ok X F G sc N) {x:aB}{np pos p:Pos}{elt':P1}{gs:List Comprehension}{scope:QX} (h:swB sc scope x np pos=ah):SW (.ListComp elt' gs scope pos) (aa (.Name x np)) p.line X.env=pure ah:=by have e:SW (.ListComp elt' gs scope pos) (aa (.Name x np)) p.line X.env=pure (swB X.env.scope scope x np pos):=rfl;rw[e,O.hsc,h]
theorem DX (c:(sc.names.lookup x==aa .cell)=ah):nQ sc x=ah:=by unfold nQ;rw[eq_of_beq c]
theorem AK (h:swB sc scope x np pos=ah):sc.names.lookup x=aa .local:=by unfold swB at h;simp only[PZ] at h;exact eq_of_beq h.1.1.2
theorem Ls {X:Cx}{sc:QX}{N:List aB} (O:Ok X F G sc N) {x:aB}{np pos p:Pos}{elt':P1}{gs:List Comprehension}{scope:QX} (c:(sc.names.lookup x==aa .cell)=ah):SW (.ListComp elt' gs scope pos) (aa (.Name x np)) p.line X.env=pure ai:=by
 have e:SW (.ListComp elt' gs scope pos) (aa (.Name x np)) p.line X.env=pure (swB X.env.scope scope x np pos):=rfl;have z:swB sc scope x np pos=ai:=by
  cases h:swB sc scope x np pos with
  | false=>rfl
  | true =>
   have:=AK h;rw[eq_of_beq c] at this;cases this
 rw[e,O.hsc,z]
theorem AL:PSs X [] (tDS X F G .nil):=PSs.weak Cd λD σ H q=>by obtain ⟨m,s,h,fl,R,S,e,zr⟩:=q;simp only[BT.evS] at e;cases e;exact zr σ H m (.refl _ _) R S
theorem sS (O:Ok X F G sc N) (hf:∀ x,X.fn x=ah) (hh:CS sc N s st):PS X st (tDS X F G s) :=
 CS.rec (motive_1:=λs st _=>PS X st (tDS X F G s)) (motive_2:=λs sts _=>PSs X sts (tDS X F G s))
  (@λi x mu sr sa tg fv cond elt te iter elt' ifs scope pos np p hu h1 h3 hk ht hz hs hi hc he=>by
   have K:∀ (D:Ends) (σ:L2.St) (H:Hp),tDS X F G (.set i (.comp mu sr sa tg fv cond elt)) D σ H->yG (tD X F G (.comp mu sr sa tg fv cond elt)) (vd i) D σ H:=λD σ H q =>
    l9 (k:=λs=>BT.zE s i) (λs h=>rfl) q λm s h y fl v H1 R S r e1 zr=>by simp only[BT.zE] at e1;cases e1;exact zr _ H1 m (.refl _ _) R (S.set r)
   by_cases c:(sc.names.lookup x==aa .cell)=ah
   exact PS.weak (yI (i:=i) O.nd (by rw[O.hN];exact h1) (nR O (DX c)) (sE (CQ.comp hu hk ht hz hs hi hc he) O) (Ls O c) (.inl (hf x))) K
   ·have h4:swB sc scope x np pos=ah:=by rw[So] at h3;exact h3.resolve_left c
    exact PS.weak (DG O hu hk ht hs (sCI hi O hz) (sCC hc) (λX' O'=>sE he O') h1 (AK h4) (Lr O h4)) K)
  (@λi x e v np p h1 h2 h3 he=>PS.weak (yI (i:=i) O.nd (by rw[O.hN];exact h1) (nR O h2) (sE he O) (mO h3) (.inl (hf x))) λD σ H q =>
   l9 (k:=λs=>BT.zE s i) (λs h=>by simp only[BT.evS]) q λm s h y fl v H1 R S r e1 zr=>by simp only[BT.zE] at e1;cases e1;exact zr _ H1 m (.refl _ _) R (S.set r))
  (@λtg e es k fe args kw tp cp p hu ht he=>by
   obtain ⟨g,hg1,hg2⟩:=sCT O (O.calm hu) ht λq _=>.inl (hf q.2);exact PS.weak (yH (sE he O) hg1 rfl rfl) λD σ H q=>l9 (k:=λs=>BT.GG s tg) (λs h=>by simp only[BT.evS]) q λm s h y fl v H1 R S r e1 zr=>by
    cases r with
    | p r =>
     simp only[BT.GG] at e1;rename_i d;cases g1:BT.unpack tg.length d with
     | none=>rw[g1] at e1;exact cW e1
     | some ds =>
      rw[g1] at e1;cases e1;refine hg2 m H1 σ s _ d ds _ S r ?_ fun σ' S'=>zr _ H1 m (.refl _ _) R S';cases ht with
      | tup hl _ =>
       unfold BT.target;rw[if_neg (by have:=VF hl;lia)];exact g1
    | _=>exact cW e1)
  (λh1 h2 h3 h4 h5 hk he=>PS.weak (yH (sE he O) (FN (vJ O h1 h2 h3) (sE hk O) set_list (uK h5)) (DU h4) rfl) HC)
  (λh1 h2 h3 he=>PS.weak (FO O.nd (by rw[O.hN];exact h1) (nR O h2) (sE he O) (vQ h3) (.inl (hf _))) HB)
  (λh1 h2 ho he=>PS.weak (F4 (sE ho O) (sE he O) (mO h2)) (DV h1))
  (λh1 h3 ho he=>PS.weak (xq (sE ho O) (sE he O) (vQ h3)) (DW h1))
  (λh he=>PS.weak (Ce (sE he O) (mO h)) λD σ H q =>
   l9 (k:=λs=>BT.kEx s) (λs h=>by simp only[BT.evS]) q λm s h y fl v H1 R S r e1 zr=>by simp only[BT.kEx] at e1;cases e1;exact zr σ H1 m (.refl _ _) R S)
  (λhe=>PS.weak (FJ (sE he O)) λD σ H q =>
   l9 (k:=λs=>BT.GI) (λs h=>by simp only[BT.evS]) q λm s h y fl v H1 R S r e1 zr=>by simp only[BT.GI] at e1;cases e1;exact zr v H1 m (.refl _ _) R r)
  (λh hc ha hb ia ib=>PS.weak (JD (sT hc O h).1 ia ib) λD σ H q=>by
   obtain ⟨m,s,h,fl,R,S,e,zr⟩:=q;simp only[BT.evS] at e;obtain ⟨t,g,e1,e2⟩:=we e;refine ⟨m,s,h,t,g,R,S,e1,λH1 m1 x1 R1=>?_⟩;simp only[BT.kIf] at e2;cases t with
   | true=>exact ⟨m1,s,g,fl,R1,S.ext x1,e2,zr.ext x1⟩
   | false=>exact ⟨m1,s,g,fl,R1,S.ext x1,e2,zr.ext x1⟩)
  (λh hc hb ib=>PS.weak (yK O.own (sT hc O h).1 ib) HA)
  (λhu ht hi hz hs hb ib=>by obtain ⟨g,hg1,hg2⟩:=sCT O (O.calm hu) ht (λq _=>.inl (hf q.2));exact PS.weak (FQ O.own (O.calm hu) (sCI hi O hz) hg1 ib (vW hs)) (HD hg2))
  (λzt s σ H D I q=>by obtain ⟨m,s,h,fl,R,S,e,zr⟩:=q;simp only[BT.evS] at e;exact cW e)
  (λzt s σ H D I q=>by obtain ⟨m,s,h,fl,R,S,e,zr⟩:=q;simp only[BT.evS] at e;exact cW e)
  AL
  (λ_ ih=>vc ih)
  (λ_ _ ih ir=>PSs.weak (rS ih ir) AI)
  hh
theorem sSs (O:Ok X F G sc N) (hf:∀ x,X.fn x=ah) {sts:List QN} (hh:CSs sc N s sts):PSs X sts (tDS X F G s):=by refine CSs.rec (motive_1:=λ_ _ _=>True) (motive_2:=λs sts _=>PSs X sts (tDS X F G s)) ?_ ?_ ?_ ?_ ?_ ?_ ?_ ?_ ?_ ?_ ?_ ?_ ?_ ?_ AL (λh _=>vc (sS O hf h)) (λh _ _ ir=>PSs.weak (rS (sS O hf h) ir) AI) hh<;>(intros;trivial)
end
section
variable {K:PP}
mutual
theorem RD.shrink (x:∀ a∈m,a∈m'):∀ {v:V}{d:BT.D},RD K m' H v d->RD K m H v d
 | _,_,.non=>.non| _,_,.bl b=>.bl b| _,_,.int i=>.int i| _,_,.str y h=>.str y h| _,_,.tup h r=>.tup (h.elim (λq=>.inl ⟨q.1,λz=>q.2 (x _ z)⟩) .inr) (RDs.shrink x r)| _,_,.lst h r=>.lst (h.elim (λq=>.inl ⟨q.1,λz=>q.2 (x _ z)⟩) .inr) (RDs.shrink x r)
theorem RDs.shrink (x:∀ a∈m,a∈m'):∀ {vs:List V}{ds:List BT.D},RDs K m' H vs ds->RDs K m H vs ds
 | _,_,.nil=>.nil| _,_,.cons r t=>.cons (RD.shrink x r) (RDs.shrink x t)
end
end
theorem RFs.shrink {K:PP}:∀ {vs0 vs:List (aB×V)}{fs:List (aB×BT.W)},RFs K m H vs0 fs->RFs K (m++ex) H' vs fs->RFs K m H' vs fs
 | _,_,_,.nil,.nil=>.nil
 | _,_,_,.cons r0 t0,.cons r t=>by
  refine .cons ?_ (RFs.shrink t0 t);have back:∀ {n:Nat}{a b:P4},m[n]?=aa b->(m++ex)[n]?=aa a->m[n]?=aa a:=λ{n a b} h1 h2=>by rw[PV (getD_some h1)] at h2;exact h2
  cases r with
  | p r=>exact .p (r.shrink λa ha=>SJ _ ha)
  | r h=>cases r0 with|r h0=>exact .r (back h0 h)
  | o h=>cases r0 with|o h0=>exact .o (back h0 h)
theorem RKs.shrink {K:PP} (sub:∀ a∈m,a∈m') (r:RKs K m' H vs kvs):RKs K m H vs kvs:=by
 induction r with
 | nil=>exact .nil| cons hk r t ih=>exact .cons (hk.shrink sub) (r.shrink sub) ih
theorem RBs.shrink {m ex:List P4}{vs0:List V}{ns:List Nat} (r0:RBs m vs0 ns):∀ {vs:List V},RBs (m++ex) vs ns->RBs m vs ns:=by
 induction r0 with
 | nil=>intro vs r;cases r;exact .nil
 | cons h t ih =>
  intro vs r;cases r with
  | cons h2 t2 =>
   rw[PV (getD_some h)] at h2;exact .cons h2 (ih t2)
theorem pT (e:BT.fin h y g=aa (z,h')) (R:RH K m H h) (x:Ext m H m' H') (R':RH K m' H' g) (r:RW P w K m' H' v y) :
 ∃ m2,Ext m H m2 H'/\RH K m2 H' h'/\RW P w K m2 H' v z:=by
 unfold BT.fin at e;split at e;cases e;exact ⟨m',x,R',r⟩
 ·split at e
  ·rename_i c1 c2;obtain ⟨ex,rfl,hx⟩:=x.pre;have sub:∀ a∈m,a∈m++ex:=λa ha=>SJ _ ha;have x2:Ext m H m H':=⟨⟨[],by simp,by simp⟩,x.keep,x.live,x.frz⟩;have R2:RH K m H' h:=by
    refine ⟨R.nd,R.len,λi a xs e1 e2=>?_,R'.tb⟩;have hi:i < m.length:=getD_some e1;have hi2:i < h.length:=by rw[← R.len];exact hi
    have e3:g[i]?=aa xs:=by rw[← c2,Sh hi2] at e2;exact e2
    have z:=R'.cl i a xs (by rw[PV hi];exact e1) e3;cases xs with
    | o c fs =>
     obtain ⟨C0,dx0,vs0,_,_,q0⟩:=R.cl i a _ e1 e2;obtain ⟨C,dx,vs,q1,q2,q3⟩:=z;exact ⟨C,dx,vs,q1,q2,q0.shrink q3⟩
    | z=>exact z
    | b ns =>
     obtain ⟨vs0,_,q0⟩:=R.cl i a _ e1 e2;obtain ⟨vs,q1,q2⟩:=z;exact ⟨vs,q1,q0.shrink q2⟩
    | _=>obtain ⟨vs,q1,q2⟩:=z;exact ⟨vs,q1,q2.shrink sub⟩
   cases r with
   | p r=>cases e;exact ⟨m,x2,R2,.p (r.shrink sub)⟩
   | @o a n hn =>
    simp only at e;split at e
    ·rename_i c3;cases e;refine ⟨m,x2,R2,.o ?_⟩;rw[PV (by rw[R.len];exact c3)] at hn;exact hn
    cases e;exact ⟨m++ex,x,R',.o hn⟩
   | @r a n hn =>
    simp only at e;split at e
    ·rename_i c3;cases e;refine ⟨m,x2,R2,.r ?_⟩;rw[PV (by rw[R.len];exact c3)] at hn;exact hn
    ·rename_i c3;obtain ⟨xs,e4,e5⟩:=dH e;cases e5;obtain ⟨vs,q1,q2⟩:=R'.cell n a xs hn e4;refine ⟨m,x2,R2,.p (.lst (.inl ⟨.inl q1,λz=>?_⟩) (q2.shrink sub))⟩;obtain ⟨j,hj⟩:=RX z;have hjl:=getD_some hj;have ej:(m++ex)[j]?=aa a:=by rw[PV hjl];exact hj
     have:=pP R'.nd ej hn;rw[R.len] at hjl;lia
   | _=>exact cW e
  cases e;exact ⟨m',x,R',r⟩
theorem AM (r:RWs P w K m H vs ws):RS P w K m H (L2.start N vs) (BT.fc N.length ws):=by
 have hl:=r.length;refine ⟨by simp[L2.start,BT.fc,hl],λi y e=>?_⟩;simp only[BT.fc] at e
 by_cases c:i < ws.length
 ·rw[PV (by simpa using c),Qj] at e;obtain ⟨z,e1,e2⟩:=dH e;cases e2;have:∀ {vs:List V}{ws:List BT.W}{i:Nat},RWs P w K m H vs ws->ws[i]?=aa y->∃ v,vs[i]?=aa v/\RW P w K m H v y:=by
   intro vs ws i r
   induction r generalizing i with
   | nil=>intro e;simp at e
   | cons r t ih =>
    intro e;cases i with
    | zero=>simp at e;subst e;exact ⟨_,rfl,r⟩| succ i=>simpa using ih (by simpa using e)
  obtain ⟨v,h1,h2⟩:=this r e1;refine ⟨v,?_,h2⟩;unfold L2.start;rw[PV (by simp;lia),Qj,h1];rfl
 ·rw[QB (by simpa using c),Sk] at e;split at e<;>cases e
def nV (K:PP) (q:aB) (fd:Ry) (fn:BT.Fn):Prop:=∀ y,fn.ns.contains (BT.jy y)=ah->q=y/\y∈BT.g8 ∧
 (∃ c P,Ri K y=aa (c,P)/\fd.code=.ref c/\Uj K c P=ah/\∀ z∈BT.g8,∀ c2,Ri K z=aa (c2,P)->z=y) ∧
 ∃ bm ob,QI K Qh "__builtins__"=aa (aa (.ref bm))/\bm≠Su/\K.lookup bm=aa ob/\ob.cls=.type "module"/\ob.dict=aa Su/\ob.data=.plain
inductive Lu (K:PP) (mg:aB->Option aC) (x:aB) (fn:BT.Fn):Prop where
 | mk (f:P4) (fd:Ry) (st:QN) (h1:mg x=aa (.ref f)) (h2:Fun K x x st f fd) (h3:fL fn.ns fn.ps (dh st)) (h4:Binds K fd fn.ps []) (h5:CSs (dh st) fn.ns fn.body (dR st)) (h6:nV K x fd fn):Lu K mg x fn
structure Def (K:PP) (mg:aB->Option aC) (x:aB) (fn:BT.Fn):Prop where
 ex:Lu K mg x fn
inductive Fj (K:PP) (mg:aB->Option aC) (c m:aB) (fn:BT.Fn):Prop where
 | mk (C f:P4) (fd:Ry) (x qual:aB) (st:QN) (h1:nH K c C) (h2:mg c=aa (.ref C)) (h3:yS K C m f) (h4:(m="__init__"->Mk K C f)) (h5:Fun K x qual st f fd) (h6:fL fn.ns fn.ps (dh st)) (h7:Binds K fd fn.ps []) (h8:CSs (dh st) fn.ns fn.body (dR st)) (h9:nV K qual fd fn):Fj K mg c m fn
structure AN (K:PP) (mg:aB->Option aC) (c m:aB) (fn:BT.Fn):Prop where
 ex:Fj K mg c m fn
structure Txt (P:Qg) (w:QA) (K:PP) (mg:aB->Option aC) (T:BT.FK->Option BT.Fn) (G:aB->Option BT.W):Prop where
 defs:∀ x fn,T (.f x)=aa fn->Def K mg x fn
 meths:∀ c m fn,T (.m c m)=aa fn->AN K mg c m fn
 lams:∀ L fn,T (.l L)=aa fn->False
 glob:∀ x z,G x=aa z->∃ u v,mg x=aa u/\RelV v u/\∀ m H,RW P w K m H v z
 blt:∀ x∈Lh,mg x=af
theorem wg (e:BT.runN T G k x ws h=aa r):∃ fn,T x=aa fn:=by
 cases k with
 | zero=>exact cW e
 | succ k =>
  rw[BT.runN] at e;cases q:T x with
  | none=>rw[q] at e;exact cW e| some fn=>exact ⟨fn,rfl⟩
theorem DY (F:Fun K x qual st f fd) (S:fL N ps (dh st)) (len:∀ vs H Q E,sp vs H Q E->vs.length=ps.length)
 (hbody:∀ (cdv:aC) (A:QO) (outer:List Env) (s:PX) (H:Hp) (vs:List V) (Q:VK) (E:XK),fd.code=cdv->fJ k (A.deeper (Vn qual (dh st) s.heap.objs.size f cdv))->Mod K mg base->sp vs H Q E →
  ∃ t,PSs (ug CX0 P w K mg base N qual (dh st) f cdv A outer s H E).nox (dR st) t/\t { nx:=λ_ H'=>Q .non H',rt:=Q } (L2.start N vs) H):iU P w K mg base CX0 (k+1) f fd ps sp:=by
 obtain ⟨oc,od,kV,doc,pm,an,cdv,ct,osl,rfl,lk,hcd⟩:=F.ex;refine ⟨len,λA outer s H args us vs Q E hr e0 hb r hs=>?_⟩;have F1:iU P w K mg base CX0 (k+1) f (Rj x qual (fK st) (dR st) (dh st) .none kV doc pm an cdv ct) ps sp:=JX lk hcd S len λA outer s H vs Q E hr hsp=>by obtain ⟨t,h,q⟩:=hbody cdv A outer s H vs Q E rfl hr e0.mod hsp;exact ⟨t,h.nox,q⟩
 exact F1.run A outer s H args us vs Q E hr e0 hb r hs
theorem Lv (X:Txt P w K mg T G)
 (ih:∀ (x:BT.FK) (fn:BT.Fn),T x=aa fn->∀ (f:P4) (fd:Ry) (nm qual:aB) (st:QN),Fun K nm qual st f fd->fL fn.ns fn.ps (dh st)->CSs (dh st) fn.ns fn.body (dR st)->nV K qual fd fn->iU P w K mg base CX0 (2*k) f fd fn.ps (spF P w K (BT.runN T G k x)))
 (il:∀ L,(∃ fn,T (.l L)=aa fn)->Af P w K mg base (2*k) L (BT.runN T G k (.l L)))
 (e1:Y.prog=P) (e2:Y.w=w) (e3:Y.K=K) (e4:Y.mg=mg) (e5:Y.base=base) (hsc:Y.env.scope=sc) (hN:Y.N=N) (nd:Y.N.Nodup) (ca:Y.calm=ah) (hr:fJ (2*k+1) Y.A) (own:PassesOwn (Qq Y.prog Y.w) Y.A Y.env Y.xe)
 (lx:(∀ x,Y.fn x=ah)->∀ x,N.contains (BT.jy x)=ah->LX Y x):Ok Y (BT.runN T G k) G sc N:=by
 subst e1 e2 e3 e4 e5;refine ⟨hsc,hN,nd,λ_=>ca,?_,own,X.glob,λg ws h r e=>?_,λc g ws h r e=>?_,λc ws h r e=>?_,X.blt,λL ws h r e=>⟨2*k,hr.mono (Sx _),il L (wg e)⟩,lx⟩
 ·have:=hr.un;lia
 ·obtain ⟨fn',hTg⟩:=wg e;obtain ⟨f',fd',st',a1,a2,a3,a4,a5,a6⟩:=(X.defs g fn' hTg).ex;exact ⟨f',fd',fn'.ps,2*k,a1,a2.kp,a4,hr.mono (Sx _),ih _ fn' hTg f' fd' g g st' a2 a3 a5 a6⟩
 ·obtain ⟨fn',hTg⟩:=wg e;obtain ⟨C,f',fd',x',q',st',b1,b2,b3,b4,a2,a3,a4,a5,a6⟩:=(X.meths c g fn' hTg).ex;exact ⟨C,f',fd',fn'.ps,2*k,b1,b3,a4,hr.mono (Sx _),ih _ fn' hTg f' fd' x' q' st' a2 a3 a5 a6⟩
 ·obtain ⟨fn',hTg⟩:=wg e;obtain ⟨C,f',fd',x',q',st',b1,b2,b3,b4,a2,a3,a4,a5,a6⟩:=(X.meths c _ fn' hTg).ex;exact ⟨C,f',fd',fn'.ps,2*k,b1,b2,b4 rfl,a4,hr,ih _ fn' hTg f' fd' x' q' st' a2 a3 a5 a6⟩
theorem DZ (X:Txt P w K mg T G) :
 ∀ (k:Nat),(∀ (x:BT.FK) (fn:BT.Fn),T x=aa fn->∀ (f:P4) (fd:Ry) (nm qual:aB) (st:QN),Fun K nm qual st f fd->fL fn.ns fn.ps (dh st)->CSs (dh st) fn.ns fn.body (dR st)->nV K qual fd fn->iU P w K mg base CX0 (2*k) f fd fn.ps (spF P w K (BT.runN T G k x))) ∧
  ∀ L,(∃ fn,T (.l L)=aa fn)->Af P w K mg base (2*k) L (BT.runN T G k (.l L)):=by
 intro k
 induction k with
 | zero =>
  refine ⟨λx fn hT f fd nm qual st h2 h3 h5 h6=>?_,λL hL=>?_⟩
  ·have no:∀ vs H Q E,¬ spF P w K (BT.runN T G 0 x) vs H Q E:=λvs H Q E h=>by obtain ⟨m,ws,h,z,h',_,_,e,_⟩:=h;exact cW e
   exact ⟨λvs H Q E h=>absurd h (no vs H Q E),λA outer s H args us vs Q E _ _ _ _ h=>absurd h (no vs H Q E)⟩
  ·intro A outer s H f us vs cvs m ws cs h z h' Q E hr e0 rv R rw nc la rc e zr;exact cW e
 | succ k ihk =>
  obtain ⟨ih,il⟩:=ihk;refine ⟨λx fn hT f fd nm qual st h2 h3 h5 h6=>?_,λL hL=>?_⟩
  ·show iU P w K mg base CX0 (2*k+1+1) f fd fn.ps (spF P w K (BT.runN T G (k+1) x));refine DY h2 h3 (λvs H Q E h=>?_) λcdv A outer s H vs Q E hcd hr hM h=>?_
   ·obtain ⟨m,ws,h,z,h',R,r,e,zr⟩:=h;rw[BT.runN,hT] at e;simp only at e;split at e;rename_i c;rw[r.length];exact c;exact cW e
   ·obtain ⟨m,ws,h,z,h',R,r,e,zr⟩:=h;rw[BT.runN,hT] at e;simp only at e;split at e
    ·have O:Ok (ug CX0 P w K mg base fn.ns qual (dh st) f cdv A outer s H E).nox (BT.runN T G k) G (dh st) fn.ns:=by refine Lv X ih il rfl rfl rfl rfl rfl rfl rfl h3.nd rfl hr VC λ_ y hy=>?_;obtain ⟨t1,t2,⟨c,Pt,t3,t4,t5,t6⟩,bm,ob,t7,t8,t9,t10,t11,t12⟩:=h6 y hy;exact ⟨t2,⟨c,Pt,t3,hcd.symm.trans t4,Vq hM.kin t5,t6⟩,by show qual++".<locals>."=_;rw[t1],bm,ob,Se hM.kin hM.glob t7,t8,hM.kin _ _ t9,t10,t11,t12⟩
     refine ⟨_,sSs O (λ_=>rfl) h5,?_⟩;cases gg:BT.evS (BT.runN T G k) G fn.body (BT.fc fn.ns.length ws) h with
     | none=>rw[gg] at e;exact cW e
     | some fl =>
      rw[gg] at e;refine ⟨m,_,h,fl,R,AM r,gg,?_⟩;cases fl with
      | rt y g =>
       intro v H' m' x' R' r';obtain ⟨m2,y1,y2,y3⟩:=pT e R x' R' r';exact zr v H' m2 y1 y2 y3
      | nx s' g =>
       intro σ' H' m' x' R' _;obtain ⟨m2,y1,y2,y3⟩:=pT (v:=.non) e R x' R' (.p .non);exact zr .non H' m2 y1 y2 y3
      | _=>exact cW e
    exact cW e
  ·obtain ⟨fn,hT⟩:=hL;exact (X.lams L fn hT).elim
theorem HE (X:Txt P w K mg T G) (k:Nat) (x:BT.FK) (fn:BT.Fn) (hT:T x=aa fn) (f:P4) (fd:Ry) (nm qual:aB) (st:QN) (h2:Fun K nm qual st f fd) (h3:fL fn.ns fn.ps (dh st)) (h5:CSs (dh st) fn.ns fn.body (dR st)) (h6:nV K qual fd fn) :
 iU P w K mg base CX0 (2*k) f fd fn.ps (spF P w K (BT.runN T G k x)):=(DZ X k).1 x fn hT f fd nm qual st h2 h3 h5 h6
end BS
end
section
namespace BT
open PySem
variable {asked:List Int}{gv j most:Nat}
noncomputable def fh:Fn:=⟨["part"],["part"], (.seq (.ife (.cmp .eq (.idx (.glo "INNER_COUNTS") (.idx (.var 0) (.cst (.int 0)))) (.cst (.int 0))) (.ret (.tup .nil)) .nil) (.ret (.slc (.var 0) (Z9 (.cst (.int 1))) .nil)))⟩
noncomputable def kX:Fn:=⟨[],[], (.ret (.tup (Z4 (.cst (.int 0)) (.bin .mul (.tup (Z9 (.cst (.int 0)))) (.bi .len ai (Z9 (.glo "LETTERS")))) (.bin .mul (.tup (Z9 (.cst (.int 0)))) (.glo "CELL_COUNT")) (.tup .nil) (.cst (.int 0)) (.tup .nil))))⟩
noncomputable def g9:Fn:=⟨["term"],["term","parts","waiting","part"], (.seq (.set 1 (.lst ah .nil)) (.seq (.set 2 (.lst ah (Z9 (.var 0)))) (.seq (.whl (.cmp .gt (.bi .len ai (Z9 (.var 2))) (.cst (.int 0))) (.seq (.set 3 (.me .pop (.var 2) .nil)) (.seq (.ex (.me .append (.var 1) (Z9 (.var 3)))) (.ex (.me .extend (.var 2) (Z9 (.call "inner_sums" (Z9 (.var 3))))))))) (.ret (.var 1)))))⟩
noncomputable def jX:Fn:=⟨["word","one","other"],["word","one","other"], (.seq (.ife (.cmp .eq (.var 0) (.cst (.str "less"))) (.ret (.ite (.cmp .lt (.var 1) (.var 2)) (.cst (.int 1)) (.cst (.int 0)))) .nil) (.seq (.ife (.cmp .eq (.var 0) (.cst (.str "add"))) (.ret (.bin .mod (.bin .add (.var 1) (.var 2)) (.glo "WORTH_COUNT"))) .nil) (.seq (.ife (.cmp .eq (.var 0) (.cst (.str "sub"))) (.ret (.bin .mod (.bin .sub (.var 1) (.var 2)) (.glo "WORTH_COUNT"))) .nil) (.ret (.bin .mod (.bin .mul (.var 1) (.var 2)) (.glo "WORTH_COUNT"))))))⟩
noncomputable def gT:Fn:=⟨["thing"],["thing"], (.ret (.cmp .mem (.var 0) (.glo "LETTERS")))⟩
noncomputable def ig:Fn:=⟨["state","thing"],["state","thing"], (.seq (.ife (.call "is_name" (Z9 (.var 1))) (.ret (.idx (.idx (.var 0) (.glo "NAMES")) (.me .tindex (.glo "LETTERS") (Z9 (.var 1))))) .nil) (.seq (.ex (.call "check_thing" (Z9 (.var 1)))) (.ret (.idx (.idx (.var 0) (.glo "CELLS")) (.var 1)))))⟩
noncomputable def eX:Fn:=⟨["part","worths","state"],["part","worths","state","word","last"], (.seq (.set 3 (.idx (.var 0) (.cst (.int 0)))) (.seq (.ife (.cmp .eq (.var 3) (.cst (.str "num"))) (.ret (.idx (.var 0) (.cst (.int 1)))) .nil) (.seq (.ife (.cmp .eq (.var 3) (.cst (.str "name"))) (.ret (.call "worth_in" (Z8 (.var 2) (.idx (.var 0) (.cst (.int 1)))))) .nil) (.seq (.set 4 (.me .pop (.var 1) .nil)) (.seq (.ife (.cmp .eq (.var 3) (.cst (.str "cell"))) (.ret (.idx (.idx (.var 2) (.glo "CELLS")) (.bin .mod (.var 4) (.glo "CELL_COUNT")))) .nil) (.ret (.call "of_two" (Z7 (.var 3) (.me .pop (.var 1) .nil) (.var 4)))))))))⟩
noncomputable def iw:Fn:=⟨["term","state"],["term","state","worths","part"], (.seq (.set 2 (.lst ah .nil)) (.seq (.for [(3,"part")] .rev (Z9 (.call "laid_out" (Z9 (.var 0)))) (.ex (.me .append (.var 2) (Z9 (.call "worth_of" (Z7 (.var 3) (.var 2) (.var 1))))))) (.ret (.idx (.var 2) (.cst (.int 0))))))⟩
noncomputable def i7:Fn:=⟨["term","state"],["term","state"], (.ret (.bin .mod (.call "reckoned" (Z8 (.var 0) (.var 1))) (.glo "CELL_COUNT")))⟩
noncomputable def gU:Fn:=⟨["program","state"],["program","state","word"], (.seq (.ife (.cmp .ge (.idx (.var 1) (.glo "ROW")) (.bi .len ai (Z9 (.var 0)))) (.ret (.cst (.bl ah))) .nil) (.seq (.set 2 (.idx (.idx (.var 0) (.idx (.var 1) (.glo "ROW"))) (.cst (.int 0)))) (.seq (.ife (.cmp .eq (.var 2) (.cst (.str "back"))) (.ret (.cmp .eq (.bi .len ai (Z9 (.idx (.var 1) (.glo "CALLS")))) (.cst (.int 0)))) .nil) (.seq (.ife (.cmp .eq (.var 2) (.cst (.str "call"))) (.ret (.cmp .ge (.bi .len ai (Z9 (.idx (.var 1) (.glo "CALLS")))) (.glo "MOST_CALLS"))) .nil) (.ret (.cmp .eq (.var 2) (.cst (.str "stop"))))))))⟩
noncomputable def fu:Fn:=⟨["row","state"],["row","state","word"], (.seq (.set 2 (.idx (.var 0) (.cst (.int 0)))) (.seq (.ife (.or (.cmp .eq (.var 2) (.cst (.str "jump"))) (.cmp .eq (.var 2) (.cst (.str "call")))) (.ret (.idx (.var 0) (.cst (.int 1)))) .nil) (.seq (.ife (.cmp .eq (.var 2) (.cst (.str "back"))) (.ret (.idx (.idx (.var 1) (.glo "CALLS")) (.neg (.cst (.int 1))))) .nil) (.seq (.ife (.and (.cmp .eq (.var 2) (.cst (.str "unless"))) (.cmp .eq (.call "reckoned" (Z8 (.idx (.var 0) (.cst (.int 1))) (.var 1))) (.cst (.int 0)))) (.ret (.idx (.var 0) (.cst (.int 2)))) .nil) (.ret (.bin .add (.idx (.var 1) (.glo "ROW")) (.cst (.int 1))))))))⟩
noncomputable def gc:Fn:=⟨["worths","number","worth"],["worths","number","worth"], (.ret (.bin .add (.bin .add (.slc (.var 0) .nil (Z9 (.var 1))) (.tup (Z9 (.var 2)))) (.slc (.var 0) (Z9 (.bin .add (.var 1) (.cst (.int 1)))) .nil)))⟩
noncomputable def gC:Fn:=⟨["state","name","worth"],["state","name","worth"], (.ret (.call "with_worth" (Z7 (.idx (.var 0) (.glo "NAMES")) (.me .tindex (.glo "LETTERS") (Z9 (.var 1))) (.var 2))))⟩
noncomputable def gW:Fn:=⟨["asked","number"],["asked","number"], (.ret (.ite (.cmp .lt (.var 1) (.bi .len ai (Z9 (.var 0)))) (.idx (.var 0) (.var 1)) (.cst (.int 0))))⟩
noncomputable def i8:Fn:=⟨["program","asked","state"],["program","asked","state","row","word","behind"], (.seq (.set 3 (.idx (.var 0) (.idx (.var 2) (.glo "ROW")))) (.seq (.set 4 (.idx (.var 3) (.cst (.int 0)))) (.seq (.set 5 (.bi .list ah (Z9 (.var 2)))) (.seq (.put 5 (.glo "ROW") (.call "place_behind" (Z8 (.var 3) (.var 2)))) (.seq (.ife (.cmp .eq (.var 4) (.cst (.str "set"))) (.put 5 (.glo "NAMES") (.call "with_name" (Z7 (.var 2) (.idx (.var 3) (.cst (.int 1))) (.call "reckoned" (Z8 (.idx (.var 3) (.cst (.int 2))) (.var 2)))))) (.ife (.cmp .eq (.var 4) (.cst (.str "put"))) (.put 5 (.glo "CELLS") (.call "with_worth" (Z7 (.idx (.var 2) (.glo "CELLS")) (.call "cell_by" (Z8 (.idx (.var 3) (.cst (.int 1))) (.var 2))) (.call "reckoned" (Z8 (.idx (.var 3) (.cst (.int 2))) (.var 2)))))) (.ife (.cmp .eq (.var 4) (.cst (.str "ask"))) (.seq (.put 5 (.glo "NAMES") (.call "with_name" (Z7 (.var 2) (.idx (.var 3) (.cst (.int 1))) (.call "brought" (Z8 (.var 1) (.idx (.var 2) (.glo "ASKED"))))))) (.put 5 (.glo "ASKED") (.bin .add (.idx (.var 2) (.glo "ASKED")) (.cst (.int 1))))) (.ife (.cmp .eq (.var 4) (.cst (.str "say"))) (.put 5 (.glo "SAID") (.bin .add (.idx (.var 2) (.glo "SAID")) (.tup (Z9 (.call "reckoned" (Z8 (.idx (.var 3) (.cst (.int 1))) (.var 2))))))) (.ife (.cmp .eq (.var 4) (.cst (.str "call"))) (.put 5 (.glo "CALLS") (.bin .add (.idx (.var 2) (.glo "CALLS")) (.tup (Z9 (.bin .add (.idx (.var 2) (.glo "ROW")) (.cst (.int 1))))))) (.ife (.cmp .eq (.var 4) (.cst (.str "back"))) (.put 5 (.glo "CALLS") (.slc (.idx (.var 2) (.glo "CALLS")) .nil (Z9 (.neg (.cst (.int 1)))))) .nil)))))) (.ret (.bi .tuple ai (Z9 (.var 5)))))))))⟩
noncomputable def iR:Fn:=⟨["program","asked","many"],["program","asked","many","told"], (.seq (.set 3 (.lst ah (Z9 (.call "begun" .nil)))) (.seq (.whl (.and (.cmp .le (.bi .len ai (Z9 (.var 3))) (.var 2)) (.not (.call "is_over" (Z8 (.var 0) (.idx (.var 3) (.neg (.cst (.int 1)))))))) (.ex (.me .append (.var 3) (Z9 (.call "stepped" (Z7 (.var 0) (.var 1) (.idx (.var 3) (.neg (.cst (.int 1)))))))))) (.ret (.var 3))))⟩
theorem wj:Qd s=Qd t↔s=t:=by
 constructor
 ·intro h;rw[Vu,Vu] at h;have h1:(s.toList.map Vc)=(t.toList.map Vc):=by have:=congrArg (λx:aB=>x.cps.toList) h;simpa using this
  have inj:∀ (a b:List Char),a.map Vc=b.map Vc->a=b:=by
   intro a
   induction a with
   | nil=>intro b h;cases b with
    | nil=>rfl| cons _ _=>simp at h
   | cons x xs ih=>intro b h;cases b with
    | nil=>simp at h
    | cons y ys =>
     simp only[Qa,SD] at h;have:x=y:=Char.toNat_inj.mp h.1;rw[this,ih ys h.2]
  have h2:=inj _ _ h1;exact String.toList_inj.mp h2
 intro h;rw[h]
@[simp] theorem MN (s t:String):(Qd s==Qd t)=(s==t):=by
 by_cases h:s=t
 subst h;simp
 ·have h1:¬ Qd s=Qd t:=λe=>h (wj.mp e);rw[beq_eq_false_iff_ne.mpr h1,beq_eq_false_iff_ne.mpr h]
@[simp] theorem Ol (s t:String):(Qd s=Qd t)=(s=t):=propext wj
@[simp] theorem PF (h:List α) (a:α) (r:List α):(h++a::r)[h.length]?=aa a:=by simp
@[simp] theorem Lx (h:List α) (a b:α) (r:List α):(h++a::b::r)[h.length+1]?=aa b:=by rw[QB (by lia)];simp
@[simp] theorem PJ (h:List α) (a x:α) (r:List α):(h++a::r).set h.length x=h++x::r:=by simp
@[simp] theorem PK (h:List α) (a b x:α) (r:List α):(h++a::b::r).set (h.length+1) x=h++a::x::r:=by rw[Vx _ _ (by lia)];simp
theorem cY (h:HH) (w:W):fin h w h=aa (w,h):=by simp[fin]
theorem kY (h g:HH) (d:D):fin h (.p d) (h++g)=aa (.p d,h):=by
 unfold fin;cases g with
 | _=>simp
@[simp] theorem Om (h:HH) (a:Cl) (r:HH):lat (h++a::r) h.length=m8 a:=by simp[lat]
@[simp] theorem PL (h:HH) (a b:Cl) (r:HH):lat (h++a::b::r) (h.length+1)=m8 b:=by unfold lat;rw[Lx];rfl
@[simp] theorem PM (h:HH) (a:Cl) (r:HH):oat (h++a::r) h.length=oO a:=by simp[oat]
@[simp] theorem PN (h:HH) (a b:Cl) (r:HH):oat (h++a::b::r) (h.length+1)=oO b:=by unfold oat;rw[Lx];rfl
theorem D0 (e:lat h n=aa ys) (c:Cl):lat (h.set n c) n=m8 c:=by
 unfold lat at e ⊢;cases g:h[n]? with
 | none=>rw[g] at e;exact gZ e| some q=>rw[List.getElem?_set_self',g];rfl
theorem Fk (h:HH) (xs:List D) (g:HH):fin h (.r h.length) (h++.l xs::g)=aa (.p (.lst xs),h):=by unfold fin;simp
theorem wk (h h':HH) (w:W) (e:h'.length=h.length):fin h w h'=aa (w,h'):=by simp[fin,e]
structure Prg (T:FK->Option Fn) (G:aB->Option W):Prop where
 inner_sums:T "inner_sums"=aa fh
 begun:T "begun"=aa kX
 laid_out:T "laid_out"=aa g9
 of_two:T "of_two"=aa jX
 worth_of:T "worth_of"=aa eX
 is_name:T "is_name"=aa gT
 worth_in:T "worth_in"=aa ig
 reckoned:T "reckoned"=aa iw
 cell_by:T "cell_by"=aa i7
 is_over:T "is_over"=aa gU
 place_behind:T "place_behind"=aa fu
 with_worth:T "with_worth"=aa gc
 with_name:T "with_name"=aa gC
 brought:T "brought"=aa gW
 stepped:T "stepped"=aa i8
 LETTERS:G "LETTERS"=aa (.p (.tup [.str "a",.str "b",.str "c",.str "d",.str "e",.str "f"]))
 CELL_COUNT:G "CELL_COUNT"=aa (.p (.int 4))
 WORTH_COUNT:G "WORTH_COUNT"=aa (.p (.int 10007))
 INNER:G "INNER_COUNTS"=aa (.k (.t [("num",.int 0),("name",.int 0),("cell",.int 1),("add",.int 2),("sub",.int 2),("mul",.int 2),("less",.int 2)]))
 ROW:G "ROW"=aa (.p (.int 0))
 NAMES:G "NAMES"=aa (.p (.int 1))
 CELLS:G "CELLS"=aa (.p (.int 2))
 CALLS:G "CALLS"=aa (.p (.int 3))
 ASKED:G "ASKED"=aa (.p (.int 4))
 SAID:G "SAID"=aa (.p (.int 5))
 MOST_CALLS:G "MOST_CALLS"=aa (.p (.int 6))
inductive Op where
 | add|sub|mul|less
noncomputable def Op.w:Op->String
 | .add=>"add" | .sub=>"sub" | .mul=>"mul" | .less=>"less"
inductive Nm where
 | a|b|c|d|e|f
noncomputable def Nm.w:Nm->String
 | .a=>"a" | .b=>"b" | .c=>"c" | .d=>"d" | .e=>"e" | .f=>"f"
noncomputable def Nm.ix:Nm->Nat
 | .a=>0 | .b=>1 | .c=>2 | .d=>3 | .e=>4 | .f=>5
theorem Nm.pU (x:Nm):x.ix < 6:=by cases x<;>decide
inductive Sm where
 | num (n:Int)
 | nam (i:Nm)
 | cell (s:Sm)
 | two (o:Op) (s t:Sm)
noncomputable def Sm.enc:Sm->D
 | .num n=>.tup [.str "num",.int n]| .nam i=>.tup [.str "name",.str i.w]| .cell s=>.tup [.str "cell",s.enc]| .two o s t=>.tup [.str o.w,s.enc,t.enc]
noncomputable def Sm.size:Sm->Nat
 | .num _=>1| .nam _=>1| .cell s=>s.size+1| .two _ s t=>s.size+t.size+1
noncomputable def Sm.lay:Sm->List Sm
 | .num n=>[.num n]| .nam i=>[.nam i]| .cell s=>.cell s::s.lay| .two o s t=>.two o s t::(t.lay++s.lay)
noncomputable def Sm.subs:Sm->List Sm
 | .num _=>[]| .nam _=>[]| .cell s=>[s]| .two _ s t=>[s,t]
def Wth (n:Int):Prop:=0<=n/\n<=10006
noncomputable def Sm.ok:Sm->Prop
 | .num n=>Wth n| .nam _=>True| .cell s=>s.ok| .two _ s t=>s.ok/\t.ok
theorem Sm.size_pos (s:Sm):1<=s.size:=by cases s<;>simp[Sm.size]
structure St where
 row:Nat
 names:List Int
 cells:List Int
 calls:List Nat
 asked:Nat
 said:List Int
noncomputable def cX (xs:List Int):List D:=xs.map D.int
noncomputable def c7 (xs:List Nat):List D:=xs.map λ(n:Nat)=>D.int (n:Int)
noncomputable def St.enc (s:St):D:=.tup [.int s.row,.tup (cX s.names),.tup (cX s.cells),.tup (c7 s.calls),.int s.asked,.tup (cX s.said)]
structure St.ok (s:St):Prop where
 nlen:s.names.length=6
 clen:s.cells.length=4
 nw:∀ x∈s.names,Wth x
 cw:∀ x∈s.cells,Wth x
noncomputable def two (o:Op) (x y:Int):Int:=match o with
 | .add=>(x+y) % 10007| .sub=>(x - y) % 10007| .mul=>(x*y) % 10007
 | .less=>if x < y then 1 else 0
noncomputable def Sm.val (st:St):Sm->Int
 | .num n=>n| .nam i=>st.names.getD i.ix 0| .cell s=>st.cells.getD (s.val st % 4).toNat 0| .two o s t=>BT.two o (s.val st) (t.val st)
theorem nW {xs:List Int} (h:∀ x∈xs,Wth x) (i:Nat):Wth (xs.getD i 0):=by
 rw[Q2];cases e:xs[i]? with
 | none=>exact ⟨by decide,by decide⟩| some x=>exact h x (P8 e)
theorem Ly (o:Op):Wth (BT.two o x y):=by cases o<;>simp only[BT.two,Wth];lia;lia;lia;split<;>decide
theorem Sm.nX {st:St} (ho:st.ok):∀ {s:Sm},s.ok->Wth (s.val st)
 | .num _,h=>h| .nam i,_=>nW ho.nw _| .cell _,_=>nW ho.cw _| .two _ _ _,_=>Ly _
section
theorem yd (P:Prg T G) (k:Nat) (s:Sm) (h:HH):runN T G (k+1) "inner_sums" [.p s.enc] h=aa (.p (.tup (s.subs.map Sm.enc)),h):=by
 rw[run_eq P.inner_sums rfl];cases s with
 | two o s t =>
  have g:=P.INNER;have q:fG (Qd o.w) [("num",.int 0),("name",.int 0),("cell",.int 1),("add",.int 2),("sub",.int 2),("mul",.int 2),("less",.int 2)]=aa (.int 2):=by cases o<;>simp[Op.w]
  generalize ([("num",.int 0),("name",.int 0),("cell",.int 1),("add",.int 2),("sub",.int 2),("mul",.int 2),("less",.int 2)]:List (aB×D))=I at *;simp[fh,g,q,Sm.enc,Sm.subs,cY]
 | _=>simp[fh,P.INNER,Sm.enc,Sm.subs,cY]
theorem uL (P:Prg T G) (k:Nat) (o:Op) (hx:Wth x) (h:HH) :
 runN T G (k+1) "of_two" [.p (.str o.w),.p (.int x),.p (.int y)] h=aa (.p (.int (two o x y)),h):=by
 rw[run_eq P.of_two rfl];have b:big x=ah:=by unfold big;exact decide_eq_true (by have h1:=hx.1;have h2:=hx.2;lia)
 cases o<;>simp[jX,P.WORTH_COUNT,cY,Op.w,two,b]
 by_cases c:x < y<;>simp[c,cY]
noncomputable def oW:List D:=[.str "a",.str "b",.str "c",.str "d",.str "e",.str "f"]
theorem D3 (x:Nm):fN .mem (.str x.w) (.tup oW)=aa ah:=by cases x<;>simp[oW,Nm.w]
theorem AO (x:Nm):meD .tindex (.tup oW) [.str x.w]=aa (.int (x.ix:Int)):=by rw[zf];cases x<;>simp[oW,Nm.w,Nm.ix,jv]
theorem sX {i:Nat} (h:i < xs.length):dN (.tup (cX xs)) (.int (i:Int))=aa (.int (xs.getD i 0)):=by show atP _ _=_;unfold atP place cX;rw[if_pos (Int.natCast_nonneg _),if_pos (by rw[Qt];lia)];show (xs.map D.int)[((i:Int)).toNat]?=_;rw[Sz,Qj,Q2,P0 h];rfl
theorem pV (st:St):dN st.enc (.int 1)=aa (.tup (cX st.names)):=rfl
theorem ye (st:St):dN st.enc (.int 2)=aa (.tup (cX st.cells)):=rfl
theorem jH (P:Prg T G) (k:Nat) (x:Nm) (h:HH):runN T G (k+1) "is_name" [.p (.str x.w)] h=aa (.p (.bl ah),h):=by rw[run_eq P.is_name rfl];have g:G "LETTERS"=aa (.p (.tup oW)):=P.LETTERS;have m:=D3 x;generalize oW=L at *;simp[-iX,gT,g,m,cY]
theorem qX (P:Prg T G) (k:Nat) (st:St) (ho:st.ok) (x:Nm) (h:HH):runN T G (k+2) "worth_in" [.p st.enc,.p (.str x.w)] h=aa (.p (.int (st.names.getD x.ix 0)),h):=by rw[run_eq P.worth_in rfl];have r:=jH P k x;have lx:=x.pU;have i1:=sX (xs:=st.names) (i:=x.ix) (by rw[ho.nlen];exact lx);have i2:=AO x;have i3:=pV st;have g:G "LETTERS"=aa (.p (.tup oW)):=P.LETTERS;generalize oW=L at *;generalize st.enc=se at *;generalize cX st.names=sn at *;simp[-gw,ig,r,P.NAMES,g,i1,i2,i3,cY]
theorem jI (P:Prg T G) (k:Nat) (st:St) (ho:st.ok) (n:Nat) (h:HH) :
 (∀ i,runN T G (k+3) "worth_of" [.p (Sm.num i).enc,.r n,.p st.enc] h=aa (.p (.int i),h)) ∧
 (∀ i,runN T G (k+3) "worth_of" [.p (Sm.nam i).enc,.r n,.p st.enc] h=aa (.p (.int (st.names.getD i.ix 0)),h)):=by
 refine ⟨λi=>?_,λi=>?_⟩<;>rw[run_eq P.worth_of rfl];simp[eX,Sm.enc,cY]
 ·have r:=qX P k st ho i;simp[eX,Sm.enc,cY,r]
theorem nY (P:Prg T G) (k:Nat) (st:St) (ho:st.ok) (n:Nat) (h:HH) (s:Sm) (ws:List D) (v:Int) (e:lat h n=aa (ws++[.int v])) (hv:0<=v) :
 runN T G (k+1) "worth_of" [.p (Sm.cell s).enc,.r n,.p st.enc] h=aa (.p (.int (st.cells.getD (v % 4).toNat 0)),h.set n (.l ws)):=by
 rw[run_eq P.worth_of rfl];have c:(((v % 4).toNat:Nat):Int)=v % 4:=by lia
 have i1:=sX (xs:=st.cells) (i:=(v % 4).toNat) (by rw[ho.clen];lia);rw[c] at i1;have i3:=ye st;generalize st.enc=se at *;generalize cX st.cells=sn at *;generalize st.cells.getD (v % 4).toNat 0=z at *;simp[eX,Sm.enc,P.CELLS,P.CELL_COUNT,e,i1,i3,wk]
theorem Op.other (o:Op):¬ o.w="num"/\¬ o.w="name"/\¬ o.w="cell":=by cases o<;>decide
theorem oX (P:Prg T G) (k:Nat) (st:St) (n:Nat) (h:HH) (o:Op) (s t:Sm) (ws:List D) (x y:Int) (hx:Wth x) (e:lat h n=aa (ws++[.int x,.int y])) :
 runN T G (k+2) "worth_of" [.p (Sm.two o s t).enc,.r n,.p st.enc] h=aa (.p (.int (two o x y)),h.set n (.l ws)):=by
 rw[run_eq P.worth_of rfl];have e3:lat (h.set n (.l (ws++[.int x]))) n=aa (ws++[.int x]):=D0 e _;have e1:(ws++[D.int x,D.int y]).getLast?=aa (.int y):=by simp
 have e2:(ws++[D.int x,D.int y]).dropLast=ws++[.int x]:=by simp
 have r:=λhh=>uL P k o (x:=x) (y:=y) hx hh;obtain ⟨n1,n2,n3⟩:=o.other;have en:(Sm.two o s t).enc=.tup [.str o.w,s.enc,t.enc]:=rfl;rw[en];generalize o.w=ow at *;generalize s.enc=se at *;generalize t.enc=te at *;simp[eX,e,e1,e2,e3,n1,n2,n3,r,wk,Vv]
noncomputable def loC:E:=.cmp .gt (.bi .len ai (Z9 (.var 2))) (.cst (.int 0))
noncomputable def loB:S:=.seq (.set 3 (.me .pop (.var 2) .nil)) (.seq (.ex (.me .append (.var 1) (Z9 (.var 3)))) (.ex (.me .extend (.var 2) (Z9 (.call "inner_sums" (Z9 (.var 3)))))))
noncomputable def sizes (l:List Sm):Nat:=(l.map Sm.size).sum
theorem uM (s:Sm) (l:List Sm):sizes (s.subs.reverse++l)+1=sizes (s::l):=by cases s<;>simp[sizes,Sm.subs,Sm.size]<;>lia
theorem AQ (s:Sm) (l:List Sm):(s::l).flatMap Sm.lay=s::(s.subs.reverse++l).flatMap Sm.lay:=by cases s<;>simp[Sm.lay,Sm.subs,List.flatMap_cons]
theorem D4 (s:Sm):s.subs.length<=2:=by cases s<;>simp[Sm.subs]
theorem pW (l:List Sm):l.length<=sizes l:=by
 induction l with
 | nil=>simp[sizes]
 | cons s l ih =>
  have h1:=s.size_pos;simp only[sizes,Qa,Ve,P9] at ih ⊢;lia
theorem D5 (P:Prg T G) (k:Nat) (h:HH) (t0:W):∀ (m:Nat) (stk:List Sm) (ps:List D) (x:Option W),sizes stk<=m->ps.length+sizes stk<=50000 →
 ∃ x',eg (ev (runN T G (k+1)) G loC) (evS (runN T G (k+1)) G loB) (m+1) [aa t0,aa (.r h.length),aa (.r (h.length+1)),x] (h++[.l ps,.l (stk.reverse.map Sm.enc)]) =
  aa (.nx [aa t0,aa (.r h.length),aa (.r (h.length+1)),x'] (h++[.l (ps++(stk.flatMap Sm.lay).map Sm.enc),.l []])):=by
 intro m
 induction m with
 | zero =>
  intro stk ps x hs _;have:stk=[]:=by have:=pW stk;exact UA (by lia)
  subst this;exact ⟨x,by simp[eg,loC,rd]⟩
 | succ m ih =>
  intro stk ps x hs hl;cases stk with
  | nil=>exact ⟨x,by simp[eg,loC,rd]⟩
  | cons s l =>
   have e:=uM s l;obtain ⟨x',q⟩:=ih (s.subs.reverse++l) (ps++[s.enc]) (aa (.p s.enc)) (by lia) (by simp only[Qk,SA];lia);refine ⟨x',?_⟩;have r:=yd P k s;have l1:l.length+s.subs.length<=100000:=by
    have h1:=D4 s;have h2:=pW l;have h3:sizes (s::l)=s.size+sizes l:=by simp[sizes]
    lia
   have c1:(0:Int) < (l.length:Int)+1:=by lia
   have l2:ps.length < 100000:=by lia
   have hc:ev (runN T G (k+1)) G loC [aa t0,aa (.r h.length),aa (.r (h.length+1)),x] (h++[.l ps,.l ((s::l).reverse.map Sm.enc)])=aa (.p (.bl ah),h++[.l ps,.l ((s::l).reverse.map Sm.enc)]):=by simp[loC,rd,c1]
   have hb:evS (runN T G (k+1)) G loB [aa t0,aa (.r h.length),aa (.r (h.length+1)),x] (h++[.l ps,.l ((s::l).reverse.map Sm.enc)]) =
    aa (.nx [aa t0,aa (.r h.length),aa (.r (h.length+1)),aa (.p s.enc)] (h++[.l (ps++[s.enc]),.l ((s.subs.reverse++l).reverse.map Sm.enc)])):=by
    simp[loB,r,l1,l2]
   rw[eg,hc,iJ,kj,hb,gk,q,AQ,Qa,QU,Rq]
theorem nZ:g9=⟨["term"],["term","parts","waiting","part"],.seq (.set 1 (.lst ah .nil))
 (.seq (.set 2 (.lst ah (.cons (.var 0) .nil))) (.seq (.whl loC loB) (.ret (.var 1))))⟩:=rfl
theorem qY (P:Prg T G) (k:Nat) (s:Sm) (hs:s.size<=40000) (h:HH):runN T G (k+2) "laid_out" [.p s.enc] h=aa (.p (.lst (s.lay.map Sm.enc)),h):=by rw[run_eq P.laid_out rfl];obtain ⟨x',q⟩:=D5 P k h (.p s.enc) 99999 [s] [] af (by simp only[sizes,Qa,QL,Ve,List.sum_nil];lia) (by simp only[sizes,Qa,QL,Ve,List.sum_nil,QJ];lia);simp only[List.flatMap_cons,List.flatMap_nil,Rf,RO,Tt,Qa,QL] at q;rw[nZ];simp[turns,q,Fk]
noncomputable def rkB:S:=.ex (.me .append (.var 2) (Z9 (.call "worth_of" (Z7 (.var 3) (.var 2) (.var 1)))))
theorem D6 (P:Prg T G) (k:Nat) (h:HH) (t0:W) (st:St) (ho:st.ok):∀ (s:Sm),s.ok->∀ (ws:List D) (rest:List D) (x:Option W),ws.length+s.size<=50000 →
 ∃ x',gB (evS (runN T G (k+3)) G rkB) [(3,"part")] ((s.lay.map Sm.enc).reverse++rest) [aa t0,aa (.p st.enc),aa (.r h.length),x] (h++[.l ws]) =
  gB (evS (runN T G (k+3)) G rkB) [(3,"part")] rest [aa t0,aa (.p st.enc),aa (.r h.length),x'] (h++[.l (ws++[.int (s.val st)])]):=by
 intro s
 induction s with
 | num n =>
  intro _ ws rest x hl;refine ⟨aa (.p (Sm.num n).enc),?_⟩;have r:=(jI P k st ho h.length (h++[.l ws])).1 n;have l:ws.length < 100000:=by simp only[Sm.size] at hl;lia
  have hb:evS (runN T G (k+3)) G rkB [aa t0,aa (.p st.enc),aa (.r h.length),aa (.p (Sm.num n).enc)] (h++[.l ws]) =
   aa (.nx [aa t0,aa (.p st.enc),aa (.r h.length),aa (.p (Sm.num n).enc)] (h++[.l (ws++[.int n])])):=by
   simp[rkB,r,l]
  simp only[Sm.lay,Qa,QL,Tt,Rq,Sm.val];simp[hb]
 | nam i =>
  intro _ ws rest x hl;refine ⟨aa (.p (Sm.nam i).enc),?_⟩;have r:=(jI P k st ho h.length (h++[.l ws])).2 i;have l:ws.length < 100000:=by simp only[Sm.size] at hl;lia
  have hb:evS (runN T G (k+3)) G rkB [aa t0,aa (.p st.enc),aa (.r h.length),aa (.p (Sm.nam i).enc)] (h++[.l ws]) =
   aa (.nx [aa t0,aa (.p st.enc),aa (.r h.length),aa (.p (Sm.nam i).enc)] (h++[.l (ws++[.int (st.names.getD i.ix 0)])])):=by
   simp[rkB,r,l]
  simp only[Sm.lay,Qa,QL,Tt,Rq,Sm.val];simp[hb]
 | cell s ih =>
  intro hok ws rest x hl;obtain ⟨x1,e1⟩:=ih hok ws ((Sm.cell s).enc::rest) x (by simp only[Sm.size] at hl;lia);refine ⟨aa (.p (Sm.cell s).enc),?_⟩;have r:=nY P (k+2) st ho h.length (h++[.l (ws++[.int (s.val st)])]) s ws (s.val st) (by simp) (Sm.nX (s:=s) ho hok).1;have l:ws.length < 100000:=by simp only[Sm.size] at hl;lia
  have hb:evS (runN T G (k+3)) G rkB [aa t0,aa (.p st.enc),aa (.r h.length),aa (.p (Sm.cell s).enc)] (h++[.l (ws++[.int (s.val st)])]) =
   aa (.nx [aa t0,aa (.p st.enc),aa (.r h.length),aa (.p (Sm.cell s).enc)] (h++[.l (ws++[.int ((Sm.cell s).val st)])])):=by
   simp[rkB,r,l,Sm.val]
  simp only[Sm.lay,Qa,List.reverse_cons,QU,Rq];rw[e1];simp[hb]
 | two o s t ihs iht =>
  intro hok ws rest x hl;have hl':=hl;simp only[Sm.size] at hl';obtain ⟨x1,e1⟩:=ihs hok.1 ws ((t.lay.map Sm.enc).reverse++((Sm.two o s t).enc::rest)) x (by lia);obtain ⟨x2,e2⟩:=iht hok.2 (ws++[.int (s.val st)]) ((Sm.two o s t).enc::rest) x1 (by simp only[Qk,SA];have:=s.size_pos;lia);refine ⟨aa (.p (Sm.two o s t).enc),?_⟩;have r:=oX P (k+1) st h.length (h++[.l (ws++[.int (s.val st),.int (t.val st)])]) o s t ws (s.val st) (t.val st) (Sm.nX ho hok.1) (by simp);have l:ws.length < 100000:=by lia
  have hb:evS (runN T G (k+3)) G rkB [aa t0,aa (.p st.enc),aa (.r h.length),aa (.p (Sm.two o s t).enc)] (h++[.l (ws++[.int (s.val st),.int (t.val st)])]) =
   aa (.nx [aa t0,aa (.p st.enc),aa (.r h.length),aa (.p (Sm.two o s t).enc)] (h++[.l (ws++[.int ((Sm.two o s t).val st)])])):=by
   simp[rkB,r,l,Sm.val]
  simp only[Sm.lay,Qa,RP,List.reverse_cons,List.reverse_append,QU,Rq];rw[e1,e2];simp only[QU,Rq];simp[hb]
theorem n8:iw=⟨["term","state"],["term","state","worths","part"],.seq (.set 2 (.lst ah .nil))
 (.seq (.for [(3,"part")] .rev (.cons (.call "laid_out" (.cons (.var 0) .nil)) .nil) rkB) (.ret (.idx (.var 2) (.cst (.int 0)))))⟩:=rfl
theorem fQ (P:Prg T G) (k:Nat) (s:Sm) (hs:s.size<=40000) (hok:s.ok) (st:St) (ho:st.ok) (h:HH) :
 runN T G (k+4) "reckoned" [.p s.enc,.p st.enc] h=aa (.p (.int (s.val st)),h):=by
 rw[run_eq P.reckoned rfl];obtain ⟨x',q⟩:=D6 P k h (.p s.enc) st ho s hok [] [] af (by simp only[QJ];lia);rw[n8];simp only[Rf,RO] at q;have r:=qY P (k+1) s hs;simp[r,jx,q,kY,rd]
end
section
variable {T:FK->Option Fn}{F:FK->List W->HH->Option (W×HH)}{G:aB->Option W}{i:Nat}{e e' c:E}{a b:S}{s s':Sl}{h g:HH}{w:W}{d d' z:D}
theorem jJ (h1:evS F G a s h=aa (.nx s' g)):evS F G (.seq a b) s h=evS F G b s' g:=by simp[h1]
theorem fC (h1:BT.ev F G e s h=aa (w,g)):evS F G (.seq (.set i e) b) s h=evS F G b (s.set i (aa w)) g:=by simp[h1]
theorem Lz (h1:BT.ev F G c s h=aa (.p (.bl ai),h)):evS F G (.seq (.ife c a .nil) b) s h=evS F G b s h:=by simp[h1]
theorem HF (h1:BT.ev F G c s h=aa (.p (.bl ah),h)) (h2:BT.ev F G e s h=aa (w,g)):evS F G (.seq (.ife c (.ret e) .nil) b) s h=aa (.rt w g):=by simp[h1,h2]
theorem lP (h2:BT.ev F G e s h=aa (w,g)):evS F G (.ret e) s h=aa (.rt w g):=by simp[h2]
theorem uN (hT:T f=aa fn) (hl:ws.length=fn.ps.length) (h1:evS (runN T G k) G fn.body (fc fn.ns.length ws) h=aa (.rt (.p d) h)):runN T G (k+1) f ws h=aa (.p d,h):=by rw[run_eq hT hl,h1];exact cY h (.p d)
theorem LC (h1:BT.ev F G e s h=aa (.p d,g)) (h2:BT.ev F G e' s g=aa (.p d',g)) (h3:dN d d'=aa z):BT.ev F G (.idx e e') s h=aa (.p z,g):=by simp[h1,h2,h3]
theorem HG (h1:BT.ev F G e s h=aa (.p d,h)) (h2:BT.ev F G e' s h=aa (.p d',g)) (h3:fN o d d'=aa t):BT.ev F G (.cmp o e e') s h=aa (.p (.bl t),g):=by simp[h1,h2,h3]
end
section
theorem iy (xs:List α) (i:Nat):atP xs (i:Int)=xs[i]?:=by
 unfold atP place
 by_cases h:i < xs.length
 ·have h1:((i:Int) < (xs.length:Int)):=by lia
  simp[h1,h]
 ·have h1:¬ ((i:Int) < (xs.length:Int)):=by lia
  simp[h1];lia
theorem gX (P:Prg T G) (k:Nat) (xs:List D) (i:Nat) (hi:i < xs.length) (hl:xs.length<=1000) (d:D) (h:HH) :
 runN T G (k+1) "with_worth" [.p (.tup xs),.p (.int i),.p d] h=aa (.p (.tup (xs.set i d)),h):=by
 rw[run_eq P.with_worth rfl];have a1:¬ ((i:Int) < 0):=by lia
 have a2:(i:Int)<=(xs.length:Int):=by lia
 have a3:¬ ((i:Int)+1 < 0):=by lia
 have a4:(i:Int)+1<=(xs.length:Int):=by lia
 have a5:((i:Int)+1).toNat=i+1:=by lia
 have a6:xs.length - (i+1)+(i+1)<=100000:=by lia
 have a7:i+1+(xs.length - (i+1))<=100000:=by lia
 have a8:min i xs.length=i:=by lia
 have a9:i+1<=100000:=by lia
 have e:xs.take i++d::xs.drop (i+1)=xs.set i d:=by rw[List.set_eq_take_append_cons_drop,if_pos hi]
 have b1:(xs.take i).length=i:=by simp;lia
 have b2:(xs.drop (i+1)).length=xs.length - (i+1):=by simp
 have b3:((xs.drop (i+1)).take (xs.length - (i+1)))=xs.drop (i+1):=by apply List.take_of_length_le;simp
 simp[gc,a1,a2,a3,a4,a5,a7,a8,a9,b3,e,cY]
@[simp] theorem Pu (st:St):dN st.enc (.int 0)=aa (.int st.row):=rfl
@[simp] theorem Pv (st:St):dN st.enc (.int 1)=aa (.tup (cX st.names)):=rfl
@[simp] theorem Pw (st:St):dN st.enc (.int 2)=aa (.tup (cX st.cells)):=rfl
@[simp] theorem Px (st:St):dN st.enc (.int 3)=aa (.tup (c7 st.calls)):=rfl
@[simp] theorem Py (st:St):dN st.enc (.int 4)=aa (.int st.asked):=rfl
@[simp] theorem Pz (st:St):dN st.enc (.int 5)=aa (.tup (cX st.said)):=rfl
inductive Rw where
 | set (x:Nm) (s:Sm)|put (s t:Sm)|ask (x:Nm)|say (s:Sm)|jump (p:Nat)|unless (s:Sm) (p:Nat)|call (p:Nat)|back|stop
noncomputable def Rw.enc:Rw->D
 | .set x s=>.tup [.str "set",.str x.w,s.enc]| .put s t=>.tup [.str "put",s.enc,t.enc]| .ask x=>.tup [.str "ask",.str x.w]| .say s=>.tup [.str "say",s.enc]| .jump p=>.tup [.str "jump",.int p]| .unless s p=>.tup [.str "unless",s.enc,.int p]| .call p=>.tup [.str "call",.int p]| .back=>.tup [.str "back"]| .stop=>.tup [.str "stop"]
def qZ (s:Sm):Prop:=s.ok/\s.size<=15
noncomputable def Rw.ok (n:Nat):Rw->Prop
 | .set _ s=>qZ s| .put s t=>qZ s/\qZ t| .ask _=>True| .say s=>qZ s| .jump p=>p<=n| .unless s p=>qZ s/\p<=n| .call p=>p<=n| .back=>True| .stop=>True
noncomputable abbrev Pg:=List Rw
noncomputable def dB (p:Pg):D:=.tup (p.map Rw.enc)
def Pg.ok (p:Pg):Prop:=∀ r∈p,r.ok p.length
noncomputable def Rw.next (asked:List Int) (st:St):Rw->St
 | .set x s=>{ st with row:=st.row+1,names:=st.names.set x.ix (s.val st) }| .put s t=>{ st with row:=st.row+1,cells:=st.cells.set (s.val st % 4).toNat (t.val st) }| .ask x=>{ st with row:=st.row+1,names:=st.names.set x.ix (asked.getD st.asked 0),asked:=st.asked+1 }| .say s=>{ st with row:=st.row+1,said:=st.said++[s.val st] }| .jump p=>{ st with row:=p }| .unless s p=>{ st with row:=if s.val st=0 then p else st.row+1 }| .call p=>{ st with row:=p,calls:=st.calls++[st.row+1] }| .back=>{ st with row:=st.calls.getLast?.getD 0,calls:=st.calls.dropLast }| .stop=>st
noncomputable def Rw.over (st:St):Rw->Bool
 | .back=>st.calls.length==0| .call _=>decide (6<=st.calls.length)| .stop=>ah| _=>ai
noncomputable def over (p:Pg) (st:St):Bool:=match p[st.row]? with
 | some r=>r.over st| none=>ah
noncomputable def step (p:Pg) (asked:List Int) (st:St):St:=match p[st.row]? with
 | some r=>r.next asked st
 | none=>st
noncomputable def St.zero:St:=⟨0,[0,0,0,0,0,0],[0,0,0,0],[],0,[]⟩
theorem D7:St.zero.ok:=⟨rfl,rfl,by simp[St.zero,Wth],by simp[St.zero,Wth]⟩
noncomputable def sts (p:Pg) (asked:List Int):Nat->St->List St
 | 0,st=>[st]
 | n+1,st=>if over p st then [st] else st::sts p asked n (step p asked st)
theorem lQ (P:Prg T G) (k:Nat) (h:HH):runN T G (k+1) "begun" [] h=aa (.p St.zero.enc,h):=by rw[run_eq P.begun rfl];simp[kX,P.LETTERS,P.CELL_COUNT,cY,St.zero,St.enc,cX,c7,rep,Qi,List.flatten]
theorem sY (P:Prg T G) (k:Nat) (asked:List Int) (n:Nat) (h:HH):runN T G (k+1) "brought" [.p (.lst (cX asked)),.p (.int n)] h=aa (.p (.int (asked.getD n 0)),h):=by
 rw[run_eq P.brought rfl]
 by_cases c:n < asked.length
 ·have c1:(n:Int) < (asked.length:Int):=by lia
  simp[gW,cX,c,c1,cY]
 ·have c1:¬ (n:Int) < (asked.length:Int):=by lia
  have e:asked[n]?=af:=Qc (by lia);simp[gW,cX,c1,cY,e]
theorem iK (P:Prg T G) (k:Nat) (st:St) (ho:st.ok) (x:Nm) (d:Int) (h:HH) :
 runN T G (k+2) "with_name" [.p st.enc,.p (.str x.w),.p (.int d)] h=aa (.p (.tup (cX (st.names.set x.ix d))),h):=by
 rw[run_eq P.with_name rfl];have r:=λi=>gX P k (cX st.names) i;have l:(cX st.names).length=6:=by simp[cX,ho.nlen]
 have e:(cX st.names).set x.ix (.int d)=cX (st.names.set x.ix d):=by simp[cX,TL]
 have q:=r x.ix (by rw[l];exact x.pU) (by lia) (.int d);rw[e] at q;have g:G "LETTERS"=aa (.p (.tup oW)):=P.LETTERS;have i2:=AO x;have i3:=pV st;generalize oW=L at *;generalize st.enc=se at *;generalize hz:(x.ix:Int)=z at *;simp[gC,P.NAMES,g,i2,i3,cY,q]
theorem sZ (P:Prg T G) (k:Nat) (s:Sm) (hs:qZ s) (st:St) (ho:st.ok) (h:HH):runN T G (k+5) "cell_by" [.p s.enc,.p st.enc] h=aa (.p (.int (s.val st % 4)),h):=by rw[run_eq P.cell_by rfl];have q:=fQ P k s (by have:=hs.2;lia) hs.1 st ho;simp[i7,q,P.CELL_COUNT,cY]
noncomputable def Rw.word:Rw->String
 | .set _ _=>"set" | .put _ _=>"put" | .ask _=>"ask" | .say _=>"say" | .jump _=>"jump" | .unless _ _=>"unless" | .call _=>"call" | .back=>"back" | .stop=>"stop"
theorem Rw.q8 (r:Rw):dN r.enc (.int 0)=aa (.str r.word):=by cases r<;>rfl
noncomputable def plT:S:=(.seq (.ife (.or (.cmp .eq (.var 2) (.cst (.str "jump"))) (.cmp .eq (.var 2) (.cst (.str "call")))) (.ret (.idx (.var 0) (.cst (.int 1)))) .nil) (.seq (.ife (.cmp .eq (.var 2) (.cst (.str "back"))) (.ret (.idx (.idx (.var 1) (.glo "CALLS")) (.neg (.cst (.int 1))))) .nil) (.seq (.ife (.and (.cmp .eq (.var 2) (.cst (.str "unless"))) (.cmp .eq (.call "reckoned" (Z8 (.idx (.var 0) (.cst (.int 1))) (.var 1))) (.cst (.int 0)))) (.ret (.idx (.var 0) (.cst (.int 2)))) .nil) (.ret (.bin .add (.idx (.var 1) (.glo "ROW")) (.cst (.int 1)))))))
theorem tw:fu=⟨["row","state"],["row","state","word"],
 (.seq (.set 2 (.idx (.var 0) (.cst (.int 0)))) plT)⟩:=rfl
theorem D8 (P:Prg T G) (F:FK->List W->HH->Option (W×HH)) (w0:W) (st:St) (h:HH) (v:String) (n1:¬ v="jump") (n2:¬ v="call") (n3:¬ v="back") (n4:¬ v="unless"):evS F G plT [aa w0,aa (.p st.enc),aa (.p (.str v))] h=aa (.rt (.p (.int ((st.row:Int)+1))) h):=by have i0:dN st.enc (.int 0)=aa (.int (st.row:Int)):=rfl;generalize st.enc=se at *;simp[plT,n1,n2,n3,n4,P.ROW,i0]
theorem Fo (F:FK->List W->HH->Option (W×HH)) (d:D) (w1:W) (h:HH) (v:String) (q:Int) (hv:v="jump"\/v="call") (i1:dN d (.int 1)=aa (.int q)):evS F G plT [aa (.p d),aa w1,aa (.p (.str v))] h=aa (.rt (.p (.int q)) h):=by rcases hv with rfl|rfl<;>simp[plT,i1]
theorem yf (P:Prg T G) (k:Nat) (n:Nat) (r:Rw) (hr:r.ok n) (st:St) (ho:st.ok) (asked:List Int) (hb:r.over st=ai) (h:HH) :
 runN T G (k+5) "place_behind" [.p r.enc,.p st.enc] h=aa (.p (.int (r.next asked st).row),h):=by
 have wa:=r.q8;have pre:runN T G (k+5) "place_behind" [.p r.enc,.p st.enc] h=kM (evS (runN T G (k+4)) G plT [aa (.p r.enc),aa (.p st.enc),aa (.p (.str r.word))] h) (fin h):=by rw[run_eq P.place_behind rfl,tw];generalize r.enc=re at *;simp[wa]
 have ot:∀ q:Int,kM (aa (.rt (.p (.int q)) h)) (fin h)=aa (.p (.int q),h):=λq=>by simp[cY]
 rw[pre];cases r with
 | «unless» s p =>
  have q:=fQ P k s (by have:=hr.1.2;lia) hr.1.1 st ho;have i1:dN (Rw.unless s p).enc (.int 1)=aa s.enc:=rfl;have i2:dN (Rw.unless s p).enc (.int 2)=aa (.int (p:Int)):=rfl;have i0:dN st.enc (.int 0)=aa (.int (st.row:Int)):=rfl;generalize (Rw.unless s p).enc=re at *;generalize st.enc=se at *;generalize s.enc=sn at *
  by_cases c:s.val st=0<;>simp[plT,Rw.word,Rw.next,q,c,i0,i1,i2,cY,P.ROW]
 | back =>
  have c:st.calls≠[]:=by intro e;simp[Rw.over,e] at hb
  have:∃ l x,st.calls=l++[x]:=⟨st.calls.dropLast,st.calls.getLast c,(List.dropLast_concat_getLast c).symm⟩;obtain ⟨l,x,e⟩:=this;have i3:dN st.enc (.int 3)=aa (.tup (c7 st.calls)):=rfl;have ix:dN (.tup (c7 st.calls)) (.int (-1))=aa (.int (x:Int)):=by
   have e2:-((l.length:Int)+1)<=-1:=by lia
   have e3:(-1+((l.length:Int)+1)).toNat=l.length:=by lia
   simp[c7,e,e2,e3]
  have nx:((Rw.back).next asked st).row=x:=by simp[Rw.next,e]
  rw[nx];generalize st.enc=se at *;generalize c7 st.calls=nl at *;simp[-gw,plT,Rw.word,P.CALLS,i3,ix,cY]
 | stop=>simp[Rw.over] at hb| jump p=>rw[Rw.word,Fo _ _ _ _ _ (p:Int) (.inl rfl) rfl,ot];rfl| call p=>rw[Rw.word,Fo _ _ _ _ _ (p:Int) (.inr rfl) rfl,ot];rfl| _=>rw[Rw.word,D8 P _ _ _ _ _ (by decide) (by decide) (by decide) (by decide),ot];rfl
noncomputable def ovT:S:=(.seq (.ife (.cmp .eq (.var 2) (.cst (.str "back"))) (.ret (.cmp .eq (.bi .len ai (Z9 (.idx (.var 1) (.glo "CALLS")))) (.cst (.int 0)))) .nil) (.seq (.ife (.cmp .eq (.var 2) (.cst (.str "call"))) (.ret (.cmp .ge (.bi .len ai (Z9 (.idx (.var 1) (.glo "CALLS")))) (.glo "MOST_CALLS"))) .nil) (.ret (.cmp .eq (.var 2) (.cst (.str "stop"))))))
theorem oY:gU=⟨["program","state"],["program","state","word"],
 (.seq (.ife (.cmp .ge (.idx (.var 1) (.glo "ROW")) (.bi .len ai (.cons (.var 0) .nil))) (.ret (.cst (.bl ah))) .nil)
 (.seq (.set 2 (.idx (.idx (.var 0) (.idx (.var 1) (.glo "ROW"))) (.cst (.int 0))))
 ovT))⟩:=rfl
theorem D9 (F:FK->List W->HH->Option (W×HH)) (w0 w1:W) (h:HH) (v:String) (n1:¬ v="back") (n2:¬ v="call"):evS F G ovT [aa w0,aa w1,aa (.p (.str v))] h=aa (.rt (.p (.bl (decide (v="stop")))) h):=by
 by_cases c:v="stop"
 ·subst c;simp[ovT]
 ·skip
  simp[ovT,n1,n2,c]
theorem iz (P:Prg T G) (k:Nat) (p:Pg) (st:St) (h:HH):runN T G (k+1) "is_over" [.p (dB p),.p st.enc] h=aa (.p (.bl (over p st)),h):=by
 have lp:biD .len [dB p]=aa (.int p.length):=by simp[dB]
 by_cases c:st.row < p.length
 ·have c1:¬ (p.length:Int)<=(st.row:Int):=by lia
  have c2:(st.row:Int) < (p.length:Int):=by lia
  have e:p[st.row]?=aa p[st.row]:=P0 c;have row:dN (dB p) (.int st.row)=aa (p[st.row]).enc:=by simp[dB,c2,e]
  have ov:over p st=(p[st.row]).over st:=by rw[over,e]
  rw[ov];generalize p[st.row]=r at row ⊢;have wa:=r.q8;have pre:runN T G (k+1) "is_over" [.p (dB p),.p st.enc] h=kM (evS (runN T G k) G ovT [aa (.p (dB p)),aa (.p st.enc),aa (.p (.str r.word))] h) (fin h):=by rw[run_eq P.is_over rfl,oY];generalize r.enc=re at row wa;simp[lp,row,wa,P.ROW,c1]
  rw[pre];have ln:biD .len [.tup (c7 st.calls)]=aa (.int (st.calls.length:Int)):=by simp[c7]
  have i3:dN st.enc (.int 3)=aa (.tup (c7 st.calls)):=rfl;cases r with
  | back =>
   have ee:(((st.calls.length:Nat):Int)==0)=(st.calls.length==0):=by
    cases st.calls with
    | nil=>rfl| cons a l=>rw[beq_eq_false_iff_ne.mpr (by simp only[P9];lia)];rfl
   simp[-pL,ovT,Rw.word,P.CALLS,i3,ln,ee,cY,Rw.over]
  | call q =>
   have ee:decide ((6:Int)<=(st.calls.length:Int))=decide (6<=st.calls.length):=decide_eq_decide.mpr (by lia);simp[-pL,ovT,Rw.word,P.CALLS,P.MOST_CALLS,i3,ln,ee,cY,Rw.over]
  | _ =>
   rw[Rw.word,D9 _ _ _ _ _ (by decide) (by decide)];simp[cY,Rw.over]
 ·have c1:(p.length:Int)<=(st.row:Int):=by lia
  have e:p[st.row]?=af:=Qc (by lia);rw[run_eq P.is_over rfl];simp[gU,lp,P.ROW,c1,cY,over,e]
theorem ints_set (xs:List Int) (i:Nat) (v:Int):(cX xs).set i (.int v)=cX (xs.set i v):=by simp[cX,TL]
theorem gY (xs:List Int):(cX xs).length=xs.length:=by simp[cX]
theorem ints_snoc (xs:List Int) (v:Int):cX xs++[.int v]=cX (xs++[v]):=by simp[cX]
theorem yg (xs:List Nat) (v:Nat):c7 xs++[.int (v:Int)]=c7 (xs++[v]):=by simp[c7]
theorem AR (xs:List Nat):cut (c7 xs) af (aa (-1))=c7 xs.dropLast:=by
 have e:(-1+(xs.length:Int)).toNat=xs.length - 1:=by lia
 simp[cut,clip,c7,e,List.dropLast_eq_take]
structure St.small (st:St):Prop where
 sl:st.said.length<=5000
 cl:st.calls.length<=5000
noncomputable def encL (st:St):List D:=[.int st.row,.tup (cX st.names),.tup (cX st.cells),.tup (c7 st.calls),.int st.asked,.tup (cX st.said)]
theorem AS (st:St):biD .list [st.enc]=aa (.lst (encL st)):=rfl
noncomputable def HJ:S:=(.put 5 (.glo "CALLS") (.slc (.idx (.var 2) (.glo "CALLS")) .nil (Z9 (.neg (.cst (.int 1))))))
noncomputable def HK:S:=(.ife (.cmp .eq (.var 4) (.cst (.str "back"))) HJ .nil)
noncomputable def HL:S:=(.put 5 (.glo "CALLS") (.bin .add (.idx (.var 2) (.glo "CALLS")) (.tup (Z9 (.bin .add (.idx (.var 2) (.glo "ROW")) (.cst (.int 1)))))))
noncomputable def Ea:S:=(.ife (.cmp .eq (.var 4) (.cst (.str "call"))) HL HK)
noncomputable def HM:S:=(.put 5 (.glo "SAID") (.bin .add (.idx (.var 2) (.glo "SAID")) (.tup (Z9 (.call "reckoned" (Z8 (.idx (.var 3) (.cst (.int 1))) (.var 2)))))))
noncomputable def AU:S:=(.ife (.cmp .eq (.var 4) (.cst (.str "say"))) HM Ea)
noncomputable def HN:S:=(.seq (.put 5 (.glo "NAMES") (.call "with_name" (Z7 (.var 2) (.idx (.var 3) (.cst (.int 1))) (.call "brought" (Z8 (.var 1) (.idx (.var 2) (.glo "ASKED"))))))) (.put 5 (.glo "ASKED") (.bin .add (.idx (.var 2) (.glo "ASKED")) (.cst (.int 1)))))
noncomputable def yh:S:=(.ife (.cmp .eq (.var 4) (.cst (.str "ask"))) HN AU)
noncomputable def HP:S:=(.put 5 (.glo "CELLS") (.call "with_worth" (Z7 (.idx (.var 2) (.glo "CELLS")) (.call "cell_by" (Z8 (.idx (.var 3) (.cst (.int 1))) (.var 2))) (.call "reckoned" (Z8 (.idx (.var 3) (.cst (.int 2))) (.var 2))))))
noncomputable def uO:S:=(.ife (.cmp .eq (.var 4) (.cst (.str "put"))) HP yh)
noncomputable def HQ:S:=(.put 5 (.glo "NAMES") (.call "with_name" (Z7 (.var 2) (.idx (.var 3) (.cst (.int 1))) (.call "reckoned" (Z8 (.idx (.var 3) (.cst (.int 2))) (.var 2))))))
noncomputable def kB:S:=(.ife (.cmp .eq (.var 4) (.cst (.str "set"))) HQ uO)
noncomputable def HR:S:=(.seq kB (.ret (.bi .tuple ai (Z9 (.var 5)))))
theorem oZ:i8=⟨["program","asked","state"],["program","asked","state","row","word","behind"],
 (.seq (.set 3 (.idx (.var 0) (.idx (.var 2) (.glo "ROW"))))
 (.seq (.set 4 (.idx (.var 3) (.cst (.int 0))))
 (.seq (.set 5 (.bi .list ah (.cons (.var 2) .nil)))
 (.seq (.put 5 (.glo "ROW") (.call "place_behind" (.cons (.var 3) (.cons (.var 2) .nil))))
 HR))))⟩:=rfl
theorem HS (F:FK->List W->HH->Option (W×HH)) (A B:S) (s:Sl) (h:HH):evS F G (.seq A B) s h=nE (evS F G A s h) (evS F G B):=rfl
theorem pick (F:FK->List W->HH->Option (W×HH)) (w0 w1 w2 w3:W) (v w:String) (rest:Sl) (h:HH) (A B:S):evS F G (.ife (.cmp .eq (.var 4) (.cst (.str w))) A B) (aa w0::aa w1::aa w2::aa w3::aa (.p (.str v))::rest) h=if v=w then evS F G A (aa w0::aa w1::aa w2::aa w3::aa (.p (.str v))::rest) h else evS F G B (aa w0::aa w1::aa w2::aa w3::aa (.p (.str v))::rest) h:=by
 have e:eqv (.str v) (.str w)=decide (v=w):=by
  by_cases c:v=w
  rw[decide_eq_true c,c];simp
  ·rw[decide_eq_false c];have:¬ Qd v=Qd w:=λz=>c (by simpa using z);simp[this,c]
 by_cases c:v=w
 ·rw[decide_eq_true c] at e;rw[if_pos c];simp[-eqv,e]
 ·rw[decide_eq_false c] at e;rw[if_neg c];simp[-eqv,e]
theorem to0 (F:FK->List W->HH->Option (W×HH)) (w0 w1 w2 w3:W) (rest:Sl) (h:HH):evS F G kB (aa w0::aa w1::aa w2::aa w3::aa (.p (.str "set"))::rest) h=evS F G HQ (aa w0::aa w1::aa w2::aa w3::aa (.p (.str "set"))::rest) h:=by rw[kB,pick,if_pos rfl]
theorem to1 (F:FK->List W->HH->Option (W×HH)) (w0 w1 w2 w3:W) (rest:Sl) (h:HH):evS F G kB (aa w0::aa w1::aa w2::aa w3::aa (.p (.str "put"))::rest) h=evS F G HP (aa w0::aa w1::aa w2::aa w3::aa (.p (.str "put"))::rest) h:=by rw[kB,pick,if_neg (by decide),uO,pick,if_pos rfl]
theorem to2 (F:FK->List W->HH->Option (W×HH)) (w0 w1 w2 w3:W) (rest:Sl) (h:HH):evS F G kB (aa w0::aa w1::aa w2::aa w3::aa (.p (.str "ask"))::rest) h=evS F G HN (aa w0::aa w1::aa w2::aa w3::aa (.p (.str "ask"))::rest) h:=by rw[kB,pick,if_neg (by decide),uO,pick,if_neg (by decide),yh,pick,if_pos rfl]
theorem to3 (F:FK->List W->HH->Option (W×HH)) (w0 w1 w2 w3:W) (rest:Sl) (h:HH):evS F G kB (aa w0::aa w1::aa w2::aa w3::aa (.p (.str "say"))::rest) h=evS F G HM (aa w0::aa w1::aa w2::aa w3::aa (.p (.str "say"))::rest) h:=by rw[kB,pick,if_neg (by decide),uO,pick,if_neg (by decide),yh,pick,if_neg (by decide),AU,pick,if_pos rfl]
theorem to4 (F:FK->List W->HH->Option (W×HH)) (w0 w1 w2 w3:W) (rest:Sl) (h:HH):evS F G kB (aa w0::aa w1::aa w2::aa w3::aa (.p (.str "call"))::rest) h=evS F G HL (aa w0::aa w1::aa w2::aa w3::aa (.p (.str "call"))::rest) h:=by rw[kB,pick,if_neg (by decide),uO,pick,if_neg (by decide),yh,pick,if_neg (by decide),AU,pick,if_neg (by decide),Ea,pick,if_pos rfl]
theorem to5 (F:FK->List W->HH->Option (W×HH)) (w0 w1 w2 w3:W) (rest:Sl) (h:HH):evS F G kB (aa w0::aa w1::aa w2::aa w3::aa (.p (.str "back"))::rest) h=evS F G HJ (aa w0::aa w1::aa w2::aa w3::aa (.p (.str "back"))::rest) h:=by rw[kB,pick,if_neg (by decide),uO,pick,if_neg (by decide),yh,pick,if_neg (by decide),AU,pick,if_neg (by decide),Ea,pick,if_neg (by decide),HK,pick,if_pos rfl]
theorem toN (F:FK->List W->HH->Option (W×HH)) (w0 w1 w2 w3:W) (rest:Sl) (h:HH) (v:String) (hv:v∉["set","put","ask","say","call","back"]):evS F G kB (aa w0::aa w1::aa w2::aa w3::aa (.p (.str v))::rest) h=aa (.nx (aa w0::aa w1::aa w2::aa w3::aa (.p (.str v))::rest) h):=by simp only[Vf,Ti,or_false,not_or] at hv;obtain ⟨n1,n2,n3,n4,n5,n6⟩:=hv;rw[kB,pick,if_neg n1,uO,pick,if_neg n2,yh,pick,if_neg n3,AU,pick,if_neg n4,Ea,pick,if_neg n5,HK,pick,if_neg n6];rfl
theorem jK (P:Prg T G) (k:Nat) (p:Pg) (hp:Pg.ok p) (asked:List Int) (st:St) (ho:st.ok) (hs:st.small) (hb:over p st=ai) (h:HH) :
 runN T G (k+6) "stepped" [.p (dB p),.p (.lst (cX asked)),.p st.enc] h=aa (.p (step p asked st).enc,h):=by
 have c:st.row < p.length:=by
  rcases Qs st.row p.length with q|q
  exact q;rw[over,Qc q] at hb;exact CK hb
 have e:p[st.row]?=aa p[st.row]:=P0 c;have c2:(st.row:Int) < (p.length:Int):=by lia
 have hr:=hp _ (List.getElem_mem c);have hb':(p[st.row]).over st=ai:=by rw[over,e] at hb;exact hb
 have pl:=yf P k p.length p[st.row] hr st ho asked hb';rw[step,e];have l1:=hs.sl;have l2:=hs.cl
 revert pl hr hb'
 generalize p[st.row]=r at *;intro hr hb' pl;have row:dN (dB p) (.int st.row)=aa r.enc:=by simp[dB,c2,e]
 have pre:runN T G (k+6) "stepped" [.p (dB p),.p (.lst (cX asked)),.p st.enc] h =
  kM (evS (runN T G (k+5)) G HR [aa (.p (dB p)),aa (.p (.lst (cX asked))),aa (.p st.enc),aa (.p r.enc),aa (.p (.str r.word)),aa (.r h.length)] (h++[.l [.int (r.next asked st).row,.tup (cX st.names),.tup (cX st.cells),.tup (c7 st.calls),.int st.asked,.tup (cX st.said)]])) (fin h):=by
  rw[run_eq P.stepped rfl,oZ];simp[row,r.q8,P.ROW,AS,encL,pl]
 rw[pre,HR,HS];cases r with
 | set x s =>
  have q:=fQ P (k+1) s (by have:=hr.2;lia) hr.1 st ho;have w:=iK P (k+3) st ho x (s.val st);simp only[Rw.enc,Rw.next,Rw.word,to0];simp[HQ,P.ROW,P.NAMES,q,w,rd,kY,Rw.next];simp[St.enc]
 | put s t =>
  have q:=sZ P k s hr.1 st ho;have q2:=fQ P (k+1) t (by have:=hr.2.2;lia) hr.2.1 st ho;have v:=Sm.nX (s:=s) ho hr.1.1;have hi:(s.val st % 4).toNat < (cX st.cells).length:=by rw[gY,ho.clen];lia
  have w:=gX P (k+4) (cX st.cells) (s.val st % 4).toNat hi (by rw[gY,ho.clen];lia) (.int (t.val st));have e3:(((s.val st % 4).toNat:Nat):Int)=s.val st % 4:=by lia
  rw[e3,ints_set] at w;simp only[Rw.enc,Rw.next,Rw.word,to1];simp[HP,P.ROW,P.CELLS,q,q2,w,rd,kY,Rw.next];simp[St.enc]
 | ask x =>
  have b:=sY P (k+4) asked st.asked;have w:=iK P (k+3) st ho x (asked.getD st.asked 0);simp only[Rw.enc,Rw.next,Rw.word,to2];simp only[Q2] at b w ⊢;simp[HN,P.ROW,P.NAMES,P.ASKED,b,w,rd,kY,Rw.next];simp[St.enc]
 | say s =>
  have q:=fQ P (k+1) s (by have:=hr.2;lia) hr.1 st ho;simp only[Rw.enc,Rw.next,Rw.word,to3];have l3:(cX st.said).length+1<=100000:=by rw[gY];lia
  simp[HM,P.ROW,P.SAID,q,rd,kY,Rw.next,l3,ints_snoc];simp[St.enc]
 | call q =>
  simp only[Rw.enc,Rw.next,Rw.word,to4];have l3:(c7 st.calls).length+1<=100000:=by simp[c7];lia
  have e4:c7 st.calls++[.int ((st.row:Int)+1)]=c7 (st.calls++[st.row+1]):=by rw[← yg];simp
  simp[HL,P.ROW,P.CALLS,rd,kY,Rw.next,l3,e4];simp[St.enc]
 | back =>
  simp only[Rw.enc,Rw.next,Rw.word,to5];have e4:=AR st.calls;have e5:qm (.tup (c7 st.calls)) af (aa (-1))=aa (.tup (c7 st.calls.dropLast)):=by rw[zj,e4]
  simp[-zj,HJ,P.ROW,P.CALLS,rd,kY,Rw.next,e5];simp[St.enc]
 | stop=>simp[Rw.over] at hb'
 | _ =>
  simp only[Rw.enc,Rw.next,Rw.word];rw[toN _ _ _ _ _ _ _ _ (by decide)];simp[P.ROW,rd,kY,Rw.next];simp[St.enc]
end
def Ask (asked:List Int):Prop:=∀ x∈asked,Wth x
theorem AV {xs:List Int}{i:Nat}{v:Int} (h:∀ x∈xs,Wth x) (hv:Wth v):∀ x∈xs.set i v,Wth x:=λx hx=>by
 rcases R6 hx with q|q
 exact h x q;rw[q];exact hv
structure At (n:Nat) (st:St):Prop where
 ok:st.ok
 said:st.said.length<=n
 calls:st.calls.length<=6
theorem At.small {st:St} (a:At n st) (h:n<=5000):st.small:=⟨by have:=a.said;lia,by have:=a.calls;lia⟩
theorem q9:At 0 St.zero:=⟨D7,P6 _,by decide⟩
theorem rf {n:Nat}{p:Pg}{st:St} (hp:Pg.ok p) (ha:Ask asked) (a:At n st) (hb:over p st=ai):At (n+1) (step p asked st):=by
 have c:st.row < p.length:=by
  rcases Qs st.row p.length with q|q
  exact q;rw[over,Qc q] at hb;cases hb
 have e:p[st.row]?=aa p[st.row]:=P0 c;have hr:=hp _ (List.getElem_mem c);have hb':(p[st.row]).over st=ai:=by rw[over,e] at hb;exact hb
 rw[step,e];dsimp only
 revert hr hb'
 generalize p[st.row]=r;intro hr hb';obtain ⟨ok,sd,cl⟩:=a;cases r with
 | set x s=>exact ⟨⟨by simp[Rw.next,ok.nlen],ok.clen,AV ok.nw (Sm.nX ok hr.1),ok.cw⟩,by simp[Rw.next];lia,cl⟩| put s t=>exact ⟨⟨ok.nlen,by simp[Rw.next,ok.clen],ok.nw,AV ok.cw (Sm.nX ok hr.2.1)⟩,by simp[Rw.next];lia,cl⟩| ask x=>exact ⟨⟨by simp[Rw.next,ok.nlen],ok.clen,AV ok.nw (nW ha _),ok.cw⟩,by simp[Rw.next];lia,cl⟩| say s=>exact ⟨⟨ok.nlen,ok.clen,ok.nw,ok.cw⟩,by simp[Rw.next];lia,cl⟩
 | call q =>
  simp[Rw.over] at hb';exact ⟨⟨ok.nlen,ok.clen,ok.nw,ok.cw⟩,by simp[Rw.next];lia,by simp[Rw.next];lia⟩
 | back=>exact ⟨⟨ok.nlen,ok.clen,ok.nw,ok.cw⟩,by simp[Rw.next];lia,by simp[Rw.next];lia⟩| stop=>simp[Rw.over] at hb'| _=>exact ⟨⟨ok.nlen,ok.clen,ok.nw,ok.cw⟩,by simp[Rw.next];lia,cl⟩
section
noncomputable def stC:E:=.and (.cmp .le (.bi .len ai (Z9 (.var 3))) (.var 2)) (.not (.call "is_over" (Z8 (.var 0) (.idx (.var 3) (.neg (.cst (.int 1)))))))
noncomputable def stB:S:=.ex (.me .append (.var 3) (Z9 (.call "stepped" (Z7 (.var 0) (.var 1) (.idx (.var 3) (.neg (.cst (.int 1))))))))
theorem Eb (P:Prg T G) (k:Nat) (h:HH) (p:Pg) (hp:Pg.ok p) (asked:List Int) (ha:Ask asked) (many:Nat) (hm:many<=2000):∀ (r f:Nat) (pre:List D) (st:St),pre.length+r=many->r<=f->At pre.length st →
 eg (ev (runN T G (k+6)) G stC) (evS (runN T G (k+6)) G stB) (f+1) [aa (.p (dB p)),aa (.p (.lst (cX asked))),aa (.p (.int many)),aa (.r h.length)] (h++[.l (pre++[st.enc])]) =
  aa (.nx [aa (.p (dB p)),aa (.p (.lst (cX asked))),aa (.p (.int many)),aa (.r h.length)] (h++[.l (pre++(sts p asked r st).map St.enc)])):=by
 intro r
 induction r with
 | zero =>
  intro f pre st hl hf a;have c:¬ ((pre.length:Int)+1<=(many:Int)):=by lia
  simp[eg,stC,rd,c,sts]
 | succ r ih =>
  intro f pre st hl hf a;have c:(pre.length:Int)+1<=(many:Int):=by lia
  have e2:-((pre.length:Int)+1)<=-1:=by lia
  have e3:(-1+((pre.length:Int)+1)).toNat=pre.length:=by lia
  have o:=iz P (k+5) p st;cases hb:over p st with
  | true =>
   rw[hb] at o;simp[eg,stC,rd,c,sts,e2,e3,o,hb]
  | false =>
   rw[hb] at o;have s:=jK P k p hp asked st a.ok (a.small (by lia)) hb;cases f with
   | zero=>lia
   | succ f =>
    have q:=ih f (pre++[st.enc]) (step p asked st) (by simp;lia) (by lia) (by simpa using rf hp ha a hb);have hc:ev (runN T G (k+6)) G stC [aa (.p (dB p)),aa (.p (.lst (cX asked))),aa (.p (.int many)),aa (.r h.length)] (h++[.l (pre++[st.enc])])=aa (.p (.bl ah),h++[.l (pre++[st.enc])]):=by simp[stC,rd,c,e2,e3,o]
    have l:pre.length+1 < 100000:=by lia
    have hbd:evS (runN T G (k+6)) G stB [aa (.p (dB p)),aa (.p (.lst (cX asked))),aa (.p (.int many)),aa (.r h.length)] (h++[.l (pre++[st.enc])]) =
     aa (.nx [aa (.p (dB p)),aa (.p (.lst (cX asked))),aa (.p (.int many)),aa (.r h.length)] (h++[.l ((pre++[st.enc])++[(step p asked st).enc])])):=by
     simp[stB,rd,e2,e3,s,l]
    rw[eg,hc,iJ,kj,hbd,gk,q];simp[sts,hb]
theorem rj:iR=⟨["program","asked","many"],["program","asked","many","told"],.seq (.set 3 (.lst ah (.cons (.call "begun" .nil) .nil))) (.seq (.whl stC stB) (.ret (.var 3)))⟩:=rfl
theorem uP (P:Prg T G) (hS:T "states"=aa iR) (k:Nat) (p:Pg) (hp:Pg.ok p) (asked:List Int) (ha:Ask asked) (many:Nat) (hm:many<=2000) (h:HH) :
 runN T G (k+7) "states" [.p (dB p),.p (.lst (cX asked)),.p (.int many)] h=aa (.p (.lst ((sts p asked many St.zero).map St.enc)),h):=by
 rw[run_eq hS rfl,rj];have q:=Eb P k h p hp asked ha many hm many 99999 [] St.zero (by simp) (by lia) q9;have b:=lQ P (k+5);simp only[RO] at q;simp[b,turns,q,Fk]
end
noncomputable def gr:Fn:=⟨["_law_script","_law_k"],["_law_script","_law_k"], (.seq (.ife (.cmp .eq (.var 0) (.lst ai .nil)) (.ret (.bin .mul (.cst (.int 7)) (.var 1))) .nil) (.ret (.bin .add (.idx (.var 0) (.bin .mod (.var 1) (.bi .len ai (Z9 (.var 0))))) (.bin .mul (.cst (.int 6553)) (.bin .fdiv (.var 1) (.bi .len ai (Z9 (.var 0))))))))⟩
noncomputable def gD:Fn:=⟨["_law_script","_law_k","_law_many"],["_law_script","_law_k","_law_many","_law_cell_here"], (.seq (.set 3 (.bin .mod (.bin .add (.bin .mul (.bin .mod (.call "_law_cell" (Z8 (.var 0) (.var 1))) (.cst (.int 2147483563))) (.cst (.int 69069))) (.bin .mul (.cst (.int 104723)) (.bin .add (.var 1) (.cst (.int 1))))) (.cst (.int 2147483563)))) (.seq (.set 3 (.bin .mod (.bin .add (.bin .mul (.var 3) (.var 3)) (.bin .fdiv (.var 3) (.cst (.int 3)))) (.cst (.int 2147483399)))) (.ret (.bin .mod (.bin .fdiv (.bin .mod (.bin .add (.bin .mul (.var 3) (.var 3)) (.bin .fdiv (.var 3) (.cst (.int 7)))) (.cst (.int 2147483647))) (.cst (.int 11))) (.var 2)))))⟩
noncomputable def smL:S:=(.seq (.ife (.cmp .eq (.call "_law_drawn" (Z7 (.var 0) (.bin .add (.var 1) (.cst (.int 1))) (.cst (.int 2)))) (.cst (.int 0))) (.ret (.tup (Z8 (.cst (.str "num")) (.idx (.lst ai (Z4 (.cst (.int 0)) (.cst (.int 1)) (.cst (.int 2)) (.cst (.int 3)) (.cst (.int 10)) (.cst (.int 10006)))) (.call "_law_drawn" (Z7 (.var 0) (.bin .add (.var 1) (.cst (.int 2))) (.cst (.int 6)))))))) .nil) (.ret (.tup (Z8 (.cst (.str "name")) (.idx (.cst (.str "abcf")) (.call "_law_drawn" (Z7 (.var 0) (.bin .add (.var 1) (.cst (.int 2))) (.cst (.int 4)))))))))
noncomputable def smR:S:=(.seq (.set 4 (.call "_law_sum" (Z7 (.var 0) (.bin .add (.bin .mul (.var 1) (.cst (.int 2))) (.cst (.int 5))) (.bin .sub (.var 2) (.cst (.int 1)))))) (.seq (.ife (.cmp .lt (.var 3) (.cst (.int 6))) (.ret (.tup (Z8 (.cst (.str "cell")) (.var 4)))) .nil) (.ret (.tup (Z7 (.idx (.lst ai (Z6 (.cst (.str "add")) (.cst (.str "sub")) (.cst (.str "mul")) (.cst (.str "less")))) (.bin .sub (.var 3) (.cst (.int 6)))) (.var 4) (.call "_law_sum" (Z7 (.var 0) (.bin .add (.bin .mul (.var 1) (.cst (.int 2))) (.cst (.int 19))) (.bin .sub (.var 2) (.cst (.int 1))))))))))
noncomputable def fD:Fn:=⟨["_law_script","_law_at","_law_deep"],["_law_script","_law_at","_law_deep","_law_way","_law_one"], (.seq (.set 3 (.call "_law_drawn" (Z7 (.var 0) (.var 1) (.cst (.int 10))))) (.seq (.ife (.or (.cmp .eq (.var 2) (.cst (.int 0))) (.cmp .lt (.var 3) (.cst (.int 4)))) smL .nil) smR))⟩
noncomputable def i9:Fn:=⟨["_law_script","_law_at","_law_size"],["_law_script","_law_at","_law_size","_law_way","_law_place","_law_name","_law_one"], (.seq (.set 3 (.call "_law_drawn" (Z7 (.var 0) (.var 1) (.cst (.int 16))))) (.seq (.set 4 (.call "_law_drawn" (Z7 (.var 0) (.bin .add (.var 1) (.cst (.int 1))) (.bin .add (.var 2) (.cst (.int 1)))))) (.seq (.set 5 (.idx (.cst (.str "abc")) (.call "_law_drawn" (Z7 (.var 0) (.bin .add (.var 1) (.cst (.int 2))) (.cst (.int 3)))))) (.seq (.set 6 (.call "_law_sum" (Z7 (.var 0) (.bin .add (.var 1) (.cst (.int 3))) (.cst (.int 2))))) (.seq (.ife (.cmp .lt (.var 3) (.cst (.int 5))) (.ret (.tup (Z7 (.cst (.str "set")) (.var 5) (.var 6)))) .nil) (.seq (.ife (.cmp .lt (.var 3) (.cst (.int 7))) (.ret (.tup (Z7 (.cst (.str "put")) (.call "_law_sum" (Z7 (.var 0) (.bin .add (.var 1) (.cst (.int 9))) (.cst (.int 1)))) (.var 6)))) .nil) (.seq (.ife (.cmp .lt (.var 3) (.cst (.int 9))) (.ret (.idx (.lst ai (Z8 (.tup (Z8 (.cst (.str "ask")) (.var 5))) (.tup (Z8 (.cst (.str "say")) (.var 6))))) (.bin .sub (.var 3) (.cst (.int 7))))) .nil) (.seq (.ife (.cmp .lt (.var 3) (.cst (.int 12))) (.ret (.idx (.lst ai (Z7 (.tup (Z8 (.cst (.str "jump")) (.var 4))) (.tup (Z7 (.cst (.str "unless")) (.var 6) (.var 4))) (.tup (Z7 (.cst (.str "unless")) (.tup (Z8 (.cst (.str "name")) (.var 5))) (.var 4))))) (.bin .sub (.var 3) (.cst (.int 9))))) .nil) (.ret (.idx (.lst ai (Z6 (.tup (Z8 (.cst (.str "call")) (.var 4))) (.tup (Z8 (.cst (.str "call")) (.var 4))) (.tup (Z9 (.cst (.str "back")))) (.idx (.lst ai (Z8 (.tup (Z9 (.cst (.str "stop")))) (.tup (Z9 (.cst (.str "back")))))) (.bin .mod (.var 4) (.cst (.int 2)))))) (.bin .sub (.var 3) (.cst (.int 12)))))))))))))⟩
noncomputable def eY:Fn:=⟨["_law_script","_law_at"],["_law_script","_law_at","_law_size","_law_put","_law_sign","_law_rows"], (.seq (.set 2 (.bin .add (.cst (.int 1)) (.call "_law_drawn" (Z7 (.var 0) (.var 1) (.cst (.int 9)))))) (.seq (.ife (.cmp .eq (.call "_law_drawn" (Z7 (.var 0) (.bin .add (.var 1) (.cst (.int 1))) (.cst (.int 4)))) (.cst (.int 0))) (.seq (.set 3 (.tup (Z7 (.cst (.str "put")) (.tup (Z8 (.cst (.str "name")) (.cst (.str "a")))) (.tup (Z8 (.cst (.str "num")) (.call "_law_drawn" (Z7 (.var 0) (.bin .add (.var 1) (.cst (.int 2))) (.cst (.int 9))))))))) (.seq (.set 4 (.idx (.lst ai (Z8 (.cst (.str "add")) (.cst (.str "sub")))) (.call "_law_drawn" (Z7 (.var 0) (.bin .add (.var 1) (.cst (.int 3))) (.cst (.int 2)))))) (.seq (.set 5 (.tup (Z5 (.tup (Z8 (.cst (.str "ask")) (.cst (.str "a")))) (.tup (Z8 (.cst (.str "call")) (.cst (.int 4)))) (.tup (Z8 (.cst (.str "say")) (.tup (Z8 (.cst (.str "name")) (.cst (.str "a")))))) (.tup (Z8 (.cst (.str "jump")) (.cst (.int 0)))) (.var 3)))) (.ret (.bin .add (.var 5) (.tup (Z6 (.tup (Z8 (.cst (.str "call")) (.cst (.int 7)))) (.tup (Z9 (.cst (.str "back")))) (.tup (Z7 (.cst (.str "set")) (.cst (.str "b")) (.tup (Z7 (.var 4) (.tup (Z8 (.cst (.str "name")) (.cst (.str "b")))) (.tup (Z8 (.cst (.str "name")) (.cst (.str "a")))))))) (.tup (Z9 (.cst (.str "back"))))))))))) .nil) (.ret (.bi .tuple ai (Z9 (.comp ai .rng1 (Z9 (.var 2)) ["_law_k"] [(0,"_law_script"),(1,"_law_at"),(2,"_law_size")] .nil (.call "_law_row" (Z7 (.var 1) (.bin .add (.bin .add (.var 2) (.cst (.int 10))) (.bin .mul (.cst (.int 40)) (.var 0))) (.var 3)))))))))⟩
noncomputable def gE:Fn:=⟨["_law_script","_law_at"],["_law_script","_law_at"], (.ret (.comp ai .rng1 (Z9 (.call "_law_drawn" (Z7 (.var 0) (.var 1) (.cst (.int 4))))) ["_law_k"] [(0,"_law_script"),(1,"_law_at")] .nil (.idx (.lst ai (Z6 (.cst (.int 0)) (.cst (.int 1)) (.cst (.int 5)) (.cst (.int 10006)))) (.call "_law_drawn" (Z7 (.var 1) (.bin .add (.bin .add (.var 2) (.cst (.int 1))) (.var 0)) (.cst (.int 4)))))))⟩
structure Lw (T:FK->Option Fn):Prop where
 cell:T "_law_cell"=aa gr
 drawn:T "_law_drawn"=aa gD
 sum:T "_law_sum"=aa fD
 row:T "_law_row"=aa i9
 asked:T "_law_asked"=aa gE
noncomputable def wm (ns:List Int) (k:Int):Int:=if ns=[] then 7*k else ns.getD (k % ns.length).toNat 0+6553*(k / ns.length)
noncomputable def drw (ns:List Int) (k many:Int):Int :=
 let a:=(wm ns k % 2147483563*69069+104723*(k+1)) % 2147483563
 let b:=(a*a+a / 3) % 2147483399
 (b*b+b / 7) % 2147483647 / 11 % many
theorem fE (ns:List Int) (k:Int) (h:0 < many):0<=drw ns k many:=Int.emod_nonneg _ (by lia)
theorem fF (ns:List Int) (k:Int) (h:0 < many):drw ns k many < many:=Int.emod_lt_of_pos _ h
theorem pX (h0:0<=i) (h1:i < 18446744073709551616):big i=ah:=by unfold big;exact decide_eq_true (by lia)
section
theorem Ec (ns:List Int):eqv (.lst (cX ns)) (.lst [])=decide (ns=[]):=by cases ns<;>simp[cX]
theorem AW (L:Lw T) (m:Nat) (ns:List Int) (hl:ns.length<=1000) (k:Int) (h:HH):runN T G (m+1) "_law_cell" [.p (.lst (cX ns)),.p (.int k)] h=aa (.p (.int (wm ns k)),h):=by
 rw[run_eq L.cell rfl]
 by_cases c:ns=[]
 ·subst c;simp[gr,cX,wm,big,cY]
 ·have n0:0 < ns.length:=List.length_pos_iff.mpr c;have q:eqv (.lst (cX ns)) (.lst [])=ai:=by rw[Ec];exact decide_eq_false c
  have p1:(0:Int) < (ns.length:Int):=by lia
  have p2:(ns.length:Int) < 1073741824:=by lia
  have m1:=Int.emod_nonneg k (b:=(ns.length:Int)) (by lia);have m2:=Int.emod_lt_of_pos k p1;have i1:(k % (ns.length:Int)).toNat < ns.length:=by lia
  have n2:ns.length < 1073741824:=by lia
  simp[gr,-eqv,q,gY,p1,p2,n0,n2,m1,m2,big,cY,wm,c];simp[cX,i1,cY,n0,n2,m1,m2,big,p1,p2]
theorem fH (L:Lw T) (m:Nat) (ns:List Int) (hl:ns.length<=1000) (k many:Int) (hm:0 < many) (h:HH) :
 runN T G (m+2) "_law_drawn" [.p (.lst (cX ns)),.p (.int k),.p (.int many)] h=aa (.p (.int (drw ns k many)),h):=by
 rw[run_eq L.drawn rfl];have r:=AW (G:=G) L m ns hl k;have b0:big 69069=ah:=by decide
 have b1:big 104723=ah:=by decide
 have b2:∀ x:Int,big (x % 2147483563)=ah:=λx=>pX (by lia) (by lia);have b3:∀ x:Int,big (x % 2147483399)=ah:=λx=>pX (by lia) (by lia);simp[gD,r,b0,b1,b2,b3,cY,hm,drw]
theorem rm:Qd "abcf"=⟨#[97,98,99,102]⟩:=by decide +kernel
theorem AX:Qd "abc"=⟨#[97,98,99]⟩:=by decide +kernel
theorem o_a:Qd "a"=⟨#[97]⟩:=by decide +kernel
theorem o_b:Qd "b"=⟨#[98]⟩:=by decide +kernel
theorem o_c:Qd "c"=⟨#[99]⟩:=by decide +kernel
theorem o_f:Qd "f"=⟨#[102]⟩:=by decide +kernel
theorem wo (i:Int) (h0:0<=i) (h1:i < 4):∃ x:Nm,dN (.str "abcf") (.int i)=aa (.str x.w):=by
 have:i=0\/i=1\/i=2\/i=3:=by lia
 rcases this with rfl|rfl|rfl|rfl
 exact ⟨.a,by rw[Nm.w,rm,o_a];rfl⟩;exact ⟨.b,by rw[Nm.w,rm,o_b];rfl⟩;exact ⟨.c,by rw[Nm.w,rm,o_c];rfl⟩;exact ⟨.f,by rw[Nm.w,rm,o_f];rfl⟩
theorem HU (i:Int) (h0:0<=i) (h1:i < 3):∃ x:Nm,dN (.str "abc") (.int i)=aa (.str x.w):=by
 have:i=0\/i=1\/i=2:=by lia
 rcases this with rfl|rfl|rfl
 exact ⟨.a,by rw[Nm.w,AX,o_a];rfl⟩;exact ⟨.b,by rw[Nm.w,AX,o_b];rfl⟩;exact ⟨.c,by rw[Nm.w,AX,o_c];rfl⟩
theorem wu (i:Int) (h0:0<=i) (h1:i < 6):∃ n:Int,Wth n/\dN (.lst [.int 0,.int 1,.int 2,.int 3,.int 10,.int 10006]) (.int i)=aa (.int n):=by
 have:i=0\/i=1\/i=2\/i=3\/i=4\/i=5:=by lia
 rcases this with rfl|rfl|rfl|rfl|rfl|rfl
 exact ⟨0,⟨by decide,by decide⟩,rfl⟩;exact ⟨1,⟨by decide,by decide⟩,rfl⟩;exact ⟨2,⟨by decide,by decide⟩,rfl⟩;exact ⟨3,⟨by decide,by decide⟩,rfl⟩;exact ⟨10,⟨by decide,by decide⟩,rfl⟩;exact ⟨10006,⟨by decide,by decide⟩,rfl⟩
theorem HV (i:Int) (h0:0<=i) (h1:i < 4):∃ o:Op,dN (.lst [.str "add",.str "sub",.str "mul",.str "less"]) (.int i)=aa (.str o.w):=by
 have:i=0\/i=1\/i=2\/i=3:=by lia
 rcases this with rfl|rfl|rfl|rfl
 exact ⟨.add,rfl⟩;exact ⟨.sub,rfl⟩;exact ⟨.mul,rfl⟩;exact ⟨.less,rfl⟩
theorem AY (L:Lw T) (ns:List Int) (hl:ns.length<=1000) (p n:Int) (k:Nat) (rest:Sl) (h:HH) (c:drw ns (p+1) 2=0) (en:dN (.lst [.int 0,.int 1,.int 2,.int 3,.int 10,.int 10006]) (.int (drw ns (p+2) 6))=aa (.int n)) :
 evS (runN T G (k+2)) G smL (aa (.p (.lst (cX ns)))::aa (.p (.int p))::rest) h=aa (.rt (.p (Sm.num n).enc) h):=by
 have dr:=λq many (hm:0 < many)=>fH (G:=G) L k ns hl q many hm;simp[-dI,-jw,smL,dr,c,en,Sm.enc]
theorem AZ (L:Lw T) (ns:List Int) (hl:ns.length<=1000) (p:Int) (x:Nm) (k:Nat) (rest:Sl) (h:HH) (c:¬ drw ns (p+1) 2=0) (ex:dN (.str "abcf") (.int (drw ns (p+2) 4))=aa (.str x.w)) :
 evS (runN T G (k+2)) G smL (aa (.p (.lst (cX ns)))::aa (.p (.int p))::rest) h=aa (.rt (.p (Sm.nam x).enc) h):=by
 have dr:=λq many (hm:0 < many)=>fH (G:=G) L k ns hl q many hm;simp[-dI,-jw,smL,dr,c,ex,Sm.enc]
theorem wA (L:Lw T) (ns:List Int) (hl:ns.length<=1000):∀ (deep:Nat) (p:Int),∃ s:Sm,s.ok/\s.size+1<=2 ^ (deep+1)/\∀ (m:Nat) (h:HH),
 runN T G (m+deep+3) "_law_sum" [.p (.lst (cX ns)),.p (.int p),.p (.int deep)] h=aa (.p s.enc,h):=by
 intro deep
 induction deep with
 | zero =>
  intro p;have dr:=λm q many (hm:0 < many)=>fH (G:=G) L m ns hl q many hm;obtain ⟨x,ex⟩:=wo (drw ns (p+2) 4) (fE _ _ (by decide)) (fF _ _ (by decide));obtain ⟨n,hn,en⟩:=wu (drw ns (p+2) 6) (fE _ _ (by decide)) (fF _ _ (by decide));have key:∀ (s:Sm) (m:Nat) (h:HH),(∀ rest,evS (runN T G (m+2)) G smL (aa (.p (.lst (cX ns)))::aa (.p (.int p))::rest) h=aa (.rt (.p s.enc) h))->runN T G (m+0+3) "_law_sum" [.p (.lst (cX ns)),.p (.int p),.p (.int ((0:Nat):Int))] h=aa (.p s.enc,h):=λs m h q=>by rw[run_eq L.sum rfl];simp[fD,dr,q,cY]
  by_cases c:drw ns (p+1) 2=0
  exact ⟨.num n,hn,by simp[Sm.size],λm h=>key _ m h λrest=>AY L ns hl p n m rest h c en⟩;exact ⟨.nam x,trivial,by simp[Sm.size],λm h=>key _ m h λrest=>AZ L ns hl p x m rest h c ex⟩
 | succ deep ih =>
  intro p;have dr:=λm q many (hm:0 < many)=>fH (G:=G) L m ns hl q many hm;obtain ⟨x,ex⟩:=wo (drw ns (p+2) 4) (fE _ _ (by decide)) (fF _ _ (by decide));obtain ⟨n,hn,en⟩:=wu (drw ns (p+2) 6) (fE _ _ (by decide)) (fF _ _ (by decide));obtain ⟨s,so,ss,sr0⟩:=ih (p*2+5);obtain ⟨t,to,tt,tr0⟩:=ih (p*2+19);have ee:∀ m,m+(deep+1)+2=m+deep+3:=λm=>by lia
  have sr:=λm h=>(ee m).symm ▸ sr0 m h;have tr:=λm h=>(ee m).symm ▸ tr0 m h;have d0:¬ ((deep:Int)+1=0):=by lia
  have d1:((deep:Int)+1 - 1)=deep:=by lia
  have b2:big 2=ah:=by decide
  have w0:=fE ns p (many:=10) (by decide);have w1:=fF ns p (many:=10) (by decide);have pw:2 ^ (deep+1+1)=2 ^ (deep+1)+2 ^ (deep+1):=by lia
  by_cases c1:drw ns p 10 < 4
  ·have key:∀ (s:Sm) (m:Nat) (h:HH),(∀ rest,evS (runN T G (m+deep+1+2)) G smL (aa (.p (.lst (cX ns)))::aa (.p (.int p))::rest) h=aa (.rt (.p s.enc) h))->runN T G (m+(deep+1)+3) "_law_sum" [.p (.lst (cX ns)),.p (.int p),.p (.int ((deep+1:Nat):Int))] h=aa (.p s.enc,h):=λs m h q=>by rw[run_eq L.sum rfl];have dq:=dr (m+(deep+1));have q:∀ rest,evS (runN T G (m+(deep+1)+2)) G smL (aa (.p (.lst (cX ns)))::aa (.p (.int p))::rest) h=aa (.rt (.p s.enc) h):=q;simp[fD,dq,c1,d0,q,cY]
   by_cases c:drw ns (p+1) 2=0
   exact ⟨.num n,hn,by simp only[Sm.size];lia,λm h=>key _ m h λrest=>AY L ns hl p n (m+deep+1) rest h c en⟩;exact ⟨.nam x,trivial,by simp only[Sm.size];lia,λm h=>key _ m h λrest=>AZ L ns hl p x (m+deep+1) rest h c ex⟩
  ·by_cases c2:drw ns p 10 < 6
   ·refine ⟨.cell s,so,by simp only[Sm.size];lia,λm h=>?_⟩;rw[run_eq L.sum rfl];simp[-dI,-jw,fD,smR,dr,c1,c2,d0,d1,b2,sr,cY,Sm.enc]
   ·obtain ⟨o,eo⟩:=HV (drw ns p 10 - 6) (by lia) (by lia);refine ⟨.two o s t,⟨so,to⟩,by simp only[Sm.size];lia,λm h=>?_⟩;rw[run_eq L.sum rfl];simp[-dI,-jw,fD,smR,dr,c1,c2,d0,d1,b2,sr,tr,eo,cY,Sm.enc]
end
noncomputable def Fp:S:=(.ret (.idx (.lst ai (Z6 (.tup (Z8 (.cst (.str "call")) (.var 4))) (.tup (Z8 (.cst (.str "call")) (.var 4))) (.tup (Z9 (.cst (.str "back")))) (.idx (.lst ai (Z8 (.tup (Z9 (.cst (.str "stop")))) (.tup (Z9 (.cst (.str "back")))))) (.bin .mod (.var 4) (.cst (.int 2)))))) (.bin .sub (.var 3) (.cst (.int 12)))))
noncomputable def rA3:S:=(.ret (.idx (.lst ai (Z7 (.tup (Z8 (.cst (.str "jump")) (.var 4))) (.tup (Z7 (.cst (.str "unless")) (.var 6) (.var 4))) (.tup (Z7 (.cst (.str "unless")) (.tup (Z8 (.cst (.str "name")) (.var 5))) (.var 4))))) (.bin .sub (.var 3) (.cst (.int 9)))))
noncomputable def A5:S:=(.seq (.ife (.cmp .lt (.var 3) (.cst (.int 12))) rA3 .nil) Fp)
noncomputable def rA2:S:=(.ret (.idx (.lst ai (Z8 (.tup (Z8 (.cst (.str "ask")) (.var 5))) (.tup (Z8 (.cst (.str "say")) (.var 6))))) (.bin .sub (.var 3) (.cst (.int 7)))))
noncomputable def wB:S:=(.seq (.ife (.cmp .lt (.var 3) (.cst (.int 9))) rA2 .nil) A5)
noncomputable def rA1:S:=(.ret (.tup (Z7 (.cst (.str "put")) (.call "_law_sum" (Z7 (.var 0) (.bin .add (.var 1) (.cst (.int 9))) (.cst (.int 1)))) (.var 6))))
noncomputable def tE:S:=(.seq (.ife (.cmp .lt (.var 3) (.cst (.int 7))) rA1 .nil) wB)
noncomputable def rA0:S:=(.ret (.tup (Z7 (.cst (.str "set")) (.var 5) (.var 6))))
noncomputable def uQ:S:=(.seq (.ife (.cmp .lt (.var 3) (.cst (.int 5))) rA0 .nil) tE)
theorem o7:i9=⟨["_law_script","_law_at","_law_size"],["_law_script","_law_at","_law_size","_law_way","_law_place","_law_name","_law_one"],
 (.seq (.set 3 (.call "_law_drawn" (.cons (.var 0) (.cons (.var 1) (.cons (.cst (.int 16)) .nil)))))
 (.seq (.set 4 (.call "_law_drawn" (.cons (.var 0) (.cons (.bin .add (.var 1) (.cst (.int 1))) (.cons (.bin .add (.var 2) (.cst (.int 1))) .nil)))))
 (.seq (.set 5 (.idx (.cst (.str "abc")) (.call "_law_drawn" (.cons (.var 0) (.cons (.bin .add (.var 1) (.cst (.int 2))) (.cons (.cst (.int 3)) .nil))))))
 (.seq (.set 6 (.call "_law_sum" (.cons (.var 0) (.cons (.bin .add (.var 1) (.cst (.int 3))) (.cons (.cst (.int 2)) .nil)))))
 uQ))))⟩:=rfl
section
theorem Ed (L:Lw T) (ns:List Int) (hl:ns.length<=1000) (p:Int) (size:Nat):∃ r:Rw,r.ok size/\∀ (m:Nat) (h:HH),
 runN T G (m+6) "_law_row" [.p (.lst (cX ns)),.p (.int p),.p (.int size)] h=aa (.p r.enc,h):=by
 have dr:=λm q many (hm:0 < many)=>fH (G:=G) L m ns hl q many hm;obtain ⟨x,ex⟩:=HU (drw ns (p+2) 3) (fE _ _ (by decide)) (fF _ _ (by decide));obtain ⟨s,so,ss,sr⟩:=wA (G:=G) L ns hl 2 (p+3);obtain ⟨t,to,tt,tr⟩:=wA (G:=G) L ns hl 1 (p+9);have w0:=fE ns p (many:=16) (by decide);have w1:=fF ns p (many:=16) (by decide);have sz:(0:Int) < (size:Int)+1:=by lia
 have p0:=fE ns (p+1) sz;have p1:=fF ns (p+1) sz;obtain ⟨pl,hpl⟩:∃ pl:Nat,drw ns (p+1) ((size:Int)+1)=(pl:Int):=⟨(drw ns (p+1) ((size:Int)+1)).toNat,by lia⟩;have ple:pl<=size:=by lia
 have sok:qZ s:=⟨so,by lia⟩;have tok:qZ t:=⟨to,by lia⟩;have sr':=λm h=>sr (m+0) h;have tr':=λm h=>tr (m+1) h;simp at sr' tr';have dp:=λm h=>dr m (p+1) ((size:Int)+1) sz h;rw[hpl] at dp;have pre:∀ (m:Nat) (h:HH),runN T G (m+6) "_law_row" [.p (.lst (cX ns)),.p (.int p),.p (.int size)] h =
  kM (evS (runN T G (m+5)) G uQ [aa (.p (.lst (cX ns))),aa (.p (.int p)),aa (.p (.int size)),aa (.p (.int (drw ns p 16))),aa (.p (.int (pl:Int))),aa (.p (.str x.w)),aa (.p s.enc)] h) (fin h):=λm h=>by
  rw[run_eq L.row rfl,o7];simp[-jw,dp,dr,ex,sr']
 by_cases c1:drw ns p 16 < 5
 ·refine ⟨.set x s,sok,λm h=>?_⟩;rw[pre];simp[-dI,-jw,uQ,rA0,c1,cY,Rw.enc]
 ·by_cases c2:drw ns p 16 < 7
  ·refine ⟨.put t s,⟨tok,sok⟩,λm h=>?_⟩;rw[pre];simp[-dI,-jw,uQ,tE,rA1,tr',c1,c2,cY,Rw.enc]
  ·by_cases c3:drw ns p 16 < 9
   ·obtain ⟨r,ro,ix⟩:∃ r:Rw,r.ok size/\dN (.lst [.tup [.str "ask",.str x.w],.tup [.str "say",s.enc]]) (.int (drw ns p 16 - 7))=aa r.enc:=by
     have c:drw ns p 16=7\/drw ns p 16=8:=by lia
     rcases c with c|c<;>rw[c]
     exact ⟨.ask x,trivial,rfl⟩;exact ⟨.say s,sok,rfl⟩
    refine ⟨r,ro,λm h=>?_⟩;rw[pre];simp[-dI,uQ,tE,wB,rA2,c1,c2,c3,ix,cY]
   ·by_cases c4:drw ns p 16 < 12
    ·obtain ⟨r,ro,ix⟩:∃ r:Rw,r.ok size/\dN (.lst [.tup [.str "jump",.int pl],.tup [.str "unless",s.enc,.int pl],.tup [.str "unless",.tup [.str "name",.str x.w],.int pl]]) (.int (drw ns p 16 - 9))=aa r.enc:=by
      have c:drw ns p 16=9\/drw ns p 16=10\/drw ns p 16=11:=by lia
      rcases c with c|c|c<;>rw[c]
      exact ⟨.jump pl,ple,rfl⟩;exact ⟨.unless s pl,⟨sok,ple⟩,rfl⟩;exact ⟨.unless (.nam x) pl,⟨⟨trivial,by simp[Sm.size]⟩,ple⟩,rfl⟩
     refine ⟨r,ro,λm h=>?_⟩;rw[pre];simp[-dI,uQ,tE,wB,A5,rA3,c1,c2,c3,c4,ix,cY]
    ·obtain ⟨u,uo,iu⟩:∃ u:Rw,u.ok size/\dN (.lst [.tup [.str "stop"],.tup [.str "back"]]) (.int ((pl:Int) % 2))=aa u.enc:=by
      have z:(pl:Int) % 2=0\/(pl:Int) % 2=1:=by lia
      rcases z with z|z<;>rw[z]
      exact ⟨.stop,trivial,rfl⟩;exact ⟨.back,trivial,rfl⟩
     obtain ⟨r,ro,ix⟩:∃ r:Rw,r.ok size/\dN (.lst [.tup [.str "call",.int pl],.tup [.str "call",.int pl],.tup [.str "back"],u.enc]) (.int (drw ns p 16 - 12))=aa r.enc:=by
      have c:drw ns p 16=12\/drw ns p 16=13\/drw ns p 16=14\/drw ns p 16=15:=by lia
      rcases c with c|c|c|c<;>rw[c]
      exact ⟨.call pl,ple,rfl⟩;exact ⟨.call pl,ple,rfl⟩;exact ⟨.back,trivial,rfl⟩;exact ⟨u,uo,rfl⟩
     refine ⟨r,ro,λm h=>?_⟩;rw[pre];simp[-dI,uQ,tE,wB,A5,Fp,c1,c2,c3,c4,iu,ix,cY]
theorem comp_map (f:List D->HH->Option (Option D×HH)) (g:D->D):∀ (ds:List D) (h:HH),(∀ d∈ds,∀ h,f [d] h=aa (aa (g d),h))->d7 f 1 ds h=aa (ds.map g,h):=by
 intro ds
 induction ds with
 | nil=>intro h _;rfl
 | cons d r ih =>
  intro h hf;have e1:=hf d Qn h;have e2:=ih h λx hx=>hf x (Qe _ hx);rw[d7,kK];simp[e1,e2]
theorem tF (h:d∈upto 0 n):∃ k:Nat,k < n/\d=.int k:=by simp[upto] at h;obtain ⟨k,hk,e⟩:=h;exact ⟨k,hk,e.symm⟩
theorem tG (n:Nat) (g:D->D):(upto 0 n).map g=(Qm n).map λ(k:Nat)=>g (.int k):=by simp[upto,Function.comp_def]
noncomputable def Ef:E:=.idx (.lst ai (Z6 (.cst (.int 0)) (.cst (.int 1)) (.cst (.int 5)) (.cst (.int 10006)))) (.call "_law_drawn" (Z7 (.var 1) (.bin .add (.bin .add (.var 2) (.cst (.int 1))) (.var 0)) (.cst (.int 4))))
theorem mC:gE=⟨["_law_script","_law_at"],["_law_script","_law_at"],.ret (.comp ai .rng1 (.cons (.call "_law_drawn" (.cons (.var 0) (.cons (.var 1) (.cons (.cst (.int 4)) .nil)))) .nil) ["_law_k"] [(0,"_law_script"),(1,"_law_at")] .nil Ef)⟩:=rfl
theorem yi (L:Lw T) (ns:List Int) (hl:ns.length<=1000) (p:Int):∃ asked:List Int,Ask asked/\asked.length<=3/\∀ (m:Nat) (h:HH),
 runN T G (m+3) "_law_asked" [.p (.lst (cX ns)),.p (.int p)] h=aa (.p (.lst (cX asked)),h):=by
 have dr:=λm q many (hm:0 < many)=>fH (G:=G) L m ns hl q many hm;have at4:∀ i:Int,0<=i->i < 4->∃ n:Int,Wth n/\dN (.lst [.int 0,.int 1,.int 5,.int 10006]) (.int i)=aa (.int n):=by
  intro i h0 h1;have:i=0\/i=1\/i=2\/i=3:=by lia
  rcases this with rfl|rfl|rfl|rfl
  exact ⟨0,⟨by decide,by decide⟩,rfl⟩;exact ⟨1,⟨by decide,by decide⟩,rfl⟩;exact ⟨5,⟨by decide,by decide⟩,rfl⟩;exact ⟨10006,⟨by decide,by decide⟩,rfl⟩
 have ch:∀ k:Nat,∃ n:Int,Wth n/\dN (.lst [.int 0,.int 1,.int 5,.int 10006]) (.int (drw ns (p+1+k) 4))=aa (.int n):=λk =>
  at4 _ (fE _ _ (by decide)) (fF _ _ (by decide))
 obtain ⟨g,hg⟩:=UI ch;have w0:=fE ns p (many:=4) (by decide);have w1:=fF ns p (many:=4) (by decide);refine ⟨(Qm (drw ns p 4).toNat).map g,?_,by simp;lia,λm h=>?_⟩
 ·intro x hx;simp at hx;obtain ⟨k,_,rfl⟩:=hx;exact (hg k).1
 ·rw[run_eq L.asked rfl,mC];have c1:drw ns p 4<=100000:=by lia
  have c0:-100000<=drw ns p 4:=by lia
  have he:∀ (k:Nat) (h:HH),ev (runN T G (m+2)) G Ef [aa (.p (.int k)),aa (.p (.lst (cX ns))),aa (.p (.int p))] h=aa (.p (.int (g k)),h):=λk h=>by have e:=(hg k).2;simp[-dI,Ef,dr,e]
  have cm:=comp_map (gA (λ_ h=>aa ([],h)) (ev (runN T G (m+2)) G Ef) [aa (.p (.lst (cX ns))),aa (.p (.int p))]) (λd=>match d with | .int k=>.int (g k.toNat)|_=>.non) (upto 0 (drw ns p 4).toNat) h (by
   intro d hd h;obtain ⟨k,hk,rfl⟩:=tF hd;simp[fO,he])
  have ln:(drw ns p 4).toNat<=100000:=by lia
  rw[tG] at cm;have cm':(Qm (drw ns p 4).toNat).map (λ(k:Nat)=>match D.int (k:Int) with | .int k=>D.int (g k.toNat)|_=>.non)=cX ((Qm (drw ns p 4).toNat).map g):=by simp[cX,Function.comp_def]
  rw[cm'] at cm;simp[dr,c0,c1,cm,gY,ln,cY,jx]
noncomputable def A6:E:=.call "_law_row" (Z7 (.var 1) (.bin .add (.bin .add (.var 2) (.cst (.int 10))) (.bin .mul (.cst (.int 40)) (.var 0))) (.var 3))
structure Drawn (p:Pg):Prop where
 ok:Pg.ok p
 lo:1<=p.length
 hi:p.length<=9
noncomputable def jL (n:Int) (o:Op):Pg:=[.ask .a,.call 4,.say (.nam .a),.jump 0,.put (.nam .a) (.num n),.call 7,.back,.set .b (.two o (.nam .b) (.nam .a)),.back]
theorem rA (n:Int) (o:Op) (h:Wth n):Drawn (jL n o):=by refine ⟨?_,by simp[jL],by simp[jL]⟩;intro r hr;simp only[jL,Vf,Ti,or_false] at hr;rcases hr with rfl|rfl|rfl|rfl|rfl|rfl|rfl|rfl|rfl<;>simp[Rw.ok,jL,qZ,Sm.ok,Sm.size,h]
theorem n9 (L:Lw T)
 (ns:List Int) (hl:ns.length<=1000) (p:Int)
 (run1:∀ (m:Nat) (h:HH) (n:Int) (o:Op),drw ns (p+1) 4=0->n=drw ns (p+2) 9->dN (.lst [.str "add",.str "sub"]) (.int (drw ns (p+3) 2))=aa (.str o.w) →
  (∀ m q many,0 < many->∀ h,runN T G (m+2) "_law_drawn" [.p (.lst (cX ns)),.p (.int q),.p (.int many)] h=aa (.p (.int (drw ns q many)),h)) →
  runN T G (m+7) "_law_program" [.p (.lst (cX ns)),.p (.int p)] h=aa (.p (dB (jL n o)),h))
 (run2:∀ (m:Nat) (h:HH) (pg:Pg),drw ns (p+1) 4≠0->pg.length=(1+drw ns p 9).toNat →
  (∀ m q many,0 < many->∀ h,runN T G (m+2) "_law_drawn" [.p (.lst (cX ns)),.p (.int q),.p (.int many)] h=aa (.p (.int (drw ns q many)),h)) →
  (∀ h,d7 (gA (λ_ h=>aa ([],h)) (ev (runN T G (m+6)) G A6) [aa (.p (.lst (cX ns))),aa (.p (.int p)),aa (.p (.int (1+drw ns p 9)))]) 1 (upto 0 (1+drw ns p 9).toNat) h=aa (pg.map Rw.enc,h)) →
  runN T G (m+7) "_law_program" [.p (.lst (cX ns)),.p (.int p)] h=aa (.p (dB pg),h)) :
 ∃ pg:Pg,Drawn pg/\∀ (m:Nat) (h:HH),runN T G (m+7) "_law_program" [.p (.lst (cX ns)),.p (.int p)] h=aa (.p (dB pg),h):=by
 have dr:=λm q many (hm:0 < many)=>fH (G:=G) L m ns hl q many hm
 by_cases c:drw ns (p+1) 4=0
 ·have d0:=fE ns (p+3) (many:=2) (by decide);have d1:=fF ns (p+3) (many:=2) (by decide);have e0:=fE ns (p+2) (many:=9) (by decide);have e1:=fF ns (p+2) (many:=9) (by decide);have z:drw ns (p+3) 2=0\/drw ns (p+3) 2=1:=by lia
  have:∃ o:Op,dN (.lst [.str "add",.str "sub"]) (.int (drw ns (p+3) 2))=aa (.str o.w):=by
   rcases z with z|z<;>rw[z]
   exact ⟨.add,rfl⟩;exact ⟨.sub,rfl⟩
  obtain ⟨o,eo⟩:=this;exact ⟨jL (drw ns (p+2) 9) o,rA _ _ ⟨by lia,by lia⟩,λm h=>run1 m h _ o c rfl eo dr⟩
 ·have d0:=fE ns p (many:=9) (by decide);have d1:=fF ns p (many:=9) (by decide);obtain ⟨sz,hsz⟩:∃ sz:Nat,1+drw ns p 9=(sz:Int):=⟨(1+drw ns p 9).toNat,by lia⟩;have ch:∀ k:Nat,∃ r:Rw,r.ok sz/\∀ (m:Nat) (h:HH),runN T G (m+6) "_law_row" [.p (.lst (cX ns)),.p (.int (p+10+40*(k:Int))),.p (.int sz)] h=aa (.p r.enc,h) :=
   λk=>Ed L ns hl _ sz
  obtain ⟨g,hg⟩:=UI ch;refine ⟨(Qm sz).map g,⟨?_,by simp;lia,by simp;lia⟩,λm h=>run2 m h _ c (by simp;lia) dr λh=>?_⟩
  ·intro r hr;simp at hr;obtain ⟨k,_,rfl⟩:=hr;simpa using (hg k).1
  ·rw[hsz];have b:big 40=ah:=by decide
   have he:∀ (k:Nat) (h:HH),ev (runN T G (m+6)) G A6 [aa (.p (.int k)),aa (.p (.lst (cX ns))),aa (.p (.int p)),aa (.p (.int sz))] h=aa (.p (g k).enc,h):=λk h=>by have e:=(hg k).2;simp[A6,e,b]
   have cm:=comp_map (gA (λ_ h=>aa ([],h)) (ev (runN T G (m+6)) G A6) [aa (.p (.lst (cX ns))),aa (.p (.int p)),aa (.p (.int sz))]) (λd=>match d with | .int k=>(g k.toNat).enc|_=>.non) (upto 0 sz) h (by
    intro d hd h;obtain ⟨k,hk,rfl⟩:=tF hd;simp[fO,he])
   rw[tG] at cm;simp only[Sz,TM];rw[cm];rfl
end
section
noncomputable def prA:S:=(.seq (.set 3 (.tup (Z7 (.cst (.str "put")) (.tup (Z8 (.cst (.str "name")) (.cst (.str "a")))) (.tup (Z8 (.cst (.str "num")) (.call "_law_drawn" (Z7 (.var 0) (.bin .add (.var 1) (.cst (.int 2))) (.cst (.int 9))))))))) (.seq (.set 4 (.idx (.lst ai (Z8 (.cst (.str "add")) (.cst (.str "sub")))) (.call "_law_drawn" (Z7 (.var 0) (.bin .add (.var 1) (.cst (.int 3))) (.cst (.int 2)))))) (.seq (.set 5 (.tup (Z5 (.tup (Z8 (.cst (.str "ask")) (.cst (.str "a")))) (.tup (Z8 (.cst (.str "call")) (.cst (.int 4)))) (.tup (Z8 (.cst (.str "say")) (.tup (Z8 (.cst (.str "name")) (.cst (.str "a")))))) (.tup (Z8 (.cst (.str "jump")) (.cst (.int 0)))) (.var 3)))) (.ret (.bin .add (.var 5) (.tup (Z6 (.tup (Z8 (.cst (.str "call")) (.cst (.int 7)))) (.tup (Z9 (.cst (.str "back")))) (.tup (Z7 (.cst (.str "set")) (.cst (.str "b")) (.tup (Z7 (.var 4) (.tup (Z8 (.cst (.str "name")) (.cst (.str "b")))) (.tup (Z8 (.cst (.str "name")) (.cst (.str "a")))))))) (.tup (Z9 (.cst (.str "back")))))))))))
noncomputable def prB:S:=(.ret (.bi .tuple ai (Z9 (.comp ai .rng1 (Z9 (.var 2)) ["_law_k"] [(0,"_law_script"),(1,"_law_at"),(2,"_law_size")] .nil A6))))
theorem iA:eY=⟨["_law_script","_law_at"],["_law_script","_law_at","_law_size","_law_put","_law_sign","_law_rows"],
 (.seq (.set 2 (.bin .add (.cst (.int 1)) (.call "_law_drawn" (.cons (.var 0) (.cons (.var 1) (.cons (.cst (.int 9)) .nil))))))
 (.seq (.ife (.cmp .eq (.call "_law_drawn" (.cons (.var 0) (.cons (.bin .add (.var 1) (.cst (.int 1))) (.cons (.cst (.int 4)) .nil)))) (.cst (.int 0))) prA .nil)
 prB))⟩:=rfl
theorem tH (L:Lw T) (hP:T "_law_program"=aa eY) (ns:List Int) (hl:ns.length<=1000) (p:Int) :
 ∃ pg:Pg,Drawn pg/\∀ (m:Nat) (h:HH),runN T G (m+7) "_law_program" [.p (.lst (cX ns)),.p (.int p)] h=aa (.p (dB pg),h):=by
 refine n9 L ns hl p (λm h n o c en eo dr=>?_) (λm h pg c el dr cm=>?_)
 ·rw[run_eq hP rfl];have d:=λq many hm h=>dr (m+4) q many hm h;rw[iA];simp[-dI,prA,d,c,eo,cY,dB,jL,Rw.enc,Sm.enc,← en,Nm.w]
 ·rw[run_eq hP rfl];have d:=λq many hm h=>dr (m+4) q many hm h;have d0:=fE ns p (many:=9) (by decide);have d1:=fF ns p (many:=9) (by decide);have c0:-100000<=1+drw ns p 9:=by lia
  have c1:1+drw ns p 9<=100000:=by lia
  have c2:pg.length<=100000:=by lia
  have cm':=cm h;rw[iA];simp[-gA,prB,d,c,c0,c1,c2,cm',cY,dB,jx]
mutual
theorem kZ:∀ d:D,eqv d d=ah
 | .non=>rfl
 | .bl b=>by simp
 | .int i=>by simp
 | .str x=>by simp
 | .tup xs=>by simp[jY xs]
 | .lst xs=>by simp[jY xs]
theorem jY:∀ ds:List D,oN ds ds=ah
 | []=>rfl
 | d::r=>by simp[kZ d,jY r]
end
theorem oh (n:Nat) (xs:List Int):(cX xs).all (dok n)=ah:=by simp[cX,RG]
theorem oj (n:Nat) (xs:List Nat):(c7 xs).all (dok n)=ah:=by simp[c7,RG]
theorem ne_self (h:dok 100 x=ah):fN .ne x x=aa ai:=by rw[g7,if_pos (j8 h),kZ];rfl
@[simp] theorem HW (ds:List D):oN ds ds=ah:=jY ds
@[simp] theorem Jj (d:D):eqv d d=ah:=kZ d
@[simp] theorem Jk (x:D) (xs:List Int):eU x (.tup (cX xs))=ah:=j8 (oh 99 xs)
@[simp] theorem Jl (x:D) (xs:List Nat):eU x (.tup (c7 xs))=ah:=j8 (oj 99 xs)
@[simp] theorem LD (x:D) (xs ys:List Int):eU x (.tup [.tup (cX xs),.tup (cX ys)])=ah:=j8 (by simp[oh])
end
section
variable {T:FK->Option Fn}{G:aB->Option W}
theorem uR (x:Nm):RZ (Qd "abcdef") (Qd x.w) 0 (Qd "abcdef").length 1=[x.ix]:=by cases x<;>decide +kernel
theorem o8 (x:Nm):meD .sindex (.str "abcdef") [.str x.w]=aa (.int x.ix):=by have o:=uR x;rw[zh,o]
theorem ix0 (a:D) (r:List D):dN (.tup (a::r)) (.int 0)=aa a:=by simp
theorem ix1 (a b:D) (r:List D):dN (.tup (a::b::r)) (.int 1)=aa b:=by
 have:(1:Int) < (r.length:Int)+1+1:=by lia
 simp[this]
theorem ix2 (a b c:D) (r:List D):dN (.tup (a::b::c::r)) (.int 2)=aa c:=by
 have:(2:Int) < (r.length:Int)+1+1+1:=by lia
 simp[this]
@[simp] theorem On (st:St):qm st.enc (aa 1) (aa 3)=aa (.tup [.tup (cX st.names),.tup (cX st.cells)]):=rfl
end
theorem uS (n:Nat) (st:St):dok (n+2) st.enc=ah:=by simp[St.enc,vv,oh,oj]
theorem rB (L:List St):dok 100 (.lst (L.map St.enc))=ah:=by rw[qo,RG];intro d hd;simp at hd;obtain ⟨st,_,rfl⟩:=hd;exact uS 97 st
@[simp] theorem MO (x:D) (st:St):eU x st.enc=ah:=j8 (uS 98 st)
@[simp] theorem LF (x:D) (L:List St):eU x (.lst (L.map St.enc))=ah:=j8 (rB L)
theorem A7 (xs:List D) (n:Nat) (h:n<=xs.length):cut xs af (aa (n:Int))=xs.take n:=by
 have e1:¬ ((n:Int) < 0):=by lia
 have e2:(n:Int)<=(xs.length:Int):=by lia
 simp[cut,clip,e1,e2]
noncomputable def itr (s0:St) (p:Pg) (asked:List Int):Nat->St
 | 0=>s0| n+1=>step p asked (itr s0 p asked n)
structure Run (s0:St) (p:Pg) (asked:List Int) (most e:Nat):Prop where
 le:e<=most
 on:∀ i,i < e->over p (itr s0 p asked i)=ai
 last:e=most\/over p (itr s0 p asked e)=ah
theorem A8 (s0:St) (p:Pg) (asked:List Int):∀ (r j:Nat),∃ e,e<=r/\sts p asked r (itr s0 p asked j)=(Qm (e+1)).map (λi=>itr s0 p asked (j+i))/\(∀ i,i < e->over p (itr s0 p asked (j+i))=ai)/\(e=r\/over p (itr s0 p asked (j+e))=ah)
 | 0,j=>⟨0,P6 _,rfl,λi hi=>absurd hi (Nat.not_lt_zero _),.inl rfl⟩
 | r+1,j=>by
  rw[sts]
  by_cases c:over p (itr s0 p asked j)=ah
  ·rw[if_pos c];exact ⟨0,RC _,rfl,λi hi=>absurd hi (Nat.not_lt_zero _),.inr c⟩
  ·rw[if_neg c];obtain ⟨e,h1,h2,h3,h4⟩:=A8 s0 p asked r (j+1);have c':over p (itr s0 p asked j)=ai:=by simpa using c
   refine ⟨e+1,by lia,?_,λi hi=>?_,?_⟩
   ·show itr s0 p asked j::sts p asked r (itr s0 p asked (j+1))=_;rw[h2,Tu (n:=e+1),Qa,TM];congr 1;apply Re;intro i _;show itr s0 p asked (j+1+i)=itr s0 p asked (j+(i+1));congr 1;lia
   ·cases i with
    | zero=>exact c'
    | succ i =>
     have:=h3 i (by lia);rw[show j+(i+1)=j+1+i by lia];exact this
   ·rcases h4 with h4|h4
    exact .inl (by lia);exact .inr (by rw[show j+(e+1)=j+1+e by lia];exact h4)
theorem mP (s0:St) (p:Pg) (asked:List Int) (most:Nat):∃ e,Run s0 p asked most e/\sts p asked most s0=(Qm (e+1)).map (itr s0 p asked):=by obtain ⟨e,h1,h2,h3,h4⟩:=A8 s0 p asked most 0;refine ⟨e,⟨h1,λi hi=>by have:=h3 i hi;simpa using this,by simpa using h4⟩,?_⟩;have:sts p asked most s0=sts p asked most (itr s0 p asked 0):=rfl;rw[this,h2];apply Re;intro i _;simp
theorem At.mono {m n:Nat}{st:St} (a:At m st) (h:m<=n):At n st:=⟨a.ok,QD a.said h,a.calls⟩
theorem uT {s0:St}{p:Pg}{asked:List Int}{most e:Nat} (hp:Pg.ok p) (ha:Ask asked) (a0:At 1000 s0) (R:Run s0 p asked most e):∀ i,i<=e->At (1000+i) (itr s0 p asked i)
 | 0,_=>a0| i+1,h=>rf hp ha (uT hp ha a0 R i (by lia)) (R.on i (by lia))
structure Tp where
 p:Pg
 asked:List Int
 gap:Nat
 most:Nat
 kept:List St
 far:Nat
 front:St
 now:Nat
noncomputable def Tp.fs (t:Tp) (r:Nat):List (aB×W):=[("program",.p (dB t.p)),("asked",.p (.lst (cX t.asked))),("gap",.p (.int t.gap)),("most",.p (.int t.most)),("kept",.r r),("farthest",.p (.int t.far)),("front",.p t.front.enc),("now",.p (.int t.now))]
section
variable (t:Tp) (r:Nat)
@[simp] theorem HX:dU "program" (t.fs r)=aa (.p (dB t.p)):=by simp[Tp.fs]
@[simp] theorem LG:dU "asked" (t.fs r)=aa (.p (.lst (cX t.asked))):=by simp[Tp.fs]
@[simp] theorem Oo:dU "gap" (t.fs r)=aa (.p (.int t.gap)):=by simp[Tp.fs]
@[simp] theorem MP:dU "most" (t.fs r)=aa (.p (.int t.most)):=by simp[Tp.fs]
@[simp] theorem Eg:dU "kept" (t.fs r)=aa (.r r):=by simp[Tp.fs]
@[simp] theorem Oq:dU "farthest" (t.fs r)=aa (.p (.int t.far)):=by simp[Tp.fs]
@[simp] theorem LH:dU "front" (t.fs r)=aa (.p t.front.enc):=by simp[Tp.fs]
@[simp] theorem Os:dU "now" (t.fs r)=aa (.p (.int t.now)):=by simp[Tp.fs]
@[simp] theorem Ot:(t.fs r).length=8:=rfl
theorem Eh (v:Nat):eH "gap" (.p (.int v)) (t.fs r)=({ t with gap:=v }:Tp).fs r:=by simp[Tp.fs]
theorem A9 (r':Nat):eH "kept" (.r r') (t.fs r)=t.fs r':=by simp[Tp.fs]
theorem Ei (v:Nat):eH "farthest" (.p (.int v)) (t.fs r)=({ t with far:=v }:Tp).fs r:=by simp[Tp.fs]
theorem yj (v:St):eH "front" (.p v.enc) (t.fs r)=({ t with front:=v }:Tp).fs r:=by simp[Tp.fs]
theorem iB {m:String} (h:(["program","asked","gap","most","kept","farthest","front","now"]:List String).contains m=ai):dU m (t.fs r)=af:=by simp only[V9,List.contains_nil,Td,VH,beq_eq_false_iff_ne,ne_eq] at h;obtain ⟨h1,h2,h3,h4,h5,h6,h7,h8⟩:=h;simp[Tp.fs,h1,h2,h3,h4,h5,h6,h7,h8]
end
structure TAt (c:aB) (h:HH) (n r:Nat) (t:Tp):Prop where
 ob:oat h n=aa (c,t.fs r)
 li:lat h r=aa (t.kept.map St.enc)
theorem iL {h:HH}{n:Nat}{q:aB×List (aB×W)} (e:oat h n=aa q):n < h.length:=by
 unfold oat at e;rcases Qs n h.length with z|z
 exact z;rw[Qc z] at e;exact gZ e
theorem gy {h:HH}{n:Nat}{q:List D} (e:lat h n=aa q):n < h.length:=by
 unfold lat at e;rcases Qs n h.length with z|z
 exact z;rw[Qc z] at e;exact gZ e
theorem k8 {h:HH}{n r:Nat}{q:aB×List (aB×W)}{xs:List D} (e:oat h n=aa q) (e':lat h r=aa xs):n≠r:=by
 rintro rfl
 unfold oat at e;unfold lat at e';cases g:h[n]? with
 | none=>rw[g] at e;exact gZ e| some c=>rw[g] at e e';cases c<;>simp at e e'
theorem k9 {h:HH}{n:Nat} (hn:n < h.length) (c:Cl):oat (h.set n c) n=oO c:=by unfold oat;rw[Qw hn];rfl
theorem om {h:HH}{n i:Nat} (hn:i≠n) (c:Cl):oat (h.set n c) i=oat h i:=by unfold oat;rw[Ql (QW hn)]
theorem tK {h:HH}{n:Nat} (hn:n < h.length) (c:Cl):lat (h.set n c) n=m8 c:=by unfold lat;rw[Qw hn];rfl
theorem kC {h:HH}{n i:Nat} (hn:i≠n) (c:Cl):lat (h.set n c) i=lat h i:=by unfold lat;rw[Ql (QW hn)]
theorem oz {h h':HH}{i:Nat} (e:h'[i]?=h[i]?):lat h' i=lat h i:=by unfold lat;rw[e]
theorem lR {h h':HH}{i:Nat} (e:h'[i]?=h[i]?):oat h' i=oat h i:=by unfold oat;rw[e]
theorem wC {h g:HH}{i:Nat} (hi:i < h.length):lat (h++g) i=lat h i:=oz (PV hi)
theorem wD {h g:HH}{i:Nat} (hi:i < h.length):oat (h++g) i=oat h i:=lR (PV hi)
structure Go (c:aB) (n:Nat) (h:HH) (r:Nat) (t:Tp) (h':HH) (r':Nat) (t':Tp):Prop where
 a:TAt c h n r t
 b:TAt c h' n r' t'
 len:(h'.length=h.length/\r'=r)\/(h.length<=r')
 le:h.length<=h'.length
 fr:∀ i,i≠n->i≠r->i < h.length->h'[i]?=h[i]?
theorem Go.refl {c:aB}{n:Nat}{h:HH}{r:Nat}{t:Tp} (a:TAt c h n r t):Go c n h r t h r t:=⟨a,a,.inl ⟨rfl,rfl⟩,P6 _,λ_ _ _ _=>rfl⟩
theorem Go.trans {c:aB}{n:Nat}{h h1 h2:HH}{r r1 r2:Nat}{t t1 t2:Tp} (x:Go c n h r t h1 r1 t1) (y:Go c n h1 r1 t1 h2 r2 t2):Go c n h r t h2 r2 t2:=by
 refine ⟨x.a,y.b,?_,QD x.le y.le,λi h1 h2 h3=>?_⟩
 ·rcases x.len with ⟨a1,a2⟩|a1
  ·rcases y.len with ⟨b1,b2⟩|b1
   exact .inl ⟨b1.trans a1,b2.trans a2⟩;exact .inr (by lia)
  ·rcases y.len with ⟨b1,b2⟩|b1
   exact .inr (by lia);exact .inr (by have:=x.le;lia)
 ·have:i≠r1:=by
   rcases x.len with ⟨a1,a2⟩|a1
   rw[a2];exact h2;lia
  rw[y.fr i h1 this (by have:=x.le;lia)];exact x.fr i h1 h2 h3
theorem Go.other {c:aB}{n m:Nat}{h h':HH}{r r' s:Nat}{t t' u:Tp} (x:Go c n h r t h' r' t') (o:TAt c h m s u) (hm:m≠n) (hs:s≠r):TAt c h' m s u/\s≠r':=by
 have mr:m≠r:=k8 o.ob x.a.li;have sn:s≠n:=(k8 x.a.ob o.li).symm;refine ⟨⟨(lR (x.fr m hm mr (iL o.ob))).trans o.ob,(oz (x.fr s sn hs (gy o.li))).trans o.li⟩,?_⟩;rcases x.len with ⟨a1,a2⟩|a1
 rw[a2];exact hs;have:=gy o.li;lia
theorem kD {c:aB}{n:Nat}{h h':HH}{r r':Nat}{t t':Tp} (x:Go c n h r t h' r' t') (w:W):fin h w h'=aa (w,h'):=by
 unfold fin
 by_cases c:h'.length=h.length
 rw[if_pos c]
 ·rw[if_neg c];rw[if_neg];intro z;rcases x.len with ⟨a1,a2⟩|a1
  exact c a1
  ·have hn:=iL x.a.ob;have e:h'[n]?=h[n]?:=by have q:=Sh (l:=h') hn;rw[z] at q;exact q.symm
   have e2:oat h' n=oat h n:=lR e;rw[x.a.ob,x.b.ob] at e2;have e3:=congrArg (λq:Option (aB×List (aB×W))=>q.bind λy=>dU "kept" y.2) e2;simp only[QK,Eg,SM,W.r.injEq] at e3;have:=gy x.a.li;lia
noncomputable def iC:Fn:=⟨["thing"],["thing"], (.ret (.and (.bi .isInt ai (Z9 (.var 0))) (.not (.bi .isBool ai (Z9 (.var 0))))))⟩
noncomputable def gF:Fn:=⟨["self","program","asked","every","most"],["self","program","asked","every","most"], (.seq (.setf (.var 0) "program" (.var 1)) (.seq (.setf (.var 0) "asked" (.bi .list ai (Z9 (.var 2)))) (.seq (.setf (.var 0) "gap" (.bi .max2 ai (Z8 (.var 3) (.cst (.int 1))))) (.seq (.setf (.var 0) "most" (.bi .max2 ai (Z8 (.var 4) (.cst (.int 0))))) (.seq (.setf (.var 0) "kept" (.lst ah (Z9 (.call "begun" .nil)))) (.seq (.setf (.var 0) "farthest" (.cst (.int 0))) (.seq (.setf (.var 0) "front" (.call "begun" .nil)) (.setf (.var 0) "now" (.cst (.int 0))))))))))⟩
noncomputable def ja:Fn:=⟨["self","moment"],["self","moment","state","step"], (.seq (.ex (.meth (.var 0) "check" (Z9 (.var 1)))) (.seq (.set 2 (.idx (.fld (.var 0) "kept") (.bin .fdiv (.var 1) (.fld (.var 0) "gap")))) (.seq (.for [(3,"step")] .rng1 (Z9 (.bin .mod (.var 1) (.fld (.var 0) "gap"))) (.set 2 (.meth (.var 0) "behind" (Z9 (.var 2))))) (.ret (.var 2)))))⟩
noncomputable def iE:Fn:=⟨["self"],["self"], (.seq (.ex (.meth (.var 0) "reach" (Z9 (.fld (.var 0) "most")))) (.ret (.fld (.var 0) "farthest")))⟩
noncomputable def fR:Fn:=⟨["self","state"],["self","state"], (.ret (.call "stepped" (Z7 (.fld (.var 0) "program") (.fld (.var 0) "asked") (.var 1))))⟩
noncomputable def eS:Fn:=⟨["self","moment","state"],["self","moment","state"], (.ret (.or (.cmp .ge (.var 1) (.fld (.var 0) "most")) (.call "is_over" (Z8 (.fld (.var 0) "program") (.var 2)))))⟩
noncomputable def fS:Fn:=⟨["self","state"],["self","state"], (.seq (.ex (.me .append (.fld (.var 0) "kept") (Z9 (.var 1)))) (.ife (.cmp .gt (.bi .len ai (Z9 (.fld (.var 0) "kept"))) (.glo "MOST_MARKS")) (.seq (.setf (.var 0) "kept" (.stp ah 2 (.fld (.var 0) "kept"))) (.augf (.var 0) "gap" .mul (.cst (.int 2)))) .nil))⟩
noncomputable def gf:Fn:=⟨["self","moment"],["self","moment"], (.whl (.and (.cmp .lt (.fld (.var 0) "farthest") (.var 1)) (.not (.meth (.var 0) "is_last" (Z8 (.fld (.var 0) "farthest") (.fld (.var 0) "front"))))) (.seq (.setf (.var 0) "front" (.meth (.var 0) "behind" (Z9 (.fld (.var 0) "front")))) (.seq (.augf (.var 0) "farthest" .add (.cst (.int 1))) (.ife (.cmp .eq (.bin .mod (.fld (.var 0) "farthest") (.fld (.var 0) "gap")) (.cst (.int 0))) (.ex (.meth (.var 0) "keep" (Z9 (.fld (.var 0) "front")))) .nil))))⟩
noncomputable def iF:Fn:=⟨["self","moment"],["self","moment"], (.seq (.ife (.or (.not (.call "is_whole" (Z9 (.var 1)))) (.or (.cmp .lt (.var 1) (.cst (.int 0))) (.cmp .gt (.var 1) (.fld (.var 0) "most")))) (.ret (.cst (.bl ai))) .nil) (.seq (.ex (.meth (.var 0) "reach" (Z9 (.var 1)))) (.ret (.cmp .le (.var 1) (.fld (.var 0) "farthest")))))⟩
noncomputable def gh:Fn:=⟨["self","moment"],["self","moment"], (.ife (.not (.meth (.var 0) "has" (Z9 (.var 1)))) .bad .nil)⟩
structure TpP (c:aB) (T:FK->Option Fn) (G:aB->Option W):Prop where
 prg:Prg T G
 is_whole:T "is_whole"=aa iC
 behind:T (.m c "behind")=aa fR
 is_last:T (.m c "is_last")=aa eS
 keep:T (.m c "keep")=aa fS
 reach:T (.m c "reach")=aa gf
 has:T (.m c "has")=aa iF
 check:T (.m c "check")=aa gh
 at_:T (.m c "at")=aa ja
 MOST_MARKS:G "MOST_MARKS"=aa (.p (.int 8))
section
variable {c:aB}{T:FK->Option Fn}{G:aB->Option W}
theorem jb (P:TpP c T G) (k:Nat) (i:Int) (h:HH):runN T G (k+1) "is_whole" [.p (.int i)] h=aa (.p (.bl ah),h):=by rw[run_eq P.is_whole rfl];simp[iC,cY]
theorem oA (P:TpP c T G) (k:Nat) {n r:Nat}{t:Tp}{h:HH} (a:TAt c h n r t) (hp:Pg.ok t.p) {st:St} (hj:j<=5000) (at_:At j st) (hb:over t.p st=ai):runN T G (k+7) (.m c "behind") [.o n,.p st.enc] h=aa (.p (step t.p t.asked st).enc,h):=by rw[run_eq P.behind rfl];have s:=jK P.prg k t.p hp t.asked st at_.ok (at_.small hj) hb;simp[fR,a.ob,s,cY]
theorem tL (P:TpP c T G) (k:Nat) {n r:Nat}{t:Tp}{h:HH} (a:TAt c h n r t) (mo:Nat) (st:St):runN T G (k+2) (.m c "is_last") [.o n,.p (.int mo),.p st.enc] h=aa (.p (.bl (decide (t.most<=mo)||over t.p st)),h):=by
 rw[run_eq P.is_last rfl];have o:=iz P.prg k t.p st
 by_cases cc:t.most<=mo
 ·have c1:(t.most:Int)<=(mo:Int):=by lia
  simp[eS,a.ob,cc,c1,cY]
 ·have c1:¬ (t.most:Int)<=(mo:Int):=by lia
  simp[eS,a.ob,o,cc,c1,cY]
theorem Ba:Tw (Qz af af (aa 2) 9).1 (Qz af af (aa 2) 9).2.1 (Qz af af (aa 2) 9).2.2=[0,2,4,6,8]:=by decide +kernel
theorem HY (x0 x1 x2 x3 x4 x5 x6 x7 x8:D):lZ 2 [x0,x1,x2,x3,x4,x5,x6,x7,x8]=[x0,x2,x4,x6,x8]:=by show (Tw (Qz af af (aa 2) 9).1 (Qz af af (aa 2) 9).2.1 (Qz af af (aa 2) 9).2.2).filterMap _=_;rw[Ba];rfl
noncomputable def Tp.keep (t:Tp) (st:St):Tp:=if t.kept.length < 8 then { t with kept:=t.kept++[st] } else { t with kept:=(Qm 5).filterMap λi=>(t.kept++[st])[2*i]?,gap:=2*t.gap }
theorem Bb (P:TpP c T G) (k:Nat) {n r:Nat}{t:Tp}{h:HH} (a:TAt c h n r t) (hg:t.gap<=100000) (hl:t.kept.length<=8) (st:St) :
 ∃ h' r',runN T G (k+1) (.m c "keep") [.o n,.p st.enc] h=aa (.p .non,h')/\Go c n h r t h' r' (t.keep st):=by
 have nr:=k8 a.ob a.li;have hn:=iL a.ob;have hr:=gy a.li;have e1:lat (h.set r (Cl.l (t.kept.map St.enc++[st.enc]))) r=aa (t.kept.map St.enc++[st.enc]):=tK hr _;have e2:oat (h.set r (Cl.l (t.kept.map St.enc++[st.enc]))) n=aa (c,t.fs r):=(om nr _).trans a.ob;have l0:t.kept.length < 100000:=by lia
 by_cases cc:t.kept.length < 8
 ·have c1:¬ (8:Int) < (t.kept.length:Int)+1:=by lia
  have go:Go c n h r t (h.set r (Cl.l (t.kept.map St.enc++[st.enc]))) r (t.keep st):=by refine ⟨a,⟨?_,?_⟩,.inl ⟨by simp,rfl⟩,by simp,λi h1 h2 h3=>Ql (QW h2)⟩;rw[Tp.keep,if_pos cc];exact e2;rw[Tp.keep,if_pos cc,e1];simp
  refine ⟨_,r,?_,go⟩;rw[run_eq P.keep rfl];have f:=kD go (.p .non);simp[fS,a.ob,a.li,e1,e2,P.MOST_MARKS,rd,c1,l0,f]
 ·have c8:t.kept.length=8:=by lia
  obtain ⟨x0,x1,x2,x3,x4,x5,x6,x7,ek⟩:∃ x0 x1 x2 x3 x4 x5 x6 x7,t.kept=[x0,x1,x2,x3,x4,x5,x6,x7]:=by
   match t.kept,c8 with
   | [x0,x1,x2,x3,x4,x5,x6,x7],_=>exact ⟨x0,x1,x2,x3,x4,x5,x6,x7,rfl⟩
  have ev:lZ 2 (t.kept.map St.enc++[st.enc])=((t.keep st).kept).map St.enc:=by rw[Tp.keep,if_neg cc,ek];exact HY _ _ _ _ _ _ _ _ _
  have c1:(8:Int) < (t.kept.length:Int)+1:=by lia
  have e3:∀ g:HH,oat ((h.set r (Cl.l (t.kept.map St.enc++[st.enc])))++g) n=aa (c,t.fs r):=λg=>(wD (by simpa using hn)).trans e2;have e4:(h.set r (Cl.l (t.kept.map St.enc++[st.enc]))).length=h.length:=by simp
  have b0:big (t.gap:Int)=ah:=by unfold big;exact decide_eq_true (by lia)
  have go:Go c n h r t ((h.set r (Cl.l (t.kept.map St.enc++[st.enc]))++[Cl.l ((t.keep st).kept.map St.enc)]).set n (.o c ((t.keep st).fs h.length))) h.length (t.keep st):=by
   have hn2:n < (h.set r (Cl.l (t.kept.map St.enc++[st.enc]))++[Cl.l ((t.keep st).kept.map St.enc)]).length:=by simp;lia
   refine ⟨a,⟨k9 hn2 _,?_⟩,.inr (P6 _),by simp,λi h1 h2 h3=>?_⟩
   ·rw[kC (QW (Qu hn))];have:=Om (h.set r (Cl.l (t.kept.map St.enc++[st.enc]))) (Cl.l ((t.keep st).kept.map St.enc)) [];rw[e4] at this;exact this
   rw[Ql (QW h1),PV (by simpa using h3),Ql (QW h2)]
  refine ⟨_,_,?_,go⟩;rw[run_eq P.keep rfl];have f:=kD go (.p .non);have k2:(t.keep st).fs h.length=({ t with gap:=2*t.gap }:Tp).fs h.length:=by rw[Tp.keep,if_neg cc];rfl
  have pk:eH "gap" (.p (.int ((t.gap:Int)*2))) (t.fs h.length)=(t.keep st).fs h.length:=by rw[k2,← Eh t h.length (2*t.gap)];congr 3;show (t.gap:Int)*2=((2*t.gap:Nat):Int);lia
  have hn2:n < (h.set r (Cl.l (t.kept.map St.enc++[st.enc]))++[Cl.l ((t.keep st).kept.map St.enc)]).length:=by simp;lia
  have e5:=k9 hn2 (.o c (t.fs h.length));rw[Gg] at e5;have s2:∀ x y:Cl,((h.set r (Cl.l (t.kept.map St.enc++[st.enc]))++[Cl.l ((t.keep st).kept.map St.enc)]).set n x).set n y=(h.set r (Cl.l (t.kept.map St.enc++[st.enc]))++[Cl.l ((t.keep st).kept.map St.enc)]).set n y:=λx y=>by rw[Vv]
  simp[fS,a.ob,a.li,e1,e2,e3,e4,P.MOST_MARKS,rd,c1,l0,ev,A9,e5,b0,pk,s2,f]
end
structure TI (s0:St) (t:Tp) (e gv:Nat):Prop where
 run:Run s0 t.p t.asked t.most e
 ok:Pg.ok t.p
 ask:Ask t.asked
 a0:At 1000 s0
 g0:0 < t.gap
 g1:t.gap<=1000
 m1:t.most<=1000
 far:t.far<=e
 front:t.front=itr s0 t.p t.asked t.far
 len:t.kept.length=t.far / t.gap+1
 l8:t.kept.length<=8
 kept:∀ j,j < t.kept.length->t.kept[j]?=aa (itr s0 t.p t.asked (j*t.gap))
 now:t.now<=t.far
 pw:∃ j,t.gap=gv*2 ^ j/\(0 < j->8<=t.far / (t.gap / 2))
structure Sm8 (t t':Tp):Prop where
 p:t'.p=t.p
 asked:t'.asked=t.asked
 most:t'.most=t.most
 now:t'.now=t.now
theorem Sm8.refl (t:Tp):Sm8 t t:=⟨rfl,rfl,rfl,rfl⟩
theorem Sm8.trans {t u v:Tp} (x:Sm8 t u) (y:Sm8 u v):Sm8 t v:=⟨y.p.trans x.p,y.asked.trans x.asked,y.most.trans x.most,y.now.trans x.now⟩
noncomputable def Tp.on (t:Tp):Tp:={ t with front:=step t.p t.asked t.front,far:=t.far+1 }
noncomputable def Tp.nx (t:Tp):Tp:=if (t.far+1) % t.gap=0 then t.on.keep t.on.front else t.on
theorem Bc {f g:Nat} (hg:0 < g) (c:¬ (f+1) % g=0):(f+1) / g=f / g:=by
 have h1:=UV f g;have h2:f % g < g:=Nat.mod_lt _ hg;have e:f+1=g*(f / g)+(f % g+1):=by lia
 have h3:f % g+1 < g:=by
  rcases Qs (f % g+1) g with z|z
  exact z
  ·exfalso;apply c;have:f % g+1=g:=by lia
   rw[e,this,Nat.mul_add_mod,Nat.mod_self]
 rw[e,Nat.mul_add_div hg,Nat.div_eq_of_lt h3];lia
theorem Bd {f g:Nat} (hg:0 < g) (c:(f+1) % g=0):(f+1) / g=f / g+1/\(f / g+1)*g=f+1:=by
 have h1:=UV f g;have h2:f % g < g:=Nat.mod_lt _ hg;have h3:f % g+1=g:=by
  rcases Qs (f % g+1) g with z|z
  ·exfalso;have e:f+1=g*(f / g)+(f % g+1):=by lia
   rw[e,Nat.mul_add_mod,Nat.mod_eq_of_lt z] at c;lia
  lia
 have e:f+1=(f / g+1)*g:=by rw[Nat.add_mul,Sj (f / g) g];lia
 exact ⟨by rw[e,Uk _ hg],e.symm⟩
theorem TI.nx {s0:St}{t:Tp}{e gv:Nat} (I:TI s0 t e gv) (h:t.far < e):TI s0 t.nx e gv/\Sm8 t t.nx/\t.nx.far=t.far+1:=by
 have g0:=I.g0;have hf:step t.p t.asked t.front=itr s0 t.p t.asked (t.far+1):=by rw[I.front];rfl
 have mono:∀ g:Nat,t.far / g<=(t.far+1) / g:=λg=>VP (Sx _);unfold Tp.nx
 by_cases c:(t.far+1) % t.gap=0
 ·rw[if_pos c];obtain ⟨d1,d2⟩:=Bd g0 c;have hfr:t.on.front=itr s0 t.p t.asked (t.far+1):=hf;have kp:∀ j,j < t.kept.length+1->(t.kept++[itr s0 t.p t.asked (t.far+1)])[j]?=aa (itr s0 t.p t.asked (j*t.gap)):=λj hj=>by
   rcases Qs j t.kept.length with z|z
   rw[PV z];exact I.kept j z
   ·have ej:j=t.kept.length:=by lia
    subst ej;rw[QB (P6 _),VE];have:t.kept.length*t.gap=t.far+1:=by rw[I.len];exact d2
    rw[this];rfl
  unfold Tp.keep
  by_cases c2:t.kept.length < 8
  ·have c2':t.on.kept.length < 8:=c2;rw[if_pos c2'];refine ⟨⟨I.run,I.ok,I.ask,I.a0,g0,I.g1,I.m1,h,hf,?_,?_,λj hj=>?_,?_,?_⟩,⟨rfl,rfl,rfl,rfl⟩,rfl⟩
   ·show (t.kept++[t.on.front]).length=(t.far+1) / t.gap+1;rw[d1,Qk,I.len];rfl
   ·show (t.kept++[t.on.front]).length<=8;rw[Qk];simp;lia
   ·have hj':j < t.kept.length+1:=by
     have:(t.kept++[t.on.front]).length=t.kept.length+1:=by simp
     rw[← this];exact hj
    show (t.kept++[t.on.front])[j]?=aa (itr s0 t.p t.asked (j*t.gap));rw[hfr];exact kp j hj'
   show t.now<=t.far+1;have:=I.now;lia
   ·obtain ⟨j,h1,h2⟩:=I.pw;exact ⟨j,h1,λhj=>QD (h2 hj) (mono _)⟩
  ·have c2':¬ t.on.kept.length < 8:=c2;rw[if_neg c2'];have l8:t.kept.length=8:=by have:=I.l8;lia
   have f8:t.far+1=8*t.gap:=by rw[← d2,← I.len,l8]
   have le:=I.run.le;have m1:=I.m1;have hk:∀ i,i < 5->(t.kept++[itr s0 t.p t.asked (t.far+1)])[2*i]?=aa (itr s0 t.p t.asked (i*(2*t.gap))):=λi hi=>by rw[kp (2*i) (by lia)];congr 2;rw[Sj 2 i,Nat.mul_assoc]
   have ek:(Qm 5).filterMap (λi=>(t.kept++[t.on.front])[2*i]?)=(Qm 5).map λi=>itr s0 t.p t.asked (i*(2*t.gap)):=by rw[hfr,show Qm 5=[0,1,2,3,4] from rfl];simp only[Qv,List.filterMap_nil,hk 0 (by decide),hk 1 (by decide),hk 2 (by decide),hk 3 (by decide),hk 4 (by decide),Qa,QL]
   have dv:(t.far+1) / (2*t.gap)=4:=by rw[f8,show 8*t.gap=4*(2*t.gap) by lia];exact Uk _ (by lia)
   refine ⟨⟨I.run,I.ok,I.ask,I.a0,?_,?_,I.m1,h,hf,?_,?_,λj hj=>?_,?_,?_⟩,⟨rfl,rfl,rfl,rfl⟩,rfl⟩;show 0 < 2*t.gap;lia;show 2*t.gap<=1000;lia
   ·show ((Qm 5).filterMap λi=>(t.kept++[t.on.front])[2*i]?).length=(t.far+1) / (2*t.gap)+1;rw[ek,dv];simp
   ·show ((Qm 5).filterMap λi=>(t.kept++[t.on.front])[2*i]?).length<=8;rw[ek];simp
   ·have hj':j < 5:=by have q:j < ((Qm 5).filterMap λi=>(t.kept++[t.on.front])[2*i]?).length:=hj;rw[ek] at q;simpa using q
    show ((Qm 5).filterMap λi=>(t.kept++[t.on.front])[2*i]?)[j]?=aa (itr s0 t.p t.asked (j*(2*t.gap)));rw[ek,Qj,T4 hj'];rfl
   show t.now<=t.far+1;have:=I.now;lia
   ·obtain ⟨j,h1,h2⟩:=I.pw;refine ⟨j+1,?_,λ_=>?_⟩
    ·show 2*t.gap=gv*2 ^ (j+1);rw[h1,Nat.pow_succ];rw[Sj 2,Nat.mul_assoc]
    ·show 8<=(t.far+1) / (2*t.gap / 2);rw[Nat.mul_div_cancel_left _ (by lia:0 < 2),f8,Uk _ g0];exact P6 _
 ·rw[if_neg c];refine ⟨⟨I.run,I.ok,I.ask,I.a0,g0,I.g1,I.m1,h,hf,?_,I.l8,I.kept,?_,?_⟩,⟨rfl,rfl,rfl,rfl⟩,rfl⟩
  ·show t.kept.length=(t.far+1) / t.gap+1;rw[I.len,Bc g0 c]
  show t.now<=t.far+1;have:=I.now;lia
  ·obtain ⟨j,h1,h2⟩:=I.pw;exact ⟨j,h1,λhj=>QD (h2 hj) (mono _)⟩
section
variable {c:aB}{s0:St}{T:FK->Option Fn}{G:aB->Option W}
noncomputable def rcC:E:=(.and (.cmp .lt (.fld (.var 0) "farthest") (.var 1)) (.not (.meth (.var 0) "is_last" (Z8 (.fld (.var 0) "farthest") (.fld (.var 0) "front")))))
noncomputable def rcB:S:=(.seq (.setf (.var 0) "front" (.meth (.var 0) "behind" (Z9 (.fld (.var 0) "front")))) (.seq (.augf (.var 0) "farthest" .add (.cst (.int 1))) (.ife (.cmp .eq (.bin .mod (.fld (.var 0) "farthest") (.fld (.var 0) "gap")) (.cst (.int 0))) (.ex (.meth (.var 0) "keep" (Z9 (.fld (.var 0) "front")))) .nil)))
theorem pY (t:Tp) (r:Nat):dU "is_last" (t.fs r)=af:=iB t r rfl
theorem tM (t:Tp) (r:Nat):dU "behind" (t.fs r)=af:=iB t r rfl
theorem HZ (t:Tp) (r:Nat):dU "keep" (t.fs r)=af:=iB t r rfl
theorem wF (t:Tp) (r:Nat):dU "reach" (t.fs r)=af:=iB t r rfl
theorem Fq (t:Tp) (r:Nat):dU "has" (t.fs r)=af:=iB t r rfl
theorem Ej (t:Tp) (r:Nat):dU "check" (t.fs r)=af:=iB t r rfl
theorem Ou (t:Tp) (r:Nat):dU "at" (t.fs r)=af:=iB t r rfl
theorem LJ (t:Tp) (r:Nat):dU "end" (t.fs r)=af:=iB t r rfl
theorem LK {n r:Nat}{t:Tp}{h:HH} (a:TAt c h n r t) (t':Tp) (k:t'.kept=t.kept):Go c n h r t (h.set n (.o c (t'.fs r))) r t':=by have hn:=iL a.ob;have nr:=k8 a.ob a.li;exact ⟨a,⟨k9 hn _,by rw[kC (QW nr),k];exact a.li⟩,.inl ⟨by simp,rfl⟩,by simp,λi h1 _ _=>Ql (QW h1)⟩
theorem Ek (P:TpP c T G) (k:Nat) {n r:Nat}{t:Tp}{h:HH}{e:Nat} (a:TAt c h n r t) (I:TI s0 t e gv) (hl:t.far < e) (w:W) :
 ∃ h' r',evS (runN T G (k+7)) G rcB [aa (.o n),aa w] h=aa (.nx [aa (.o n),aa w] h')/\Go c n h r t h' r' t.nx:=by
 have hn:=iL a.ob;have atf:=uT I.ok I.ask I.a0 I.run t.far (by lia);have le:=I.run.le;have m1:=I.m1;have bh:=oA P k a I.ok (j:=1000+t.far) (st:=t.front) (by lia) (by rw[I.front];exact atf) (by rw[I.front];exact I.run.on _ hl);have go1:=LK a t.on rfl;have e1:oat (h.set n (.o c (({ t with front:=step t.p t.asked t.front }:Tp).fs r))) n=aa (c,({ t with front:=step t.p t.asked t.front }:Tp).fs r):=k9 hn _;have pf:=yj t r (step t.p t.asked t.front);have pa:eH "farthest" (.p (.int ((t.far:Int)+1))) (({ t with front:=step t.p t.asked t.front }:Tp).fs r)=t.on.fs r:=Ei ({ t with front:=step t.p t.asked t.front }:Tp) r (t.far+1);have e2:oat (h.set n (.o c (t.on.fs r))) n=aa (c,t.on.fs r):=k9 hn _;have g0:(0:Int) < (t.gap:Int):=by have:=I.g0;lia
 have s2:∀ x y:Cl,(h.set n x).set n y=h.set n y:=λx y=>by rw[Vv]
 have of:t.on.far=t.far+1:=rfl;have og:t.on.gap=t.gap:=rfl;have pre:evS (runN T G (k+7)) G rcB [aa (.o n),aa w] h=evS (runN T G (k+7)) G (.ife (.cmp .eq (.bin .mod (.fld (.var 0) "farthest") (.fld (.var 0) "gap")) (.cst (.int 0))) (.ex (.meth (.var 0) "keep" (.cons (.fld (.var 0) "front") .nil))) .nil) [aa (.o n),aa w] (h.set n (.o c (t.on.fs r))):=by rw[rcB];simp[a.ob,bh,tM,pf,e1,pa,s2]
 rw[pre];unfold Tp.nx;have cm:(((t.far+1) % t.gap:Nat):Int)=((t.far:Int)+1) % (t.gap:Int):=by simp
 by_cases cc:(t.far+1) % t.gap=0
 ·rw[if_pos cc];have c1:((t.far:Int)+1) % (t.gap:Int)=0:=by lia
  obtain ⟨h2,r2,k1,k2⟩:=Bb P (k+6) go1.b (by show t.gap<=100000;have:=I.g1;lia) (by show t.kept.length<=8;exact I.l8) t.on.front;refine ⟨h2,r2,?_,go1.trans k2⟩;simp[e2,of,og,g0,I.g0,c1,HZ,k1]
 ·rw[if_neg cc];have c1:¬ ((t.far:Int)+1) % (t.gap:Int)=0:=by lia
  refine ⟨_,r,?_,go1⟩;have c2:(((t.far:Int)+1) % (t.gap:Int)==0)=ai:=by simpa using c1
  simp[e2,of,og,g0,I.g0,c2]
theorem rC (P:TpP c T G) (k:Nat) {n r:Nat}{t:Tp}{h:HH}{e:Nat} (a:TAt c h n r t) (I:TI s0 t e gv) (m:Nat) :
 BT.ev (runN T G (k+7)) G rcC [aa (.o n),aa (.p (.int m))] h=aa (.p (.bl (decide (t.far < min m e))),h):=by
 have il:=tL P (k+5) a t.far t.front;have le:=I.run.le
 by_cases cc:t.far < m
 ·have c1:(t.far:Int) < (m:Int):=by lia
  by_cases c2:t.far < e
  ·have o:over t.p t.front=ai:=by rw[I.front];exact I.run.on _ c2
   have q:(decide (t.most<=t.far)||over t.p t.front)=ai:=by rw[o,Td];exact decide_eq_false (by lia)
   rw[q] at il;have d:decide (t.far < min m e)=ah:=decide_eq_true (by lia);rw[d];simp[rcC,a.ob,c1,cc,pY,il]
  ·have fe:t.far=e:=by have:=I.far;lia
   have q:(decide (t.most<=t.far)||over t.p t.front)=ah:=by
    rcases I.run.last with z|z
    rw[decide_eq_true (by lia)];rfl;rw[I.front,fe,z,Bool.or_true]
   rw[q] at il;have d:decide (t.far < min m e)=ai:=decide_eq_false (by lia);rw[d];simp[rcC,a.ob,c1,cc,pY,il]
 ·have c1:¬ (t.far:Int) < (m:Int):=by lia
  have d:decide (t.far < min m e)=ai:=decide_eq_false (by lia);rw[d];simp[rcC,a.ob,c1,cc]
theorem El (P:TpP c T G) (k:Nat) (n:Nat) (e gv m:Nat):∀ (d f:Nat) (h:HH) (r:Nat) (t:Tp),TAt c h n r t->TI s0 t e gv->min m e - t.far<=d->d<=f →
 ∃ h' r' t',eg (BT.ev (runN T G (k+7)) G rcC) (evS (runN T G (k+7)) G rcB) (f+1) [aa (.o n),aa (.p (.int m))] h=aa (.nx [aa (.o n),aa (.p (.int m))] h')/\Go c n h r t h' r' t'/\TI s0 t' e gv/\Sm8 t t'/\t'.far=max t.far (min m e):=by
 intro d
 induction d with
 | zero =>
  intro f h r t a I hd hf;have q:=rC P k a I m;rw[decide_eq_false (by lia)] at q;refine ⟨h,r,t,?_,.refl a,I,.refl t,by lia⟩;rw[eg,q,iJ,nF]
 | succ d ih =>
  intro f h r t a I hd hf
  by_cases cc:t.far < min m e
  ·have q:=rC P k a I m;rw[decide_eq_true cc] at q;obtain ⟨h1,r1,b1,g1⟩:=Ek P k a I (by lia) (.p (.int m));obtain ⟨I1,s1,f1⟩:=I.nx (by lia);cases f with
   | zero=>lia
   | succ f =>
    obtain ⟨h2,r2,t2,b2,g2,I2,s2,f2⟩:=ih f h1 r1 t.nx g1.b I1 (by lia) (by lia);refine ⟨h2,r2,t2,?_,g1.trans g2,I2,s1.trans s2,by lia⟩;rw[eg,q,iJ,kj,b1,gk,b2]
  ·have q:=rC P k a I m;rw[decide_eq_false cc] at q;refine ⟨h,r,t,?_,.refl a,I,.refl t,by lia⟩;rw[eg,q,iJ,nF]
theorem tN:gf=⟨["self","moment"],["self","moment"],.whl rcC rcB⟩:=rfl
inductive yk {α:Type} (c:aB) (s0:St) (x:Option (α×HH)) (y:α) (n:Nat) (h:HH) (r:Nat) (t:Tp) (e gv f:Nat):Prop where
 | mk (h':HH) (r':Nat) (t':Tp) (q:x=aa (y,h')) (g:Go c n h r t h' r' t') (i:TI s0 t' e gv) (m:Sm8 t t') (a:t'.far=f):yk c s0 x y n h r t e gv f
theorem pZ (P:TpP c T G) (k:Nat) {n r:Nat}{t:Tp}{h:HH}{e:Nat} (a:TAt c h n r t) (I:TI s0 t e gv) (m:Nat) :
 yk c s0 (runN T G (k+8) (.m c "reach") [.o n,.p (.int m)] h) (.p .non) n h r t e gv (max t.far (min m e)):=by
 have le:=I.run.le;have m1:=I.m1;obtain ⟨h',r',t',b,g,I',s,f⟩:=El P k n e gv m 99999 99999 h r t a I (by lia) (P6 _);refine ⟨h',r',t',?_,g,I',s,f⟩;rw[run_eq P.reach rfl,tN];have fn:=kD g (.p .non);simp[turns,b,fn]
theorem wG (P:TpP c T G) (k:Nat) {n r:Nat}{t:Tp}{h:HH}{e:Nat} (a:TAt c h n r t) (I:TI s0 t e gv) (m:Nat) (hm:m<=t.most) :
 yk c s0 (runN T G (k+9) (.m c "has") [.o n,.p (.int m)] h) (.p (.bl (decide (m<=e)))) n h r t e gv (max t.far (min m e)):=by
 obtain ⟨h',r',t',b,g,I',s,f⟩:=pZ P k a I m;refine ⟨h',r',t',?_,g,I',s,f⟩;rw[run_eq P.has rfl];have w:=jb P (k+7) m;have c1:¬ ((m:Int) < 0):=by lia
 have c2:¬ ((t.most:Int) < (m:Int)):=by lia
 have fn:=λw=>kD g w;have far:=I.far;have d:decide ((m:Int)<=(t'.far:Int))=decide (m<=e):=by
  by_cases cc:m<=e
  rw[decide_eq_true cc];exact decide_eq_true (by lia);rw[decide_eq_false cc];exact decide_eq_false (by lia)
 simp[iF,w,c1,a.ob,c2,wF,b,g.b.ob,fn];simpa using d
theorem yl (P:TpP c T G) (k:Nat) {n r:Nat}{t:Tp}{h:HH}{e:Nat} (a:TAt c h n r t) (I:TI s0 t e gv) (m:Nat) (hm:m<=e) :
 yk c s0 (runN T G (k+10) (.m c "check") [.o n,.p (.int m)] h) (.p .non) n h r t e gv (max t.far m):=by
 obtain ⟨h',r',t',b,g,I',s,f⟩:=wG P k a I m (QD hm I.run.le);rw[decide_eq_true hm] at b;refine ⟨h',r',t',?_,g,I',s,by lia⟩;rw[run_eq P.check rfl];have fn:=kD g (.p .non);simp[gh,a.ob,Fq,b,fn]
noncomputable def atB:S:=(.set 2 (.meth (.var 0) "behind" (Z9 (.var 2))))
theorem wH (P:TpP c T G) (k:Nat) {n r:Nat}{t:Tp}{h:HH}{e gv:Nat} (a:TAt c h n r t) (I:TI s0 t e gv) (w1:W):∀ (q j:Nat) (x:Option W) (lo:Int),j+q<=e →
 ∃ x',gB (evS (runN T G (k+7)) G atB) [(3,"step")] (upto lo q) [aa (.o n),aa w1,aa (.p (itr s0 t.p t.asked j).enc),x] h=aa (.nx [aa (.o n),aa w1,aa (.p (itr s0 t.p t.asked (j+q)).enc),x'] h)
 | 0,j,x,lo,_=>⟨x,rfl⟩
 | q+1,j,x,lo,hj=>by
  have le:=I.run.le;have m1:=I.m1;obtain ⟨x',b⟩:=wH P k a I w1 q (j+1) (aa (.p (.int lo))) (lo+1) (by lia);refine ⟨x',?_⟩;have bh:=oA P k a I.ok (j:=1000+j) (st:=itr s0 t.p t.asked j) (by lia) (uT I.ok I.ask I.a0 I.run j (by lia)) (I.run.on j (by lia));have up:upto lo (q+1)=.int lo::upto (lo+1) q:=by unfold upto;rw[Tu,Qa,TM];simp only[Int.natCast_zero,Int.add_zero,SD,true_and];apply Re;intro i _;simp;lia
  rw[up];have s1:step t.p t.asked (itr s0 t.p t.asked j)=itr s0 t.p t.asked (j+1):=rfl;rw[s1] at bh;have ej:j+1+q=j+(q+1):=by lia
  rw[ej] at b;have hb:evS (runN T G (k+7)) G atB [aa (.o n),aa w1,aa (.p (itr s0 t.p t.asked j).enc),aa (.p (.int lo))] h=aa (.nx [aa (.o n),aa w1,aa (.p (itr s0 t.p t.asked (j+1)).enc),aa (.p (.int lo))] h):=by simp[atB,a.ob,tM,bh]
  simp[hb,b]
theorem Be:ja=⟨["self","moment"],["self","moment","state","step"],(.seq (.ex (.meth (.var 0) "check" (.cons (.var 1) .nil)))
 (.seq (.set 2 (.idx (.fld (.var 0) "kept") (.bin .fdiv (.var 1) (.fld (.var 0) "gap"))))
 (.seq (.for [(3,"step")] .rng1 (.cons (.bin .mod (.var 1) (.fld (.var 0) "gap")) .nil) atB)
 (.ret (.var 2)))))⟩:=rfl
theorem Ia (P:TpP c T G) (k:Nat) {n r:Nat}{t:Tp}{h:HH}{e:Nat} (a:TAt c h n r t) (I:TI s0 t e gv) (m:Nat) (hm:m<=e) :
 yk c s0 (runN T G (k+11) (.m c "at") [.o n,.p (.int m)] h) (.p (itr s0 t.p t.asked m).enc) n h r t e gv (max t.far m):=by
 obtain ⟨h',r',t',b,g,I',s,f⟩:=yl P k a I m hm;refine ⟨h',r',t',?_,g,I',s,f⟩;rw[run_eq P.at_ rfl,Be];have fn:=λw=>kD g w;have g0:=I'.g0;have g1:=I'.g1;have dm:=UV m t'.gap;have md:=Nat.mod_lt m g0;have hq:m / t'.gap < t'.kept.length:=by rw[I'.len];have:m / t'.gap<=t'.far / t'.gap:=VP (by lia);lia
 have hk:=I'.kept _ hq;have le:=I'.run.le;have m1:=I'.m1;rw[s.p,s.asked] at hk;have gz:(0:Int) < (t'.gap:Int):=by lia
 have gm:(t'.gap:Int) < 1073741824:=by lia
 have e1:(m:Int) / (t'.gap:Int)=((m / t'.gap:Nat):Int):=by simp
 have e2:(m:Int) % (t'.gap:Int)=((m % t'.gap:Nat):Int):=by simp
 have ix:dN (.lst (t'.kept.map St.enc)) (.int ((m / t'.gap:Nat):Int))=aa (itr s0 t.p t.asked (m / t'.gap*t'.gap)).enc:=by show atP _ _=_;rw[iy,Qj,hk];rfl
 obtain ⟨x',lp⟩:=wH P (k+3) g.b I' (.p (.int m)) (m % t'.gap) (m / t'.gap*t'.gap) af 0 (by rw[Sj];lia);rw[s.p,s.asked] at lp;have em:m / t'.gap*t'.gap+m % t'.gap=m:=by rw[Sj];exact dm
 rw[em] at lp;have rg:gP .rng1 [.int ((m % t'.gap:Nat):Int)]=aa (upto 0 (m % t'.gap)):=by
  rw[gK];have cc:((-100000<=(((m % t'.gap:Nat):Int)):Bool)&&(((m % t'.gap:Nat):Int)<=100000:Bool))=ah:=by simp only[PZ,decide_eq_true_eq];lia
  rw[if_pos cc];rfl
 simp[-dI,-gK,-Int.natCast_ediv,-Int.natCast_emod,a.ob,Ej,b,g.b.ob,g.b.li,rd,gz,g0,gm,e1,e2,ix,rg,jx,lp,fn]
structure TpM (c:aB) (T:FK->Option Fn):Prop where
 end_:T (.m c "end")=aa iE
theorem Em (P:TpP c T G) (M:TpM c T) (k:Nat) {n r:Nat}{t:Tp}{h:HH}{e:Nat} (a:TAt c h n r t) (I:TI s0 t e gv) :
 yk c s0 (runN T G (k+9) (.m c "end") [.o n] h) (.p (.int e)) n h r t e gv e:=by
 obtain ⟨h',r',t',b,g,I',s,f⟩:=pZ P k a I t.most;have le:=I.run.le;have fr:=I.far;have fe:t'.far=e:=by lia
 refine ⟨h',r',t',?_,g,I',s,fe⟩;rw[run_eq M.end_ rfl];have fn:=λw=>kD g w;simp[iE,a.ob,wF,b,g.b.ob,fe,fn]
theorem lg {h h':HH} (i:Nat) (hi:i < h.length) (ne:h'[i]?≠h[i]?) (w:W):fin h w h'=aa (w,h'):=by
 unfold fin
 by_cases c:h'.length=h.length
 rw[if_pos c]
 ·rw[if_neg c,if_neg];intro z;apply ne;have q:=Sh (l:=h') hi;rw[z] at q;exact q.symm
end
noncomputable def jc:Fn:=⟨["thing"],["thing"], (.ret (.and (.call "is_whole" (Z9 (.var 0))) (.chain .le .lt (.cst (.int 0)) (.var 0) (.glo "CELL_COUNT"))))⟩
noncomputable def eZ:Fn:=⟨["thing"],["thing"], (.ife (.and (.not (.call "is_name" (Z9 (.var 0)))) (.not (.call "is_cell" (Z9 (.var 0))))) .bad .nil)⟩
structure ThP (T:FK->Option Fn):Prop where
 is_cell:T "is_cell"=aa jc
 check:T "check_thing"=aa eZ
inductive Th where
 | nm (x:Nm)|cl (i:Nat) (h:i < 4)
noncomputable def Th.enc:Th->D
 | .nm x=>.str x.w| .cl i _=>.int i
noncomputable def Th.val (st:St):Th->Int
 | .nm x=>st.names.getD x.ix 0| .cl i _=>st.cells.getD i 0
noncomputable def fj:Fn:=⟨["state","thing","worth"],["state","thing","worth"], (.seq (.ife (.call "is_name" (Z9 (.var 1))) (.ret (.bin .add (.bin .add (.slc (.var 0) .nil (Z9 (.glo "NAMES"))) (.tup (Z9 (.call "with_name" (Z7 (.var 0) (.var 1) (.var 2)))))) (.slc (.var 0) (Z9 (.bin .add (.glo "NAMES") (.cst (.int 1)))) .nil))) .nil) (.ret (.bin .add (.bin .add (.slc (.var 0) .nil (Z9 (.glo "CELLS"))) (.tup (Z9 (.call "with_worth" (Z7 (.idx (.var 0) (.glo "CELLS")) (.var 1) (.var 2)))))) (.slc (.var 0) (Z9 (.bin .add (.glo "CELLS") (.cst (.int 1)))) .nil))))⟩
structure LdP (T:FK->Option Fn) (G:aB->Option W):Prop where
 with_thing:T "with_thing"=aa fj
noncomputable def Th.put (st:St) (v:Int):Th->St
 | .nm x=>{ st with names:=st.names.set x.ix v }| .cl i _=>{ st with cells:=st.cells.set i v }
structure Szd (st:St):Prop where
 n:st.names.length=6
 c:st.cells.length=4
theorem Szd.put {st:St} (z:Szd st) (v:Int) (th:Th):Szd (th.put st v):=by
 cases th with
 | nm x=>exact ⟨by show (st.names.set _ _).length=6;rw[QS];exact z.n,z.c⟩| cl i h=>exact ⟨z.n,by show (st.cells.set _ _).length=4;rw[QS];exact z.c⟩
theorem j5 {l:List Int}{i:Nat} (h:i < l.length) (v:Int):(l.set i v).getD i 0=v:=by rw[Q2,Qw h];rfl
theorem En {st:St} (z:Szd st) (v:Int) (th:Th):th.val (th.put st v)=v:=by
 cases th with
 | nm x=>exact j5 (by rw[z.n];exact x.pU) v| cl i h=>exact j5 (by rw[z.c];exact h) v
theorem Th.Bf {st:St} (ho:st.ok) {v:Int} (hv:Wth v) (th:Th):(th.put st v).ok:=by
 have z:=Szd.put ⟨ho.nlen,ho.clen⟩ v th;cases th with
 | nm x=>exact ⟨z.n,z.c,λy hy=>(R6 hy).elim (ho.nw y) λe=>e ▸ hv,ho.cw⟩| cl i h=>exact ⟨z.n,z.c,ho.nw,λy hy=>(R6 hy).elim (ho.cw y) λe=>e ▸ hv⟩
theorem Th.nX {st:St} (ho:st.ok) (th:Th):Wth (th.val st):=by
 cases th with
 | nm x=>exact nW ho.nw _| cl i h=>exact nW ho.cw _
theorem rD {F:FK->List W->HH->Option (W×HH)}{G:aB->Option W}{sr:Sr}{sa:Es}{tg:List aB}{fv:List (Nat×aB)}{cond:Es}{elt:E}{s:Sl}{h h1 h2:HH}{ws:List W}{ds xs:List D}{fs:Sl} (e1:evs F G sa s h=aa (ws,h1)) (e2:(rds ws h1).bind (gP sr)=aa ds) (e3:frees s fv=aa fs) (e4:jx ws=ah) (e5:d7 (gA (evs F G cond) (BT.ev F G elt) fs) tg.length ds h1=aa (xs,h2)) (e6:xs.length<=100000):BT.ev F G (.comp ai sr sa tg fv cond elt) s h=aa (.p (.lst xs),h2):=by show bnd (evs F G sa s h) (nC ai sr tg.length (frees s fv) (evs F G cond) (BT.ev F G elt))=_;rw[e1,dQ];unfold nC;rw[e2,e3];show (if jx ws=ah then _ else _)=_;rw[if_pos e4,e5,dQ];unfold iN;rw[if_pos (show xs.length<=lim from e6)];rfl
theorem Bg {α:Type} (f:List D->HH->Option (Option D×HH)) (mk:α->D) (g:α->Option D) (h:HH):∀ (l:List α),(∀ x∈l,f [mk x] h=aa (g x,h))->d7 f 1 (l.map mk) h=aa (l.filterMap g,h):=by
 intro l
 induction l with
 | nil=>intro _;rfl
 | cons x r ih =>
  intro hf;rw[Qa,d7,kK];show bnd (f [mk x] h) (zo (d7 f 1 (r.map mk)))=_;rw[hf x Qn,dQ,vA,ih λy hy=>hf y (Qe _ hy),dQ,sF,Qv];cases g x<;>rfl
theorem Ib {α:Type} (f:List D->HH->Option (Option D×HH)) (mk:α->D) (g:α->Option D) (Iv:HH->Prop):∀ (l:List α),(∀ x∈l,∀ h,Iv h->∃ h',f [mk x] h=aa (g x,h')/\Iv h')->∀ h,Iv h->∃ h',d7 f 1 (l.map mk) h=aa (l.filterMap g,h')/\Iv h':=by
 intro l
 induction l with
 | nil=>intro _ h hi;exact ⟨h,rfl,hi⟩
 | cons x r ih =>
  intro hf h hi;obtain ⟨h1,e1,i1⟩:=hf x Qn h hi;obtain ⟨h2,e2,i2⟩:=ih (λy hy=>hf y (Qe _ hy)) h1 i1;refine ⟨h2,?_,i2⟩;rw[Qa,d7,kK];show bnd (f [mk x] h) (zo (d7 f 1 (r.map mk)))=_;rw[e1,dQ,vA,e2,dQ,sF,Qv];cases g x<;>rfl
noncomputable def fT:Fn:=⟨["_law_script","_law_at"],["_law_script","_law_at"], (.ret (.idx (.lst ai (Z2 (.cst (.str "a")) (.cst (.str "b")) (.cst (.str "c")) (.cst (.str "f")) (.cst (.int 0)) (.cst (.int 1)) (.cst (.int 2)) (.cst (.int 3)))) (.call "_law_drawn" (Z7 (.var 0) (.var 1) (.cst (.int 8))))))⟩
noncomputable def jZ:Fn:=⟨["_law_state","_law_thing_here"],["_law_state","_law_thing_here"], (.seq (.ife (.bi .isStr ai (Z9 (.var 1))) (.ret (.idx (.idx (.var 0) (.cst (.int 1))) (.me .sindex (.cst (.str "abcdef")) (Z9 (.var 1))))) .nil) (.ret (.idx (.idx (.var 0) (.cst (.int 2))) (.var 1))))⟩
section
variable {c:aB}{T:FK->Option Fn}{G:aB->Option W}
theorem j6 (P:Prg T G) (k:Nat) (i:Int) (h:HH):runN T G (k+1) "is_name" [.p (.int i)] h=aa (.p (.bl ai),h):=by rw[run_eq P.is_name rfl];simp[gT,P.LETTERS,cY]
theorem tO (P:TpP c T G) (C:ThP T) (k:Nat) {i:Nat} (hi:i < 4) (h:HH):runN T G (k+2) "is_cell" [.p (.int i)] h=aa (.p (.bl ah),h):=by
 rw[run_eq C.is_cell rfl];have w:=jb P k i h;have c9:(i:Int) < 4:=by lia
 have c0:(0:Int)<=(i:Int):=by lia
 simp[jc,w,P.prg.CELL_COUNT,c9,c0,cY]
theorem mD (P:TpP c T G) (C:ThP T) (k:Nat) (th:Th) (h:HH):runN T G (k+3) "check_thing" [.p th.enc] h=aa (.p .non,h):=by
 rw[run_eq C.check rfl];cases th with
 | nm x =>
  have n:=jH P.prg (k+1) x h;simp[eZ,Th.enc,n,cY]
 | cl i hi =>
  have n:=j6 P.prg (k+1) i h;have c9:=tO P C k hi h;simp[eZ,Th.enc,n,c9,cY]
theorem oB (P:TpP c T G) (L:LdP T G) (k:Nat) {st:St} (ho:st.ok) (th:Th) (v:Int) (h:HH):runN T G (k+3) "with_thing" [.p st.enc,.p th.enc,.p (.int v)] h=aa (.p (th.put st v).enc,h):=by
 rw[run_eq L.with_thing rfl];cases th with
 | nm x =>
  have w:=iK P.prg k st ho x v h;have i:=jH P.prg (k+1) x h;rw[St.enc] at w;simp[fj,Th.enc,i,P.prg.NAMES,w,cY,St.enc,Th.put]
 | cl j hj =>
  have w:=gX P.prg (k+1) (cX st.cells) j (by rw[gY,ho.clen];exact hj) (by rw[gY,ho.clen];lia) (.int v) h;have i:=j6 P.prg (k+1) (j:Int) h;simp[fj,Th.enc,i,P.prg.NAMES,P.prg.CELLS,w,cY,St.enc,Th.put];exact (TL).symm
theorem Bh {st:St} (ho:st.ok) (x:Nm):dN (.tup (cX st.names)) (.int x.ix)=aa (.int (st.names.getD x.ix 0)):=by
 have xl:x.ix < st.names.length:=by rw[ho.nlen];exact x.pU
 rw[gw,iy];simp[cX,xl]
theorem fZ (L:Lw T) (ns:List Int) (hl:ns.length<=1000) (q many:Int) (hm:0 < many):∃ z:Nat,(z:Int) < many/\∀ k h,runN T G (k+2) "_law_drawn" [.p (.lst (cX ns)),.p (.int q),.p (.int many)] h=aa (.p (.int (z:Int)),h):=by
 have h0:=fE ns q hm;have h1:=fF ns q hm;refine ⟨(drw ns q many).toNat,by omega,λk h=>?_⟩;have:=fH (G:=G) L k ns hl q many hm h;rw[this];congr 4
 omega
theorem qa (L:Lw T) (hT:T "_law_thing"=aa fT) (ns:List Int) (hl:ns.length<=1000) (p:Int):∃ th:Th,∀ k h,runN T G (k+3) "_law_thing" [.p (.lst (cX ns)),.p (.int p)] h=aa (.p th.enc,h):=by
 obtain ⟨z,hz,dz⟩:=fZ (G:=G) L ns hl p 8 (by decide);have key:∃ th:Th,dN (.lst [.str "a",.str "b",.str "c",.str "f",.int 0,.int 1,.int 2,.int 3]) (.int (z:Int))=aa th.enc:=by
  have:z=0\/z=1\/z=2\/z=3\/z=4\/z=5\/z=6\/z=7:=by omega
  rcases this with rfl|rfl|rfl|rfl|rfl|rfl|rfl|rfl
  exact ⟨.nm .a,rfl⟩;exact ⟨.nm .b,rfl⟩;exact ⟨.nm .c,rfl⟩;exact ⟨.nm .f,rfl⟩;exact ⟨.cl 0 (by decide),rfl⟩;exact ⟨.cl 1 (by decide),rfl⟩;exact ⟨.cl 2 (by decide),rfl⟩;exact ⟨.cl 3 (by decide),rfl⟩
 obtain ⟨th,e⟩:=key;refine ⟨th,λk h=>?_⟩;rw[run_eq hT rfl];have d:=dz k h;simp[-dI,fT,d,e,cY]
theorem Bj (hT:T "_law_of"=aa jZ) {st:St} (ho:st.ok) (th:Th) (k:Nat) (h:HH):runN T G (k+1) "_law_of" [.p st.enc,.p th.enc] h=aa (.p (.int (th.val st)),h):=by
 cases th with
 | nm x =>
  have e:=o8 x;have q:=Bh ho x;refine uN hT rfl (HF rfl ?_);simp[-gw,-Q2,Th.enc,e,q,Th.val,ix0,ix1]
 | cl i hi =>
  have xl:i < st.cells.length:=by rw[ho.clen];exact hi
  have q:dN (.tup (cX st.cells)) (.int (i:Int))=aa (.int (st.cells.getD i 0)):=by rw[gw,iy];simp[cX,xl]
  exact uN hT rfl ((Lz rfl).trans (lP (LC (d:=.tup (cX st.cells)) (d':=.int i) rfl rfl q)))
end
noncomputable def fU:Fn:=⟨["self","program","asked","most","state"],["self","program","asked","most","state"], (.seq (.ex (.sup "Tape" (Z5 (.var 0) (.var 1) (.var 2) (.cst (.int 1)) (.var 3)))) (.seq (.setf (.var 0) "kept" (.lst ah (Z9 (.var 4)))) (.setf (.var 0) "front" (.var 4))))⟩
noncomputable def gG:Fn:=⟨["self","program","asked","most"],["self","program","asked","most"], (.seq (.setf (.var 0) "program" (.var 1)) (.seq (.setf (.var 0) "asked" (.bi .list ai (Z9 (.var 2)))) (.seq (.setf (.var 0) "most" (.var 3)) (.seq (.setf (.var 0) "origins" (.lst ah (Z9 (.cst .non)))) (.setf (.var 0) "branches" (.obl (.make "Branch" (Z6 (.var 1) (.var 2) (.var 3) (.call "begun" .nil)))))))))⟩
noncomputable def gH:Fn:=⟨["self","run","moment","thing","worth"],["self","run","moment","thing","worth","state"], (.seq (.set 5 (.meth (.var 0) "at" (Z8 (.var 1) (.var 2)))) (.seq (.ex (.call "check_thing" (Z9 (.var 3)))) (.seq (.ex (.me .append (.fld (.var 0) "origins") (Z9 (.tup (Z8 (.var 1) (.var 2)))))) (.seq (.ex (.oba (.fld (.var 0) "branches") (.make "Branch" (Z6 (.fld (.var 0) "program") (.fld (.var 0) "asked") (.bin .sub (.fld (.var 0) "most") (.var 2)) (.call "with_thing" (Z7 (.var 5) (.var 3) (.var 4))))))) (.ret (.bin .sub (.obn (.fld (.var 0) "branches")) (.cst (.int 1))))))))⟩
noncomputable def jd:Fn:=⟨["self","run","moment"],["self","run","moment","holder","branch","number"], (.seq (.ex (.meth (.var 0) "check_run" (Z9 (.var 1)))) (.seq (.set 3 (.meth (.var 0) "holder" (Z8 (.var 1) (.var 2)))) (.seq (.set 4 (.obi (.fld (.var 0) "branches") (.var 3))) (.seq (.set 5 (.bin .sub (.var 2) (.meth (.var 0) "first" (Z9 (.var 3))))) (.seq (.ife (.not (.meth (.var 4) "has" (Z9 (.var 5)))) .bad .nil) (.ret (.meth (.var 4) "at" (Z9 (.var 5)))))))))⟩
noncomputable def iG:Fn:=⟨["self","run"],["self","run"], (.seq (.ex (.meth (.var 0) "check_run" (Z9 (.var 1)))) (.ret (.bin .add (.meth (.var 0) "first" (Z9 (.var 1))) (.meth (.obi (.fld (.var 0) "branches") (.var 1)) "end" .nil))))⟩
noncomputable def fV:Fn:=⟨["self","run"],["self","run"], (.seq (.ex (.meth (.var 0) "check_run" (Z9 (.var 1)))) (.ret (.idx (.fld (.var 0) "origins") (.var 1))))⟩
noncomputable def ptC:E:=(.cmp .ne (.idx (.var 2) (.neg (.cst (.int 1)))) (.cst (.int 0)))
noncomputable def ptB:S:=(.ex (.me .append (.var 2) (Z9 (.idx (.idx (.fld (.var 0) "origins") (.idx (.var 2) (.neg (.cst (.int 1))))) (.cst (.int 0))))))
noncomputable def gI:Fn:=⟨["self","run"],["self","run","runs"], (.seq (.ex (.meth (.var 0) "check_run" (Z9 (.var 1)))) (.seq (.set 2 (.lst ah (Z9 (.var 1)))) (.seq (.whl ptC ptB) (.ret (.stp ai (-1) (.var 2))))))⟩
noncomputable def cnC:E:=(.cmp .eq (.idx (.idx (.fld (.var 1) "origins") (.var 0)) (.cst (.int 0))) (.var 2))
noncomputable def f7:Fn:=⟨["self","run"],["self","run"], (.seq (.ex (.meth (.var 0) "check_run" (Z9 (.var 1)))) (.ret (.comp ai .rng2 (Z8 (.cst (.int 1)) (.bi .len ai (Z9 (.fld (.var 0) "origins")))) ["child"] [(0,"self"),(1,"run")] (Z9 cnC) (.var 0))))⟩
noncomputable def eV:Fn:=⟨["self","run"],["self","run"], (.ife (.or (.not (.call "is_whole" (Z9 (.var 1)))) (.or (.cmp .lt (.var 1) (.cst (.int 0))) (.cmp .ge (.var 1) (.obn (.fld (.var 0) "branches"))))) .bad .nil)⟩
noncomputable def fk:Fn:=⟨["self","run"],["self","run"], (.ret (.ite (.cmp .eq (.var 1) (.cst (.int 0))) (.cst (.int 0)) (.idx (.idx (.fld (.var 0) "origins") (.var 1)) (.cst (.int 1)))))⟩
noncomputable def hdC:E:=(.and (.cmp .ne (.var 1) (.cst (.int 0))) (.cmp .lt (.var 2) (.meth (.var 0) "first" (Z9 (.var 1)))))
noncomputable def hdB:S:=(.set 1 (.idx (.idx (.fld (.var 0) "origins") (.var 1)) (.cst (.int 0))))
noncomputable def fW:Fn:=⟨["self","run","moment"],["self","run","moment"], (.seq (.whl hdC hdB) (.ret (.var 1)))⟩
structure TrP (T:FK->Option Fn) (G:aB->Option W):Prop where
 tp:TpP "Branch" T G
 en:TpM "Branch" T
 tin:T (.m "Tape" "__init__")=aa gF
 bin:T (.m "Branch" "__init__")=aa fU
 init:T (.m "Tree" "__init__")=aa gG
 part:T (.m "Tree" "part")=aa gH
 at_:T (.m "Tree" "at")=aa jd
 end_:T (.m "Tree" "end")=aa iG
 check_run:T (.m "Tree" "check_run")=aa eV
 first:T (.m "Tree" "first")=aa fk
 holder:T (.m "Tree" "holder")=aa fW
 th:ThP T
 ld:LdP T G
structure Nd where
 par:Nat
 fi:Nat
 s0:St
 e:Nat
 f:Nat->St
noncomputable def Nd.en (d:Nd):Nat:=d.fi+d.e
structure Tr where
 p:Pg
 asked:List Int
 most:Nat
 ds:List Nd
noncomputable def Nd.org (d:Nd):D:=.tup [.int d.par,.int d.fi]
noncomputable def gu (ds:List Nd):List D:=.non::ds.tail.map Nd.org
theorem Bk {ds:List Nd}{i:Nat}{d:Nd} (h:ds[i]?=aa d) (hi:0 < i):(gu ds)[i]?=aa d.org:=by
 cases i with
 | zero=>exact absurd hi (QG _)
 | succ i =>
  cases ds with
  | nil=>simp at h
  | cons x r =>
   simp only[Vh] at h;simp[gu,h]
theorem lq {ds:List Nd} (h:ds≠[]):(gu ds).length=ds.length:=by
 cases ds with
 | nil=>exact absurd rfl h| cons x r=>simp[gu]
theorem Bl {ds:List Nd} (h:ds≠[]) (d:Nd):gu (ds++[d])=gu ds++[d.org]:=by
 cases ds with
 | nil=>exact absurd rfl h| cons x r=>simp[gu]
structure Own (t:Tr) (i:Nat) (d:Nd):Prop where
 run:Run d.s0 t.p t.asked (t.most - d.fi) d.e
 at0:At d.fi d.s0
 le:d.fi<=t.most
 own:∀ k,k<=d.e->d.f (d.fi+k)=itr d.s0 t.p t.asked k
 zero:i=0->d.fi=0/\d.s0=St.zero
 par:0 < i->∃ q,t.ds[d.par]?=aa q/\d.par < i/\d.fi<=q.en/\∀ m,m < d.fi->d.f m=q.f m
 put:0 < i->∀ q,t.ds[d.par]?=aa q->∃ (th:Th) (v:Int),d.s0=th.put (q.f d.fi) v
structure Wf (t:Tr):Prop where
 ok:Pg.ok t.p
 ask:Ask t.asked
 m1:t.most<=100
 l1:t.ds.length<=100
 l0:t.ds≠[]
 each:∀ i d,t.ds[i]?=aa d->Own t i d
theorem wI {s0:St}{p:Pg}{asked:List Int}{most e j:Nat} (hp:Pg.ok p) (ha:Ask asked) (a0:At j s0) (R:Run s0 p asked most e):∀ i,i<=e->At (j+i) (itr s0 p asked i)
 | 0,_=>a0| i+1,h=>rf hp ha (wI hp ha a0 R i (by lia)) (R.on i (by lia))
theorem Wf.hold {t:Tr} (W:Wf t) {m:Nat}:∀ (n i:Nat) (d:Nd),i<=n->t.ds[i]?=aa d->m<=d.en->∃ (j:Nat) (q:Nd),t.ds[j]?=aa q/\q.fi<=m/\m<=q.en/\d.f m=itr q.s0 t.p t.asked (m - q.fi)/\At m (d.f m)
 | n,i,d,hn,h,hm=>by
  have O:=W.each i d h
  by_cases c:d.fi<=m
  ·have e1:=O.own (m - d.fi) (by unfold Nd.en at hm;lia);rw[show d.fi+(m - d.fi)=m by lia] at e1;refine ⟨i,d,h,c,hm,e1,?_⟩;rw[e1];have:=wI W.ok W.ask O.at0 O.run (m - d.fi) (by unfold Nd.en at hm;lia);rw[show d.fi+(m - d.fi)=m by lia] at this;exact this
  ·have hi:0 < i:=by
    rcases Q6 i with z|z
    have:=(O.zero z).1;lia;exact z
   obtain ⟨q,h1,h2,h3,h4⟩:=O.par hi;cases n with
   | zero=>lia
   | succ n =>
    obtain ⟨j,q',a1,a2,a3,a4,a5⟩:=W.hold (m:=m) n d.par q (by lia) h1 (by lia);rw[h4 m (by lia)];exact ⟨j,q',a1,a2,a3,a4,a5⟩
theorem Wf.at_ {t:Tr} (W:Wf t) {m i:Nat}{d:Nd} (h:t.ds[i]?=aa d) (hm:m<=d.en):At m (d.f m):=by obtain ⟨_,_,_,_,_,_,a⟩:=W.hold i i d (P6 _) h hm;exact a
theorem Wf.qb {t:Tr} (W:Wf t) {i:Nat}{d:Nd} (h:t.ds[i]?=aa d):d.en<=t.most:=by have O:=W.each i d h;have:=O.run.le;have:=O.le;unfold Nd.en;lia
noncomputable def tfs (t:Tr) (ro rb:Nat):List (aB×W):=[("program",.p (dB t.p)),("asked",.p (.lst (cX t.asked))),("most",.p (.int t.most)),("origins",.r ro),("branches",.r rb)]
section
variable (t:Tr) (ro rb:Nat)
@[simp] theorem Ic:dU "program" (tfs t ro rb)=aa (.p (dB t.p)):=by simp[tfs]
@[simp] theorem LM:dU "asked" (tfs t ro rb)=aa (.p (.lst (cX t.asked))):=by simp[tfs]
@[simp] theorem MQ:dU "most" (tfs t ro rb)=aa (.p (.int t.most)):=by simp[tfs]
@[simp] theorem Ie:dU "origins" (tfs t ro rb)=aa (.r ro):=by simp[tfs]
@[simp] theorem Ft:dU "branches" (tfs t ro rb)=aa (.r rb):=by simp[tfs]
theorem gJ {m:String} (h:(["program","asked","most","origins","branches"]:List String).contains m=ai):dU m (tfs t ro rb)=af:=by simp only[V9,List.contains_nil,Td,VH,beq_eq_false_iff_ne,ne_eq] at h;obtain ⟨h1,h2,h3,h4,h5⟩:=h;simp[tfs,h1,h2,h3,h4,h5]
@[simp] theorem Eo:dU "check_run" (tfs t ro rb)=af:=gJ t ro rb rfl
@[simp] theorem LN:dU "first" (tfs t ro rb)=af:=gJ t ro rb rfl
@[simp] theorem Jm:dU "holder" (tfs t ro rb)=af:=gJ t ro rb rfl
@[simp] theorem PB:dU "at" (tfs t ro rb)=af:=gJ t ro rb rfl
@[simp] theorem Ow:dU "end" (tfs t ro rb)=af:=gJ t ro rb rfl
@[simp] theorem MR:dU "part" (tfs t ro rb)=af:=gJ t ro rb rfl
@[simp] theorem Jo:dU "parent" (tfs t ro rb)=af:=gJ t ro rb rfl
@[simp] theorem MS:dU "path" (tfs t ro rb)=af:=gJ t ro rb rfl
@[simp] theorem Fv:dU "children" (tfs t ro rb)=af:=gJ t ro rb rfl
end
noncomputable abbrev Bx:=Nat×Nat×Tp
noncomputable abbrev Pts:=Nat->Option Cl
structure jf (Pt:Pts) (h:HH) (n:Nat) (t:Tr) (ro rb:Nat) (bs:List Bx):Prop where
 ob:oat h n=aa (Qd "Tree",tfs t ro rb)
 og:lat h ro=aa (gu t.ds)
 br:bat h rb=aa (bs.map (·.1))
 len:bs.length=t.ds.length
 tp:∀ (i:Nat) (b:Bx) (d:Nd),bs[i]?=aa b->t.ds[i]?=aa d->TAt "Branch" h b.1 b.2.1 b.2.2/\TI d.s0 b.2.2 d.e 1/\b.2.2.p=t.p/\b.2.2.asked=t.asked
 nd1:(bs.map (·.1)).Nodup
 nd2:(ro::bs.map (·.2.1)).Nodup
 pt:∀ i c,Pt i=aa c->h[i]?=aa c/\i≠n/\i≠ro/\i≠rb/\∀ b∈bs,i≠b.1/\i≠b.2.1
inductive jM (Pt:Pts) (h:HH) (n:Nat) (t:Tr) (ro rb:Nat):Prop where
 | mk (bs:List Bx) (a:jf Pt h n t ro rb bs)
theorem uU {h:HH}{n:Nat}{q:List Nat} (e:bat h n=aa q):n < h.length:=by
 unfold bat at e;rcases Qs n h.length with z|z
 exact z;rw[Qc z] at e;exact gZ e
theorem Bm {h h':HH}{i:Nat} (e:h'[i]?=h[i]?):bat h' i=bat h i:=by unfold bat;rw[e]
theorem wJ {h:HH}{n r:Nat}{q:aB×List (aB×W)}{xs:List Nat} (e:oat h n=aa q) (e':bat h r=aa xs):r≠n:=by
 rintro rfl
 unfold oat at e;unfold bat at e';cases g:h[r]? with
 | none=>rw[g] at e;exact gZ e| some c=>rw[g] at e e';cases c<;>simp[lY] at e e'
theorem wK {h:HH}{n r:Nat}{q:List D}{xs:List Nat} (e:lat h n=aa q) (e':bat h r=aa xs):r≠n:=by
 rintro rfl
 unfold lat at e;unfold bat at e';cases g:h[r]? with
 | none=>rw[g] at e;exact gZ e| some c=>rw[g] at e e';cases c<;>simp[lY] at e e'
theorem Ep {h:HH}{n:Nat} (hn:n < h.length) (c:Cl):bat (h.set n c) n=lY c:=by unfold bat;rw[Qw hn];rfl
theorem uV {h:HH}{n i:Nat} (hn:i≠n) (c:Cl):bat (h.set n c) i=bat h i:=by unfold bat;rw[Ql (QW hn)]
theorem Er {h g:HH}{i:Nat} (hi:i < h.length):bat (h++g) i=bat h i:=Bm (PV hi)
theorem jg {α:Type}{l:List α}{i:Nat} (h:i < l.length):∃ x,l[i]?=aa x:=⟨_,P0 h⟩
theorem dO {α:Type}{l:List α}{i:Nat}{x:α} (h:l[i]?=aa x):i < l.length:=by
 rcases Qs i l.length with z|z
 exact z;rw[Qc z] at h;exact gZ h
theorem oE {α:Type}{l:List α} (hl:l.Nodup) {i:Nat}{x:α} (a:l[i]?=aa x) (b:l[j]?=aa x):i=j:=by rw[P0 (dO a)] at a;rw[P0 (dO b)] at b;exact (Uz hl).mp ((P5 a).trans (P5 b).symm)
theorem ym {α:Type}{l:List α} (hl:l.Nodup) (i:Nat) {y:α} (hy:∀ (j:Nat) (x:α),l[j]?=aa x->j≠i->x≠y):(l.set i y).Nodup:=by
 refine List.pairwise_iff_getElem.mpr λa b ha hb hab=>?_;rw[QS] at ha hb;rw[List.getElem_set,List.getElem_set]
 by_cases ca:i=a
 ·rw[if_pos ca,if_neg (by lia)];exact QW (hy b _ (P0 hb) (by lia))
 ·rw[if_neg ca]
  by_cases cb:i=b
  ·rw[if_pos cb];exact hy a _ (P0 ha) (QW ca)
  ·rw[if_neg cb];exact List.pairwise_iff_getElem.mp hl a b ha hb hab
theorem jf.step {Pt:Pts}{h:HH}{n:Nat}{t:Tr}{ro rb:Nat}{bs:List Bx} (A:jf Pt h n t ro rb bs) {i:Nat}{b:Bx}{d:Nd} (hb:bs[i]?=aa b) (hd:t.ds[i]?=aa d) {h':HH}{r':Nat}{t':Tp} (g:Go "Branch" b.1 h b.2.1 b.2.2 h' r' t') (I:TI d.s0 t' d.e 1) (s:Sm8 b.2.2 t') :
 jf Pt h' n t ro rb (bs.set i (b.1,r',t')):=by
 have il:=dO hb;obtain ⟨a1,a2,a3,a4⟩:=A.tp i b d hb hd;have nb:n≠b.1:=by intro z;have:=A.ob;rw[z,a1.ob] at this;have:=congrArg (λq:Option (aB×List (aB×W))=>q.map (·.1)) this;simp at this
 have nr:n≠b.2.1:=k8 A.ob a1.li;have hn:=iL A.ob;have e1:h'[n]?=h[n]?:=g.fr n nb nr hn;have ob:ro≠b.1:=(k8 a1.ob A.og).symm;have m2:b.2.1∈bs.map (·.2.1):=List.mem_map.mpr ⟨b,P8 hb,rfl⟩;have orr:ro≠b.2.1:=λz=>(List.nodup_cons.mp A.nd2).1 (by rw[z];exact m2);have e2:h'[ro]?=h[ro]?:=g.fr ro ob orr (gy A.og);have e3:h'[rb]?=h[rb]?:=g.fr rb (wJ a1.ob A.br) (wK a1.li A.br) (uU A.br);have m1:∀ (f:Bx->Nat) (x:Bx),f x=f b->(bs.set i x).map f=bs.map f:=λf x hx=>by
  rw[TL,hx];have:(bs.map f)[i]?=aa (f b):=by rw[Qj,hb];rfl
  have il2:=dO this;rw[P0 il2] at this;rw[← P5 this];exact Vw il2
 have rlt:∀ (j:Nat) (x:Bx),bs[j]?=aa x->x.2.1 < h.length:=λj x hx=>by obtain ⟨y,hy⟩:=jg (l:=t.ds) (by rw[← A.len];exact dO hx);exact gy (A.tp j x y hx hy).1.li
 refine ⟨(lR e1).trans A.ob,(oz e2).trans A.og,?_,by rw[QS];exact A.len,λj x y hx hy=>?_,?_,?_,λj c hj=>?_⟩;rw[Bm e3,A.br,m1 (·.1) (b.1,r',t') rfl]
 ·by_cases c:j=i
  ·subst c;rw[Qw il] at hx;cases hx;rw[hd] at hy;cases hy;exact ⟨g.b,I,s.p.trans a3,s.asked.trans a4⟩
  ·rw[Ql (QW c)] at hx;obtain ⟨q1,q2,q3,q4⟩:=A.tp j x y hx hy;have x1:x.1≠b.1:=λz=>c (oE A.nd1 (i:=j) (j:=i) (x:=b.1) (by rw[Qj,hx];exact congrArg aa z) (by rw[Qj,hb];rfl));have x2:x.2.1≠b.2.1:=λz=>c (oE (List.nodup_cons.mp A.nd2).2 (i:=j) (j:=i) (x:=b.2.1) (by rw[Qj,hx];exact congrArg aa z) (by rw[Qj,hb];rfl));exact ⟨(g.other q1 x1 x2).1,q2,q3,q4⟩
 rw[m1 (·.1) (b.1,r',t') rfl];exact A.nd1
 ·have key:∀ (j:Nat) (x:Nat),(ro::bs.map (·.2.1))[j]?=aa x->j≠i+1->x≠r':=λj x hx hj=>by
   have xl:x < h.length/\x≠b.2.1:=by
    cases j with
    | zero=>cases hx;exact ⟨gy A.og,orr⟩
    | succ j =>
     rw[Vh,Qj] at hx;cases gx:bs[j]? with
     | none=>rw[gx] at hx;exact gZ hx
     | some y =>
      rw[gx] at hx;cases hx;exact ⟨rlt j y gx,λz=>hj (by rw[oE (List.nodup_cons.mp A.nd2).2 (i:=j) (j:=i) (x:=b.2.1) (by rw[Qj,gx];exact congrArg aa z) (by rw[Qj,hb];rfl)])⟩
   rcases g.len with ⟨_,z⟩|z
   rw[z];exact xl.2;lia
  have:=ym A.nd2 (i+1) key;rw[V8] at this;rw[TL];exact this
 ·obtain ⟨p1,p2,p3,p4,p5⟩:=A.pt j c hj;have pb:=p5 b (P8 hb);have jl:=dO p1;refine ⟨(g.fr j pb.1 pb.2 jl).trans p1,p2,p3,p4,λx hx=>?_⟩;rcases R6 hx with q|q
  exact p5 x q
  ·subst q;refine ⟨pb.1,?_⟩;rcases g.len with ⟨_,z⟩|z
   show j≠r';rw[z];exact pb.2;show j≠r';lia
theorem rE (h:HH) (d:D) (h':HH):∃ h2,fin h (.p d) h'=aa (.p d,h2)/\(h2=h'\/h2=h):=by
 unfold fin
 by_cases c:h'.length=h.length
 rw[if_pos c];exact ⟨h',rfl,.inl rfl⟩
 ·rw[if_neg c]
  by_cases c2:h'.take h.length=h
  rw[if_pos c2];exact ⟨h,rfl,.inr rfl⟩;rw[if_neg c2];exact ⟨h',rfl,.inl rfl⟩
section
variable {T:FK->Option Fn}{G:aB->Option W}{Pt:Pts}{h:HH}{n:Nat}{t:Tr}{ro rb:Nat}{bs:List Bx}
theorem fm (P:TrP T G) (W:Wf t) (A:jf Pt h n t ro rb bs) (k:Nat) {i:Nat} (hi:i < t.ds.length):runN T G (k+2) (.m "Tree" "check_run") [.o n,.p (.int i)] h=aa (.p .non,h):=by
 rw[run_eq P.check_run rfl];have w:=jb P.tp k i h;have c1:¬ ((i:Int) < 0):=by lia
 have l1:=W.l1;have l:=A.len;have c2:¬ ((bs.length:Int)<=(i:Int)):=by lia
 have c3:bs.length<=100000:=by lia
 simp[eV,w,c1,A.ob,A.br,c2,c3,cY]
theorem lS (P:TrP T G) (W:Wf t) (A:jf Pt h n t ro rb bs) (k:Nat) {i:Nat}{d:Nd} (hd:t.ds[i]?=aa d):runN T G (k+1) (.m "Tree" "first") [.o n,.p (.int i)] h=aa (.p (.int d.fi),h):=by
 rw[run_eq P.first rfl];rcases Q6 i with z|z
 ·subst z;have:=((W.each 0 d hd).zero rfl).1;simp[fk,this,cY]
 ·have c:¬ ((i:Int)=0):=by lia
  have c0:¬ i=0:=by lia
  have ix:dN (.lst (gu t.ds)) (.int i)=aa d.org:=by rw[dI,iy];exact Bk hd z
  have ix2:dN d.org (.int 1)=aa (.int d.fi):=rfl;simp[-dI,-gw,fk,c,c0,A.ob,A.og,rd,ix,ix2,cY]
end
inductive Et (Pt:Pts) (x:Option (W×HH)) (y:W) (n:Nat) (t:Tr) (ro rb:Nat):Prop where
 | mk (h':HH) (q:x=aa (y,h')) (a:jM Pt h' n t ro rb)
section
variable {T:FK->Option Fn}{G:aB->Option W}{Pt:Pts}{h:HH}{n:Nat}{t:Tr}{ro rb:Nat}{bs:List Bx}
theorem rF {i:Nat}{d:Nd} (hd:t.ds[i]?=aa d) (z:0 < i):dN (.lst (gu t.ds)) (.int i)=aa d.org:=by rw[dI,iy];exact Bk hd z
theorem wL (P:TrP T G) (W:Wf t) (A:jf Pt h n t ro rb bs) (k:Nat) {i m:Nat}{d:Nd} (hd:t.ds[i]?=aa d) :
 BT.ev (runN T G (k+1)) G hdC [aa (.o n),aa (.p (.int i)),aa (.p (.int m))] h=aa (.p (.bl (decide (m < d.fi))),h):=by
 rcases Q6 i with z|z
 ·subst z;have:=((W.each 0 d hd).zero rfl).1;simp[hdC,this]
 ·have c:¬ ((i:Int)=0):=by lia
  have c0:¬ i=0:=by lia
  have f:=lS P W A k hd;simp[hdC,c,c0,A.ob,f]
theorem Eu (P:TrP T G) (W:Wf t) (A:jf Pt h n t ro rb bs) (k m:Nat):∀ (f i:Nat) (d:Nd),t.ds[i]?=aa d->m<=d.en->i<=f →
 ∃ (j:Nat) (q:Nd),eg (BT.ev (runN T G (k+1)) G hdC) (evS (runN T G (k+1)) G hdB) (f+1) [aa (.o n),aa (.p (.int i)),aa (.p (.int m))] h=aa (.nx [aa (.o n),aa (.p (.int j)),aa (.p (.int m))] h)/\t.ds[j]?=aa q/\q.fi<=m/\m<=q.en/\d.f m=q.f m:=by
 intro f
 induction f with
 | zero =>
  intro i d hd hm hi;have z:i=0:=by lia
  subst z;have f0:=((W.each 0 d hd).zero rfl).1;have q:=wL P W A k (m:=m) hd;rw[decide_eq_false (by lia)] at q;refine ⟨0,d,?_,hd,by lia,hm,rfl⟩;rw[eg,q,iJ,nF]
 | succ f ih =>
  intro i d hd hm hi;have q:=wL P W A k (m:=m) hd
  by_cases c:m < d.fi
  ·have z:0 < i:=by
    rcases Q6 i with z|z
    have:=((W.each i d hd).zero z).1;lia;exact z
   obtain ⟨p,h1,h2,h3,h4⟩:=(W.each i d hd).par z;obtain ⟨j,r,e1,e2,e3,e4,e5⟩:=ih d.par p h1 (by lia) (by lia);refine ⟨j,r,?_,e2,e3,e4,(h4 m c).trans e5⟩;rw[decide_eq_true c] at q;have b:evS (runN T G (k+1)) G hdB [aa (.o n),aa (.p (.int i)),aa (.p (.int m))] h=aa (.nx [aa (.o n),aa (.p (.int d.par)),aa (.p (.int m))] h):=by have ix2:dN d.org (.int 0)=aa (.int d.par):=rfl;simp[-dI,-gw,hdB,A.ob,A.og,rd,rF hd z,ix2]
   rw[eg,q,iJ,kj,b,gk,e1]
  ·rw[decide_eq_false c] at q;refine ⟨i,d,?_,hd,by lia,hm,rfl⟩;rw[eg,q,iJ,nF]
theorem uW (P:TrP T G) (W:Wf t) (A:jf Pt h n t ro rb bs) (k m:Nat) {i:Nat}{d:Nd} (hd:t.ds[i]?=aa d) (hm:m<=d.en) :
 ∃ (j:Nat) (q:Nd),runN T G (k+2) (.m "Tree" "holder") [.o n,.p (.int i),.p (.int m)] h=aa (.p (.int j),h)/\t.ds[j]?=aa q/\q.fi<=m/\m<=q.en/\d.f m=q.f m:=by
 have l1:=W.l1;have:=dO hd;obtain ⟨j,q,e1,e2⟩:=Eu P W A k m 99999 i d hd hm (by lia);refine ⟨j,q,?_,e2⟩;rw[run_eq P.holder rfl];simp[fW,turns,e1,cY]
theorem Bo (A:jf Pt h n t ro rb bs) {b:Bx} (hb:bs[j]?=aa b):atP (bs.map (·.1)) (j:Int)=aa b.1:=by rw[iy,Qj,hb];rfl
theorem rG (P:TrP T G) (W:Wf t) (A:jf Pt h n t ro rb bs) (k:Nat) {i m:Nat}{d:Nd} (hd:t.ds[i]?=aa d) (hm:m<=d.en) :
 Et Pt (runN T G (k+12) (.m "Tree" "at") [.o n,.p (.int i),.p (.int m)] h) (.p (d.f m).enc) n t ro rb:=by
 have il:=dO hd;obtain ⟨j,q,e1,hq,e3,e4,e5⟩:=uW P W A (k+9) m hd hm;have c0:=fm P W A (k+9) il;have jl:=dO hq;obtain ⟨b,hb⟩:=jg (l:=bs) (by rw[A.len];exact jl);obtain ⟨ta,ti,tp,tk⟩:=A.tp j b q hb hq;have f0:=lS P W A (k+10) hq;have hle:m - q.fi<=q.e:=by unfold Nd.en at e4;lia
 obtain ⟨h1,r1,t1,b1,g1,I1,s1,_⟩:=wG P.tp (k+2) ta ti (m - q.fi) (QD hle ti.run.le);rw[decide_eq_true hle] at b1;obtain ⟨h2,r2,t2,b2,g2,I2,s2,_⟩:=Ia P.tp k g1.b I1 (m - q.fi) hle;have A2:=A.step hb hq (g1.trans g2) I2 (s1.trans s2);have en:d.f m=itr q.s0 t1.p t1.asked (m - q.fi):=by have:=(W.each j q hq).own (m - q.fi) hle;rw[show q.fi+(m - q.fi)=m by lia] at this;rw[e5,this,s1.p,s1.asked,tp,tk]
 rw[← en] at b2;have cs:(m:Int) - (q.fi:Int)=((m - q.fi:Nat):Int):=by lia
 obtain ⟨h3,f3,f4⟩:=rE h (d.f m).enc h2;refine ⟨h3,?_,?_⟩
 ·rw[run_eq P.at_ rfl];have ix:=Bo A hb;rw[jd];simp only[fc,Qa,QL,P9,QJ];simp[-atP,A.ob,c0,e1,A.br,ix,f0,cs,ta.ob,Fq,b1,g1.b.ob,Ou,b2,f3]
 ·rcases f4 with z|z
  rw[z];exact ⟨_,A2⟩;rw[z];exact ⟨_,A⟩
theorem tP (P:TrP T G) (W:Wf t) (A:jf Pt h n t ro rb bs) (k:Nat) {i:Nat}{d:Nd} (hd:t.ds[i]?=aa d) :
 Et Pt (runN T G (k+10) (.m "Tree" "end") [.o n,.p (.int i)] h) (.p (.int d.en)) n t ro rb:=by
 have il:=dO hd;have c0:=fm P W A (k+7) il;obtain ⟨b,hb⟩:=jg (l:=bs) (by rw[A.len];exact il);obtain ⟨ta,ti,tp,tk⟩:=A.tp i b d hb hd;have f0:=lS P W A (k+8) hd;obtain ⟨h1,r1,t1,b1,g1,I1,s1,_⟩:=Em P.tp P.en k ta ti;have A2:=A.step hb hd g1 I1 s1;obtain ⟨h3,f3,f4⟩:=rE h (.int d.en) h1;have ix:=Bo A hb;have cs:(d.fi:Int)+(d.e:Int)=(d.en:Int):=by unfold Nd.en;lia
 refine ⟨h3,?_,?_⟩
 ·rw[run_eq P.end_ rfl,iG];simp only[fc,Qa,QL,P9,QJ];simp[-atP,A.ob,c0,f0,A.br,ix,ta.ob,LJ,b1,cs,f3]
 ·rcases f4 with z|z
  rw[z];exact ⟨_,A2⟩;rw[z];exact ⟨_,A⟩
end
noncomputable def Tp.new (p:Pg) (asked:List Int) (s0:St) (most:Nat):Tp:=⟨p,asked,1,most,[s0],0,s0,0⟩
theorem Bp {s0:St}{p:Pg}{e:Nat} (hp:Pg.ok p) (ha:Ask asked) (a0:At 1000 s0) (R:Run s0 p asked most e) (h3:most<=1000):TI s0 (Tp.new p asked s0 most) e 1 :=
 ⟨R,hp,ha,a0,P6 1,by show 1<=1000;decide,h3,RC _,rfl,by simp[Tp.new],by simp[Tp.new],λj hj=>by
  have:j=0:=by simpa [Tp.new] using hj
  subst this;simp[Tp.new,itr],RC _,⟨0,by simp[Tp.new],λz=>absurd z (QG _)⟩⟩
section
variable {T:FK->Option Fn}{G:aB->Option W}
theorem yo (P:TrP T G) (k:Nat) (c0:aB) (p:Pg) (asked:List Int) (most:Nat) (h:HH) :
 runN T G (k+2) (.m "Tape" "__init__") [.o h.length,.p (dB p),.p (.lst (cX asked)),.p (.int 1),.p (.int most)] (h++[.o c0 []])=aa (.p .non,h++[.o c0 ((Tp.new p asked St.zero most).fs (h.length+1)),.l [St.zero.enc]]):=by
 rw[run_eq P.tin rfl];have b:=lQ P.tp.prg k;have c1:(if (0:Int) > (most:Int) then (0:Int) else (most:Int))=(most:Int):=if_neg (by lia);have f:∀ (c:Cl) (g:HH) (w:W),c≠.o c0 []->fin (h++[.o c0 []]) w (h++c::g)=aa (w,h++c::g):=λc g w hc=>by refine lg h.length (by simp) ?_ w;simp;exact hc
 have f2:=f (.o c0 ((Tp.new p asked St.zero most).fs (h.length+1))) [.l [St.zero.enc]] (.p .non) (by simp[Tp.fs]);have fs:(Tp.new p asked St.zero most).fs (h.length+1)=([("program",.p (dB p)),("asked",.p (.lst (cX asked))),("gap",.p (.int 1)),("most",.p (.int most)),("kept",.r (h.length+1)),("farthest",.p (.int 0)),("front",.p St.zero.enc),("now",.p (.int 0))]:List (aB×W)):=by simp[Tp.fs,Tp.new]
 rw[fs] at f2 ⊢;rw[gF];simp only[fc,Qa,QL,P9,QJ];simp[c1,b,f2]
theorem oF (P:TrP T G) (k:Nat) (p:Pg) (asked:List Int) (most:Nat) (s0:St) (h:HH) :
 runN T G (k+3) (.m "Branch" "__init__") [.o h.length,.p (dB p),.p (.lst (cX asked)),.p (.int most),.p s0.enc] (h++[.o "Branch" []])=aa (.p .non,h++[.o "Branch" ((Tp.new p asked s0 most).fs (h.length+2)),.l [St.zero.enc],.l [s0.enc]]):=by
 rw[run_eq P.bin rfl];have b:=yo P k "Branch" p asked most h;have f2:fin (h++[.o "Branch" []]) (.p .non) (h++[.o "Branch" ((Tp.new p asked s0 most).fs (h.length+2)),.l [St.zero.enc],.l [s0.enc]])=aa (.p .non,h++[.o "Branch" ((Tp.new p asked s0 most).fs (h.length+2)),.l [St.zero.enc],.l [s0.enc]]):=by refine lg h.length (by simp) ?_ _;simp[Tp.fs]
 have fs:∀ (s:St) (r:Nat),(Tp.new p asked s most).fs r=([("program",.p (dB p)),("asked",.p (.lst (cX asked))),("gap",.p (.int 1)),("most",.p (.int most)),("kept",.r r),("farthest",.p (.int 0)),("front",.p s.enc),("now",.p (.int 0))]:List (aB×W)):=λs r=>by simp[Tp.fs,Tp.new]
 rw[fs] at f2 ⊢;rw[fs] at b;rw[fU];simp only[fc,Qa,QL,P9,QJ];simp[b,f2]
end
noncomputable def Tr.new (p:Pg) (asked:List Int) (most e:Nat):Tr:=⟨p,asked,most,[⟨0,0,St.zero,e,itr St.zero p asked⟩]⟩
noncomputable def Nd.of (t:Tr) (i m:Nat) (d:Nd) (s0:St) (e:Nat):Nd:=⟨i,m,s0,e,λj=>if j < m then d.f j else itr s0 t.p t.asked (j - m)⟩
noncomputable def Tr.add (t:Tr) (x:Nd):Tr:={ t with ds:=t.ds++[x] }
theorem Ig {p:Pg}{e:Nat} (hp:Pg.ok p) (ha:Ask asked) (hm:most<=100) (R:Run St.zero p asked most e):Wf (Tr.new p asked most e):=by
 refine ⟨hp,ha,hm,by simp[Tr.new],by simp[Tr.new],λi d hd=>?_⟩;have z:i=0/\(⟨0,0,St.zero,e,itr St.zero p asked⟩:Nd)=d:=by
  cases i with
  | zero=>exact ⟨rfl,by simpa [Tr.new] using hd⟩| succ i=>simp[Tr.new] at hd
 obtain ⟨rfl,rfl⟩:=z;exact ⟨R,q9,RC _,λk _=>by show itr St.zero p asked (0+k)=_;rw[Uy];rfl,λ_=>⟨rfl,rfl⟩,λz=>absurd z (QG _),λz=>absurd z (QG _)⟩
theorem Own.mono {t:Tr}{x:Nd}{i:Nat}{d:Nd} (O:Own t i d):Own (t.add x) i d :=
 ⟨O.run,O.at0,O.le,O.own,O.zero,λz=>by
  obtain ⟨q,h1,h2⟩:=O.par z;exact ⟨q,by show (t.ds++[x])[d.par]?=aa q;rw[PV (dO h1)];exact h1,h2⟩,λz q hq=>by
  obtain ⟨q',h1,_⟩:=O.par z;have e:(t.ds++[x])[d.par]?=aa q:=hq;rw[PV (dO h1)] at e;exact O.put z q e⟩
theorem rH {t:Tr} (W:Wf t) {i m e:Nat}{d:Nd}{s0:St} (hd:t.ds[i]?=aa d) (hm:m<=d.en) (a0:At m s0) (R:Run s0 t.p t.asked (t.most - m) e) (hl:t.ds.length < 100) {th:Th}{v:Int} (hs:s0=th.put (d.f m) v):Wf (t.add (Nd.of t i m d s0 e)):=by
 refine ⟨W.ok,W.ask,W.m1,by simp[Tr.add];lia,by simp[Tr.add],λj q hq=>?_⟩;rcases Qs j t.ds.length with c|c
 ·have hq':t.ds[j]?=aa q:=by have:(t.ds++[Nd.of t i m d s0 e])[j]?=aa q:=hq;rw[PV c] at this;exact this
  exact (W.each j q hq').mono
 ·have hq':(t.ds++[Nd.of t i m d s0 e])[j]?=aa q:=hq;have jl:=dO hq';have je:j=t.ds.length:=by simp at jl;lia
  subst je;simp at hq';subst hq';refine ⟨R,a0,QD hm (W.qb hd),λk hk=>?_,λz=>?_,λ_=>⟨d,?_,dO hd,hm,λx hx=>if_pos hx⟩,λ_ q hq=>?_⟩
  ·show (if m+k < m then d.f (m+k) else itr s0 t.p t.asked (m+k - m))=_;rw[if_neg (by lia),show m+k - m=k by lia];rfl
  exact absurd (List.length_eq_zero_iff.mp z) W.l0
  ·show (t.ds++[Nd.of t i m d s0 e])[i]?=aa d;rw[PV (dO hd)];exact hd
  ·have e2:(t.ds++[Nd.of t i m d s0 e])[i]?=aa q:=hq;rw[PV (dO hd),hd] at e2;cases e2;exact ⟨th,v,hs⟩
section
variable {T:FK->Option Fn}{G:aB->Option W}{Pt:Pts}
theorem Bq (P:TrP T G) (k:Nat) (p:Pg) (asked:List Int) (most e:Nat) (h:HH) :
 runN T G (k+4) (.m "Tree" "__init__") [.o h.length,.p (dB p),.p (.lst (cX asked)),.p (.int most)] (h++[.o "Tree" []])=aa (.p .non,h++[.o "Tree" (tfs (Tr.new p asked most e) (h.length+1) (h.length+5)),.l [.non],.o "Branch" ((Tp.new p asked St.zero most).fs (h.length+4)),.l [St.zero.enc],.l [St.zero.enc],.b [h.length+2]]):=by
 rw[run_eq P.init rfl];have b:=lQ P.tp.prg (k+2);have br:=oF P k p asked most St.zero (h++[.o "Tree" [("program",.p (dB p)),("asked",.p (.lst (cX asked))),("most",.p (.int most)),("origins",.r (h.length+1))],.l [.non]]);have f2:fin (h++[.o "Tree" []]) (.p .non) (h++[.o "Tree" (tfs (Tr.new p asked most e) (h.length+1) (h.length+5)),.l [.non],.o "Branch" ((Tp.new p asked St.zero most).fs (h.length+4)),.l [St.zero.enc],.l [St.zero.enc],.b [h.length+2]])=aa (.p .non,h++[.o "Tree" (tfs (Tr.new p asked most e) (h.length+1) (h.length+5)),.l [.non],.o "Branch" ((Tp.new p asked St.zero most).fs (h.length+4)),.l [St.zero.enc],.l [St.zero.enc],.b [h.length+2]]):=by refine lg h.length (by simp) ?_ _;simp[tfs]
 have fs:tfs (Tr.new p asked most e) (h.length+1) (h.length+5)=([("program",.p (dB p)),("asked",.p (.lst (cX asked))),("most",.p (.int most)),("origins",.r (h.length+1)),("branches",.r (h.length+5))]:List (aB×W)):=rfl;rw[fs] at f2 ⊢;rw[gG];simp only[fc,Qa,QL,P9,QJ];simp only[Qk,P9,QJ,QU,List.cons_append,RO] at br;simp[b,br,f2]
theorem Br {p:Pg}{e:Nat}{h:HH} (hp:Pg.ok p) (ha:Ask asked) (hm:most<=100) (R:Run St.zero p asked most e) (hP:∀ i c,Pt i=aa c->h[i]?=aa c) :
 jM Pt (h++[.o "Tree" (tfs (Tr.new p asked most e) (h.length+1) (h.length+5)),.l [.non],.o "Branch" ((Tp.new p asked St.zero most).fs (h.length+4)),.l [St.zero.enc],.l [St.zero.enc],.b [h.length+2]]) h.length (Tr.new p asked most e) (h.length+1) (h.length+5):=by
 refine ⟨[(h.length+2,h.length+4,Tp.new p asked St.zero most)],⟨by simp[oat],by simp[lat,gu,Tr.new],by simp[bat],by simp[Tr.new],λi b d hb hd=>?_,by simp,by simp,λi c hi=>?_⟩⟩
 ·have z:i=0:=by
   cases i with
   | zero=>rfl| succ i=>simp at hb
  subst z;simp at hb;subst hb;simp[Tr.new] at hd;subst hd;exact ⟨⟨by simp[oat],by simp[lat,Tp.new]⟩,Bp hp ha (q9.mono (by decide)) R (by lia),rfl,rfl⟩
 ·have e:=hP i c hi;have il:=dO e;refine ⟨by rw[PV il];exact e,by lia,by lia,by lia,λb hb=>?_⟩;simp at hb;subst hb;exact ⟨by show i≠h.length+2;lia,by show i≠h.length+4;lia⟩
end
section
variable {T:FK->Option Fn}{G:aB->Option W}{Pt:Pts}{h:HH}{n:Nat}{t:Tr}{ro rb:Nat}{bs:List Bx}
theorem At.put {m:Nat}{st:St} (a:At m st) {v:Int} (hv:Wth v) (th:Th):At m (th.put st v):=by refine ⟨Th.Bf a.ok hv th,?_,?_⟩;cases th<;>exact a.said;cases th<;>exact a.calls
noncomputable def ptH (h1:HH) (t:Tr) (ro rb:Nat) (bs:List Bx) (x:Nd) (mo:Nat):HH :=
 (h1.set ro (Cl.l (gu t.ds++[x.org]))++[Cl.o "Branch" ((Tp.new t.p t.asked x.s0 mo).fs (h1.length+2)),Cl.l [St.zero.enc],Cl.l [x.s0.enc]]).set rb (Cl.b (bs.map (λb=>b.1)++[h1.length]))
theorem LP {h1:HH} (W:Wf t) (A:jf Pt h1 n t ro rb bs) {x:Nd}{mo:Nat} (I:TI x.s0 (Tp.new t.p t.asked x.s0 mo) x.e 1) :
 jf Pt (ptH h1 t ro rb bs x mo) n (t.add x) ro rb (bs++[(h1.length,h1.length+2,Tp.new t.p t.asked x.s0 mo)]):=by
 have hn:=iL A.ob;have hro:=gy A.og;have hrb:=uU A.br;have n1:n≠ro:=k8 A.ob A.og;have n2:rb≠n:=wJ A.ob A.br;have n3:rb≠ro:=wK A.og A.br;have old:∀ i,i < h1.length->i≠ro->i≠rb->(ptH h1 t ro rb bs x mo)[i]?=h1[i]?:=λi hi c1 c2=>by unfold ptH;rw[Ql (QW c2),PV (by rw[QS];exact hi),Ql (QW c1)]
 have nw:∀ k,k < 3->(ptH h1 t ro rb bs x mo)[h1.length+k]?=[Cl.o "Branch" ((Tp.new t.p t.asked x.s0 mo).fs (h1.length+2)),.l [St.zero.enc],.l [x.s0.enc]][k]?:=λk hk=>by unfold ptH;rw[Ql (by lia),QB (by rw[QS];lia),QS];congr 1;lia
 have olds:∀ (j:Nat) (b:Bx),bs[j]?=aa b->b.1 < h1.length/\b.2.1 < h1.length/\b.1≠ro/\b.1≠rb/\b.2.1≠ro/\b.2.1≠rb:=λj b hb=>by obtain ⟨y,hy⟩:=jg (l:=t.ds) (by rw[← A.len];exact dO hb);have ta:=(A.tp j b y hb hy).1;exact ⟨iL ta.ob,gy ta.li,k8 ta.ob A.og,(wJ ta.ob A.br).symm,λz=>(List.nodup_cons.mp A.nd2).1 (by rw[← z];exact List.mem_map.mpr ⟨b,P8 hb,rfl⟩),(wK ta.li A.br).symm⟩
 refine ⟨(lR (old n hn n1 (QW n2))).trans A.ob,?_,?_,by simp[Tr.add,A.len],λj b d hb hd=>?_,?_,?_,λj c hj=>?_⟩
 ·unfold ptH;rw[kC (QW n3),wC (by rw[QS];exact hro),tK hro,Gf];show aa (gu t.ds++[x.org])=aa (gu (t.ds++[x]));rw[Bl W.l0]
 ·unfold ptH;rw[Ep (by simp;lia)];simp
 ·rcases Qs j bs.length with c|c
  ·rw[PV c] at hb;have hd':t.ds[j]?=aa d:=by have:(t.ds++[x])[j]?=aa d:=hd;rw[PV (by rw[← A.len];exact c)] at this;exact this
   obtain ⟨q1,q2,q3,q4⟩:=A.tp j b d hb hd';obtain ⟨o1,o2,o3,o4,o5,o6⟩:=olds j b hb;exact ⟨⟨(lR (old _ o1 o3 o4)).trans q1.ob,(oz (old _ o2 o5 o6)).trans q1.li⟩,q2,q3,q4⟩
  ·have je:j=bs.length:=by have:=dO hb;simp at this;lia
   subst je;simp at hb;have hd':(t.ds++[x])[bs.length]?=aa d:=hd;rw[A.len] at hd';simp at hd';subst hb hd';have w0:=nw 0 (by decide);have w2:=nw 2 (by decide);exact ⟨⟨by unfold oat;rw[show h1.length=h1.length+0 from rfl,w0];rfl,by unfold lat;rw[w2];rfl⟩,I,rfl,rfl⟩
 ·rw[RP];refine List.nodup_append.mpr ⟨A.nd1,by simp,λa ha b hb=>?_⟩;simp at hb;subst hb;obtain ⟨y,hy,rfl⟩:=List.mem_map.mp ha;obtain ⟨j,hj⟩:=RX hy;have:=(olds j y hj).1;lia
 ·rw[RP,← List.cons_append];refine List.nodup_append.mpr ⟨A.nd2,by simp,λa ha b hb=>?_⟩;simp at hb;subst hb;rcases List.mem_cons.mp ha with z|z
  lia
  ·obtain ⟨y,hy,rfl⟩:=List.mem_map.mp z;obtain ⟨j,hj⟩:=RX hy;have:=(olds j y hj).2.1;lia
 ·obtain ⟨p1,p2,p3,p4,p5⟩:=A.pt j c hj;have jl:=dO p1;refine ⟨(old j jl p3 p4).trans p1,p2,p3,p4,λb hb=>?_⟩;rcases List.mem_append.mp hb with q|q
  exact p5 b q
  ·simp at q;subst q;exact ⟨by show j≠h1.length;lia,by show j≠h1.length+2;lia⟩
theorem lu (P:TrP T G) (W:Wf t) (A:jf Pt h n t ro rb bs) (k:Nat) {i m:Nat}{d:Nd} (hd:t.ds[i]?=aa d) (hm:m<=d.en) (th:Th) {v:Int} (hv:Wth v) {e:Nat} (R:Run (th.put (d.f m) v) t.p t.asked (t.most - m) e) :
 Et Pt (runN T G (k+13) (.m "Tree" "part") [.o n,.p (.int i),.p (.int m),.p th.enc,.p (.int v)] h) (.p (.int t.ds.length)) n (t.add (Nd.of t i m d (th.put (d.f m) v) e)) ro rb:=by
 obtain ⟨h1,b1,⟨bs1,A1⟩⟩:=rG P W A k hd hm;have a0:At m (d.f m):=W.at_ hd hm;have ml:=QD hm (W.qb hd);have m1:=W.m1;have l1:=W.l1;have lb:=A1.len;have I:TI (th.put (d.f m) v) (Tp.new t.p t.asked (th.put (d.f m) v) (t.most - m)) e 1:=Bp W.ok W.ask ((a0.put hv th).mono (by lia)) R (by lia);have A2:=LP W A1 (x:=Nd.of t i m d (th.put (d.f m) v) e) (mo:=t.most - m) I;refine ⟨_,?_,⟨_,A2⟩⟩;have hn:=iL A1.ob;have hro:=gy A1.og;have hrb:=uU A1.br;have n1:n≠ro:=k8 A1.ob A1.og;have n2:rb≠n:=wJ A1.ob A1.br;have n3:rb≠ro:=wK A1.og A1.br;have ck:=mD P.tp P.th (k+9) th h1;have ol:(gu t.ds).length < 100000:=by rw[lq W.l0];lia
 have o2:oat (h1.set ro (.l (gu t.ds++[.tup [.int i,.int m]]))) n=aa (Qd "Tree",tfs t ro rb):=(om n1 _).trans A1.ob;have r2:bat (h1.set ro (.l (gu t.ds++[.tup [.int i,.int m]]))) rb=aa (bs1.map (·.1)):=(uV n3 _).trans A1.br;have cs:(t.most:Int) - (m:Int)=((t.most - m:Nat):Int):=by lia
 have wt:=oB P.tp P.ld (k+9) a0.ok th v (h1.set ro (.l (gu t.ds++[.tup [.int i,.int m]])));have br:=oF P (k+9) t.p t.asked (t.most - m) (th.put (d.f m) v) (h1.set ro (.l (gu t.ds++[.tup [.int i,.int m]])));rw[QS] at br;have r3:∀ g:HH,bat (h1.set ro (.l (gu t.ds++[.tup [.int i,.int m]]))++g) rb=aa (bs1.map (·.1)):=λg=>(Er (by rw[QS];exact hrb)).trans r2;have bl:bs1.length < 100000:=by lia
 have o4:=A2.ob;have b4:=A2.br;unfold ptH Nd.org Nd.of at o4 b4;have f2:∀ w,fin h w (ptH h1 t ro rb bs1 (Nd.of t i m d (th.put (d.f m) v) e) (t.most - m))=aa (w,ptH h1 t ro rb bs1 (Nd.of t i m d (th.put (d.f m) v) e) (t.most - m)):=λw=>by refine lg ro (gy A.og) (λz=>?_) w;have z2:=oz z;rw[A.og,A2.og] at z2;have z3:=congrArg UN (P5 z2);rw[lq W.l0,lq (by simp[Tr.add])] at z3;simp[Tr.add] at z3
 unfold ptH Nd.org Nd.of at f2;unfold ptH Nd.org Nd.of;have lc:((bs1.map (·.1)++[h1.length]).length:Int) - 1=(t.ds.length:Int):=by simp;lia
 rw[run_eq P.part rfl,gH];simp only[fc,Qa,QL,P9,QJ];have bl':¬ (100000<=bs1.length):=by lia
 have bl2:bs1.length+1<=100000:=by lia
 have lb2:(bs1.length:Int)=(t.ds.length:Int):=by lia
 simp only[RP,Qa,QL] at b4;simp[A.ob,b1,ck,A1.ob,A1.og,rd,ol,o2,r2,cs,wt,br,r3,bl,bl2,o4,b4,lb2,f2,mj]
end
structure TrQ (T:FK->Option Fn):Prop where
 parent:T (.m "Tree" "parent")=aa fV
 path:T (.m "Tree" "path")=aa gI
 children:T (.m "Tree" "children")=aa f7
inductive Pth (t:Tr):Nat->List Nat->Prop where
 | zero:Pth t 0 [0]
 | step {i:Nat}{d:Nd}{l:List Nat} (hd:t.ds[i]?=aa d) (hi:0 < i) (r:Pth t d.par l):Pth t i (i::l)
theorem Pth.add {t:Tr}{x:Nd}{i:Nat}{l:List Nat} (a:Pth t i l):Pth (t.add x) i l:=by
 induction a with
 | zero=>exact .zero| step hd hi r ih=>exact .step (by show (t.ds++[x])[_]?=_;rw[PV (dO hd)];exact hd) hi ih
theorem Pth.len {t:Tr} (W:Wf t) {i:Nat}{l:List Nat} (a:Pth t i l):l.length<=i+1:=by
 induction a with
 | zero=>exact P6 _
 | step hd hi r ih =>
  obtain ⟨_,_,h2,_⟩:=(W.each _ _ hd).par hi;rw[P9];lia
theorem Wf.pth {t:Tr} (W:Wf t):∀ (n i:Nat) (d:Nd),i<=n->t.ds[i]?=aa d->∃ l,Pth t i l
 | n,i,d,hn,hd=>by
  rcases Q6 i with z|z
  subst z;exact ⟨_,.zero⟩
  ·obtain ⟨q,h1,h2,_⟩:=(W.each i d hd).par z;cases n with
   | zero=>lia
   | succ n =>
    obtain ⟨l,hl⟩:=W.pth n d.par q (by lia) h1;exact ⟨_,.step hd z hl⟩
noncomputable def kids (t:Tr) (i:Nat):List Nat:=((Qm (t.ds.length - 1)).map (·+1)).filter λj=>decide ((t.ds[j]?).map Nd.par=aa i)
theorem Ew {t:Tr} (W:Wf t) {i c:Nat} (h:c∈kids t i):i < c/\∃ d,t.ds[c]?=aa d/\d.par=i:=by obtain ⟨h1,h2⟩:=List.mem_filter.mp h;obtain ⟨j,hj,rfl⟩:=List.mem_map.mp h1;have jl:=List.mem_range.mp hj;obtain ⟨d,hd⟩:=jg (l:=t.ds) (i:=j+1) (by lia);have e:=of_decide_eq_true h2;rw[hd] at e;have e2:=P5 e;obtain ⟨_,_,h3,_⟩:=(W.each _ _ hd).par (VD _);exact ⟨by lia,d,hd,e2⟩
section
variable {T:FK->Option Fn}{G:aB->Option W}{Pt:Pts}{h:HH}{n:Nat}{t:Tr}{ro rb:Nat}{bs:List Bx}
noncomputable def yp (i:Nat) (d:Nd):D:=if i=0 then .non else d.org
theorem Ex {i:Nat}{d:Nd} (hd:t.ds[i]?=aa d):dN (.lst (gu t.ds)) (.int i)=aa (yp i d):=by
 unfold yp;rcases Q6 i with z|z
 subst z;rw[if_pos rfl,dI,iy];rfl;rw[if_neg (by lia)];exact rF hd z
theorem oG (P:TrP T G) (Q:TrQ T) (W:Wf t) (A:jf Pt h n t ro rb bs) (k:Nat) {i:Nat}{d:Nd} (hd:t.ds[i]?=aa d):runN T G (k+3) (.m "Tree" "parent") [.o n,.p (.int i)] h=aa (.p (yp i d),h):=by rw[run_eq Q.parent rfl];have c0:=fm P W A k (dO hd);simp[-dI,fV,A.ob,c0,A.og,rd,Ex hd,cY]
theorem lT (h:HH) (xs:List D):lat (h++[.l xs]) h.length=aa xs:=by simp[lat]
theorem Ih (h:HH) (c c':Cl):(h++[c]).set h.length c'=h++[c']:=by simp
theorem ly (xs:List D) (d:D):dN (.lst (xs++[d])) (.int (-1))=aa d:=by
 rw[dI];show ((place (xs++[d]).length (-1)).bind λj=>(xs++[d])[j]?)=aa d;have:place (xs++[d]).length (-1)=aa xs.length:=by unfold place;rw[if_neg (by decide),if_pos (by simp;lia)];congr 1;simp;lia
 rw[this];simp
theorem Ey (P:TrP T G) (Wt:Wf t) (A:jf Pt h n t ro rb bs) (F:FK->List W->HH->Option (W×HH)) (w1:W) {i:Nat}{l:List Nat} (hp:Pth t i l):∀ (pre:List Nat) (f:Nat),pre.length+i+1<=1000->i<=f →
 eg (BT.ev F G ptC) (evS F G ptB) (f+1) [aa (.o n),aa w1,aa (.r h.length)] (h++[.l (c7 (pre++[i]))])=aa (.nx [aa (.o n),aa w1,aa (.r h.length)] (h++[.l (c7 (pre++l))])):=by
 have ob:∀ g,oat (h++g) n=aa (Qd "Tree",tfs t ro rb):=λg=>(wD (iL A.ob)).trans A.ob;have og:∀ g,lat (h++g) ro=aa (gu t.ds):=λg=>(wC (gy A.og)).trans A.og;have tst:∀ (pre:List Nat) (i:Nat),BT.ev F G ptC [aa (.o n),aa w1,aa (.r h.length)] (h++[.l (c7 (pre++[i]))])=aa (.p (.bl (!decide (i=0))),h++[.l (c7 (pre++[i]))]):=λpre i=>by
  have e:c7 (pre++[i])=c7 pre++[.int i]:=by simp[c7]
  rw[e]
  by_cases z:i=0
  ·subst z;simp[-dI,ptC,rd,lT,ly]
  ·have z2:¬ (i:Int)=0:=by lia
   simp[-dI,ptC,rd,lT,ly,z,z2]
 induction hp with
 | zero =>
  intro pre f _ _;rw[eg,tst];rfl
 | @step i d l hd hi r ih =>
  intro pre f hl hf;obtain ⟨_,_,h2,_⟩:=(Wt.each _ _ hd).par hi;have q:=tst pre i;rw[show (!decide (i=0))=ah by simp;lia] at q;have e:c7 (pre++[i])=c7 pre++[.int i]:=by simp[c7]
  have b:evS F G ptB [aa (.o n),aa w1,aa (.r h.length)] (h++[.l (c7 (pre++[i]))])=aa (.nx [aa (.o n),aa w1,aa (.r h.length)] (h++[.l (c7 ((pre++[i])++[d.par]))])):=by
   have e2:c7 ((pre++[i])++[d.par])=c7 pre++[.int i]++[.int d.par]:=by simp[c7]
   have ix2:dN d.org (.int 0)=aa (.int d.par):=rfl;have pl:(c7 pre++[D.int i]).length < 100000:=by simp[c7];lia
   have og':dN (.lst (gu t.ds)) (.int i)=aa d.org:=rF hd hi;have lm:mj (.r h.length) (h++[.l (c7 pre++[.int i])])=ah:=by simp[mj,lT]
   rw[e,e2];have mw:meW .append (.r h.length) [.p (.int d.par)] (h++[.l (c7 pre++[.int i])])=aa (.p .non,h++[.l (c7 pre++[.int i]++[.int d.par])]):=by rw[j9,lT];show (if (c7 pre++[D.int i]).length < lim then _ else af)=_;rw[if_pos (show _ < lim from pl),Ih]
   simp[-dI,-gw,-j9,ptB,ob,og,rd,lT,ly,og',ix2,kMe,lm,mw]
  cases f with
  | zero=>lia
  | succ f =>
   have ih':=ih (pre++[i]) f (by simp;lia) (by lia);rw[eg,q,iJ,kj,b,gk,ih'];simp
theorem yq (xs:List D):lZ (-1) xs=xs.reverse:=by unfold lZ;rw[PySem.W.krv_bounds];show (Tw ((xs.length:Int) - 1) (-1) (-1)).filterMap (λi=>xs[i]?)=_;rw[PySem.W.krv_sliceRange,PySem.W.krv_range,List.filterMap_reverse];have:=PySem.W.krv_all xs.toArray;simp only[PY,List.getElem?_toArray] at this;rw[this]
theorem tQ (P:TrP T G) (Q:TrQ T) (Wt:Wf t) (A:jf Pt h n t ro rb bs) (k:Nat) {i:Nat}{l:List Nat} (hi:i < t.ds.length) (hp:Pth t i l):runN T G (k+3) (.m "Tree" "path") [.o n,.p (.int i)] h=aa (.p (.lst (c7 l.reverse)),h):=by
 rw[run_eq Q.path rfl];have c0:=fm P Wt A k hi;have l1:=Wt.l1;have lp:=Ey P Wt A (runN T G (k+2)) (.p (.int i)) hp [] 99999 (by simp;lia) (by lia);have e1:c7 ([]++[i])=[.int i]:=rfl;rw[e1,RO] at lp;have f:=kY h [.l (c7 l)] (.lst (c7 l.reverse));have rv:lZ (-1) (c7 l)=c7 l.reverse:=by rw[yq];simp[c7]
 rw[gI];simp only[fc,Qa,QL,P9,QJ];simp[A.ob,c0,turns,lp,rd,lT,rv,f]
theorem rJ (P:TrP T G) (Q:TrQ T) (Wt:Wf t) (A:jf Pt h n t ro rb bs) (k:Nat) {i:Nat} (hi:i < t.ds.length):runN T G (k+3) (.m "Tree" "children") [.o n,.p (.int i)] h=aa (.p (.lst (c7 (kids t i))),h):=by
 rw[run_eq Q.children rfl];have c0:=fm P Wt A k hi;have l1:=Wt.l1;have ol:=lq Wt.l0;have rg:gP .rng2 [.int 1,.int ((gu t.ds).length:Int)]=aa (upto 1 (t.ds.length - 1)):=by
  rw[jR,ol];have c:((-100000<=(1:Int):Bool)&&((1:Int)<=100000:Bool)&&((-100000<=(t.ds.length:Int):Bool))&&(((t.ds.length:Int)<=100000:Bool)))=ah:=by simp only[PZ,decide_eq_true_eq];lia
  rw[if_pos c];congr 2;lia
 have ct:∀ (j:Nat) (d:Nd),t.ds[j+1]?=aa d->BT.ev (runN T G (k+2)) G cnC [aa (.p (.int ((1:Int)+(j:Int)))),aa (.o n),aa (.p (.int i))] h=aa (.p (.bl (decide (d.par=i))),h):=λj d hd=>by
  have ix:=rF hd (VD _);rw[show ((j+1:Nat):Int)=1+(j:Int) by lia] at ix;have ix2:dN d.org (.int 0)=aa (.int d.par):=rfl;have q:((d.par:Int)==(i:Int))=decide (d.par=i):=by
   by_cases z:d.par=i
   rw[z];simp
   ·have:¬ (d.par:Int)=(i:Int):=by lia
    simp[z,this]
  simp[-dI,-gw,cnC,A.ob,A.og,rd,ix,ix2,q]
 have cm:d7 (gA (evs (runN T G (k+2)) G (.cons cnC .nil)) (BT.ev (runN T G (k+2)) G (.var 0)) [aa (.o n),aa (.p (.int i))]) 1 (upto 1 (t.ds.length - 1)) h=aa (c7 (kids t i),h):=by
  have e0:c7 (kids t i)=(Qm (t.ds.length - 1)).filterMap λj=>if decide ((t.ds[j+1]?).map Nd.par=aa i)=ah then aa (D.int (((j+1:Nat):Int))) else af:=by
   unfold kids c7
   induction Qm (t.ds.length - 1) with
   | nil=>rfl
   | cons a r ih =>
    rw[Qa,Tn,Qv]
    by_cases z:(t.ds[a+1]?).map Nd.par=aa i
    ·simp only[z,decide_true,if_true,Qa];rw[ih]
    ·simp only[z,decide_false,if_false,Sq];rw[ih]
  rw[e0];refine Bg _ (λ(k:Nat)=>D.int (1+(k:Int))) _ h (Qm (t.ds.length - 1)) λj hj=>?_;have jl:=List.mem_range.mp hj;obtain ⟨d,hd⟩:=jg (l:=t.ds) (i:=j+1) (by lia);have c:=ct j d hd;have sl:([D.int ((1:Int)+(j:Int))].map fO++[aa (.o n),aa (.p (.int i))]:Sl)=[aa (.p (.int ((1:Int)+(j:Int)))),aa (.o n),aa (.p (.int i))]:=rfl;unfold gA;rw[sl,hd,show ((j+1:Nat):Int)=1+(j:Int) by lia]
  by_cases q:d.par=i
  ·rw[decide_eq_true q] at c;simp[evs,c,q]
  ·rw[decide_eq_false q] at c;simp[evs,c,q]
 have cl:(c7 (kids t i)).length<=100000:=by unfold kids c7;rw[Qt];have:=Vy (λj=>decide ((t.ds[j]?).map Nd.par=aa i)) ((Qm (t.ds.length - 1)).map (·+1));rw[Qt,List.length_range] at this;lia
 have ce:BT.ev (runN T G (k+2)) G (.comp ai .rng2 (.cons (.cst (.int 1)) (.cons (.bi .len ai (.cons (.fld (.var 0) "origins") .nil)) .nil)) ["child"] [(0,"self"),(1,"run")] (.cons cnC .nil) (.var 0)) [aa (.o n),aa (.p (.int i))] h=aa (.p (.lst (c7 (kids t i))),h):=by
  refine rD (ws:=[.p (.int 1),.p (.int ((gu t.ds).length:Int))]) (h1:=h) ?_ ?_ rfl rfl cm cl
  ·have:(gu t.ds).length<=100000:=by rw[ol];lia
   simp[A.ob,A.og,rd]
  simp[-jR,rds,rd,rg]
 have x1:evS (runN T G (k+2)) G (.ex (.meth (.var 0) "check_run" (.cons (.var 1) .nil))) [aa (.o n),aa (.p (.int i))] h=aa (.nx [aa (.o n),aa (.p (.int i))] h):=by simp[A.ob,c0]
 have x2:=(jJ x1).trans (lP ce);show kM (evS (runN T G (k+2)) G (.seq _ _) [aa (.o n),aa (.p (.int i))] h) (fin h)=_;rw[x2,mH,cY]
end
noncomputable def trB:S:=(.seq (.set 7 (.call "_law_drawn" (Z7 (.var 0) (.bin .add (.bin .add (.var 1) (.cst (.int 1))) (.bin .mul (.cst (.int 5)) (.var 6))) (.bin .add (.var 6) (.cst (.int 1)))))) (.seq (.set 8 (.call "_law_drawn" (Z7 (.var 0) (.bin .add (.bin .add (.var 1) (.cst (.int 2))) (.bin .mul (.cst (.int 5)) (.var 6))) (.bin .add (.meth (.var 5) "end" (Z9 (.var 7))) (.cst (.int 1)))))) (.seq (.set 9 (.idx (.lst ai (Z6 (.cst (.int 0)) (.cst (.int 1)) (.cst (.int 7)) (.cst (.int 10006)))) (.call "_law_drawn" (Z7 (.var 0) (.bin .add (.bin .add (.var 1) (.cst (.int 3))) (.bin .mul (.cst (.int 5)) (.var 6))) (.cst (.int 4)))))) (.ex (.meth (.var 5) "part" (Z6 (.var 7) (.var 8) (.call "_law_thing" (Z8 (.var 0) (.bin .add (.bin .add (.var 1) (.cst (.int 4))) (.bin .mul (.cst (.int 5)) (.var 6))))) (.var 9)))))))
noncomputable def iH:Fn:=⟨["_law_script","_law_at","_law_program_here","_law_asked_here","_law_most"],["_law_script","_law_at","_law_program_here","_law_asked_here","_law_most","_law_tree_here","_law_k","_law_run","_law_moment","_law_worth"], (.seq (.set 5 (.make "Tree" (Z7 (.var 2) (.var 3) (.var 4)))) (.seq (.for [(6,"_law_k")] .rng1 (Z9 (.call "_law_drawn" (Z7 (.var 0) (.var 1) (.cst (.int 5))))) trB) (.ret (.var 5))))⟩
noncomputable def alE:E:=(.meth (.var 1) "at" (Z8 (.var 2) (.var 0)))
noncomputable def alC:E:=(.comp ai .rng1 (Z9 (.bin .add (.meth (.var 0) "end" (Z9 (.var 1))) (.cst (.int 1)))) ["_law_moment"] [(0,"_law_tree_here"),(1,"_law_run")] .nil alE)
noncomputable def jh:Fn:=⟨["_law_tree_here","_law_run"],["_law_tree_here","_law_run"], (.ret alC)⟩
noncomputable def lz (d:Nd):List St:=(Qm (d.en+1)).map d.f
noncomputable def dF (d:Nd):D:=.lst ((lz d).map St.enc)
structure LwT (T:FK->Option Fn):Prop where
 lw:Lw T
 thing:T "_law_thing"=aa fT
 tree:T "_law_tree"=aa iH
 all:T "_law_all"=aa jh
section
variable {T:FK->Option Fn}{G:aB->Option W}{Pt:Pts}{h:HH}{n:Nat}{t:Tr}{ro rb:Nat}
theorem mQ (d:Nd):(lz d).length=d.en+1:=by simp[lz]
theorem Ii (d:Nd) {m:Nat} (h:m<=d.en):(lz d)[m]?=aa (d.f m):=by rw[lz,Qj,T4 (by lia)];rfl
theorem kE (d:Nd) {m:Nat} (h:m<=d.en):dN (dF d) (.int m)=aa (d.f m).enc:=by unfold dF;rw[dI,iy,Qj,Ii d h];rfl
theorem ji (P:TrP T G) (hT:T "_law_all"=aa jh) (Wt:Wf t) (A:jM Pt h n t ro rb) (k:Nat) {i:Nat}{d:Nd} (hd:t.ds[i]?=aa d) :
 Et Pt (runN T G (k+13) "_law_all" [.o n,.p (.int i)] h) (.p (dF d)) n t ro rb:=by
 obtain ⟨bs,A1⟩:=id A;obtain ⟨h1,b1,A2⟩:=tP P Wt A1 (k+2) hd;have en:=Wt.qb hd;have m1:=Wt.m1;have rg:gP .rng1 [.int ((d.en:Int)+1)]=aa (upto 0 (d.en+1)):=by
  rw[gK];have c:((-100000<=((d.en:Int)+1):Bool)&&(((d.en:Int)+1)<=100000:Bool))=ah:=by simp only[PZ,decide_eq_true_eq];lia
  rw[if_pos c];congr 2
 have e0:(lz d).map St.enc=(Qm (d.en+1)).filterMap λm=>aa (d.f m).enc:=by
  unfold lz
  induction Qm (d.en+1) with
  | nil=>rfl| cons a r ih=>rw[Qa,Qa,Qv,ih]
 obtain ⟨h2,c1,A3⟩:=Ib (gA (evs (runN T G (k+12)) G .nil) (BT.ev (runN T G (k+12)) G alE) [aa (.o n),aa (.p (.int i))]) (λ(m:Nat)=>D.int (0+(m:Int))) (λm=>aa (d.f m).enc) (λh=>jM Pt h n t ro rb) (Qm (d.en+1)) (λm hm g ⟨bs2,Ag⟩=>by
  have ml:=List.mem_range.mp hm;obtain ⟨g2,q1,q2⟩:=rG P Wt Ag k hd (m:=m) (by lia);refine ⟨g2,?_,q2⟩;have sl:([D.int ((0:Int)+(m:Int))].map fO++[aa (.o n),aa (.p (.int i))]:Sl)=[aa (.p (.int (m:Int))),aa (.o n),aa (.p (.int i))]:=by rw[Int.zero_add];rfl
  unfold gA;rw[sl];simp[evs,alE,Ag.ob,q1]) h1 A2
 rw[← e0] at c1;have ce:BT.ev (runN T G (k+12)) G alC [aa (.o n),aa (.p (.int i))] h=aa (.p (dF d),h2):=by refine rD (ws:=[.p (.int ((d.en:Int)+1))]) (h1:=h1) ?_ ?_ rfl rfl c1 ?_;simp[A1.ob,b1];rw[show rds [W.p (D.int ((d.en:Int)+1))] h1=aa [D.int ((d.en:Int)+1)] from rfl,QK,rg];rfl;rw[Qt,mQ];lia
 obtain ⟨h3,f1,f2⟩:=rE h (dF d) h2;refine ⟨h3,?_,?_⟩
 ·rw[run_eq hT rfl];show kM (evS (runN T G (k+12)) G (.ret alC) [aa (.o n),aa (.p (.int i))] h) (fin h)=_;rw[lP ce,mH,f1]
 ·rcases f2 with z|z
  rw[z];exact A3;rw[z];exact A
end
structure SmT (t t':Tr):Prop where
 p:t'.p=t.p
 asked:t'.asked=t.asked
 most:t'.most=t.most
theorem SmT.refl (t:Tr):SmT t t:=⟨rfl,rfl,rfl⟩
theorem SmT.trans {t u v:Tr} (x:SmT t u) (y:SmT u v):SmT t v:=⟨y.p.trans x.p,y.asked.trans x.asked,y.most.trans x.most⟩
theorem yr (z:Nat) (h:z < 4):∃ v:Int,Wth v/\dN (.lst [.int 0,.int 1,.int 7,.int 10006]) (.int (z:Int))=aa (.int v):=by
 have:z=0\/z=1\/z=2\/z=3:=by omega
 rcases this with rfl|rfl|rfl|rfl
 exact ⟨0,by simp[Wth],rfl⟩;exact ⟨1,by simp[Wth],rfl⟩;exact ⟨7,by simp[Wth],rfl⟩;exact ⟨10006,by simp[Wth],rfl⟩
theorem Ox:big 5=ah:=by unfold big;decide
section
variable {T:FK->Option Fn}{G:aB->Option W}{Pt:Pts}{n:Nat}{ro rb:Nat}
noncomputable def slT (ns:List Int) (q:Int) (w2 w3 w4:W) (n:Nat) (x6 x7 x8 x9:Option W):Sl:=[aa (.p (.lst (cX ns))),aa (.p (.int q)),aa w2,aa w3,aa w4,aa (.o n),x6,x7,x8,x9]
theorem Ez (P:TrP T G) (L:LwT T) (ns:List Int) (hl:ns.length<=1000) (q:Int) (w2 w3 w4:W) (k:Nat) {h:HH}{t:Tr} (Wt:Wf t) (A:jM Pt h n t ro rb) (j:Nat) (hj:t.ds.length=j+1) (h5:j < 5) (x7 x8 x9:Option W) :
 ∃ h' t' y7 y8 y9,evS (runN T G (k+13)) G trB (slT ns q w2 w3 w4 n (aa (.p (.int (j:Int)))) x7 x8 x9) h=aa (.nx (slT ns q w2 w3 w4 n (aa (.p (.int (j:Int)))) y7 y8 y9) h')/\Wf t'/\jM Pt h' n t' ro rb/\SmT t t'/\t'.ds.length=j+2:=by
 obtain ⟨i,hi,di⟩:=fZ (G:=G) L.lw ns hl (q+1+5*(j:Int)) ((j:Int)+1) (by lia);obtain ⟨d,hd⟩:=jg (l:=t.ds) (i:=i) (by lia);obtain ⟨bs,A0⟩:=A;obtain ⟨h1,b1,⟨bs1,A1⟩⟩:=tP P Wt A0 (k+3) hd;obtain ⟨m,hm,dm⟩:=fZ (G:=G) L.lw ns hl (q+2+5*(j:Int)) ((d.en:Int)+1) (by lia);obtain ⟨z,hz,dz⟩:=fZ (G:=G) L.lw ns hl (q+3+5*(j:Int)) 4 (by lia);obtain ⟨v,hv,ev⟩:=yr z (by lia);obtain ⟨th,rt⟩:=qa (G:=G) L.lw L.thing ns hl (q+4+5*(j:Int));obtain ⟨e,R,_⟩:=mP (th.put (d.f m) v) t.p t.asked (t.most - m);have hm':m<=d.en:=by lia
 obtain ⟨h2,b2,A2⟩:=lu P Wt A1 k hd hm' th hv R;have a0:=(Wt.at_ hd hm').put hv th;have W2:=rH Wt hd hm' a0 R (by lia) rfl;refine ⟨h2,_,aa (.p (.int i)),aa (.p (.int m)),aa (.p (.int v)),?_,W2,A2,⟨rfl,rfl,rfl⟩,by simp[Tr.add];lia⟩;have di:=di (k+11);have dm:=dm (k+11);have dz:=dz (k+11);have rt:=rt (k+10);rw[trB,slT,slT];simp[-dI,Ox,di,A0.ob,b1,dm,dz,ev,A1.ob,rt,b2]
theorem wM (j r:Nat):upto (j:Int) (r+1)=.int (j:Int)::upto ((j+1:Nat):Int) r:=by unfold upto;rw[Tu,Qa,TM];simp only[Int.natCast_zero,Int.add_zero,SD,true_and];apply Re;intro i _;simp;lia
theorem wN (P:TrP T G) (L:LwT T) (ns:List Int) (hl:ns.length<=1000) (q:Int) (w2 w3 w4:W) (k:Nat):∀ (r j:Nat) (h:HH) (t:Tr) (x6 x7 x8 x9:Option W),Wf t->jM Pt h n t ro rb->t.ds.length=j+1->j+r<=5 →
 ∃ h' t' y6 y7 y8 y9,gB (evS (runN T G (k+13)) G trB) [(6,"_law_k")] (upto (j:Int) r) (slT ns q w2 w3 w4 n x6 x7 x8 x9) h=aa (.nx (slT ns q w2 w3 w4 n y6 y7 y8 y9) h')/\Wf t'/\jM Pt h' n t' ro rb/\SmT t t'/\t'.ds.length=j+r+1
 | 0,j,h,t,x6,x7,x8,x9,Wt,A,hj,_=>⟨h,t,x6,x7,x8,x9,rfl,Wt,A,.refl t,hj⟩
 | r+1,j,h,t,x6,x7,x8,x9,Wt,A,hj,h5=>by obtain ⟨h1,t1,y7,y8,y9,b1,W1,A1,s1,l1⟩:=Ez P L ns hl q w2 w3 w4 k Wt A j hj (by lia) x7 x8 x9;obtain ⟨h2,t2,z6,z7,z8,z9,b2,W2,A2,s2,l2⟩:=wN P L ns hl q w2 w3 w4 k r (j+1) h1 t1 (aa (.p (.int (j:Int)))) y7 y8 y9 W1 A1 l1 (by lia);refine ⟨h2,t2,z6,z7,z8,z9,?_,W2,A2,s1.trans s2,by lia⟩;rw[wM];have st:∀ l,gB (evS (runN T G (k+13)) G trB) [(6,"_law_k")] (.int (j:Int)::l) (slT ns q w2 w3 w4 n x6 x7 x8 x9) h=j4 (evS (runN T G (k+13)) G trB (slT ns q w2 w3 w4 n (aa (.p (.int (j:Int)))) x7 x8 x9) h) (gB (evS (runN T G (k+13)) G trB) [(6,"_law_k")] l):=λl=>rfl;rw[st,b1,gk,b2]
theorem rK (P:TrP T G) (L:LwT T) (ns:List Int) (hl:ns.length<=1000) (q:Int) (k:Nat) {p:Pg} (hp:Pg.ok p) (ha:Ask asked) (hm:most<=100) (h:HH) (hP:∀ i c,Pt i=aa c->h[i]?=aa c) :
 ∃ h' t,runN T G (k+14) "_law_tree" [.p (.lst (cX ns)),.p (.int q),.p (dB p),.p (.lst (cX asked)),.p (.int most)] h=aa (.o h.length,h')/\Wf t/\jM Pt h' h.length t (h.length+1) (h.length+5)/\t.p=p/\t.asked=asked/\t.most=most/\t.ds.length<=5:=by
 obtain ⟨e,R,_⟩:=mP St.zero p asked most;have b1:=Bq P (k+9) p asked most e h;have A1:=Br hp ha hm R hP;have W1:=Ig hp ha hm R;obtain ⟨z,hz,dz⟩:=fZ (G:=G) L.lw ns hl q 5 (by lia);obtain ⟨h2,t2,z6,z7,z8,z9,b2,W2,A2,s2,l2⟩:=wN P L ns hl q (.p (dB p)) (.p (.lst (cX asked))) (.p (.int most)) k z 0 _ _ af af af af W1 A1 rfl (by lia);refine ⟨h2,t2,?_,W2,A2,s2.p,s2.asked,s2.most,by lia⟩;obtain ⟨bs2,A3⟩:=id A2;have f:fin h (.o h.length) h2=aa (.o h.length,h2):=by
  unfold fin
  by_cases c:h2.length=h.length
  rw[if_pos c]
  ·rw[if_neg c]
   by_cases c2:h2.take h.length=h
   rw[if_pos c2];exact if_neg (QG _);rw[if_neg c2]
 have dz:=dz (k+11);have rg:gP .rng1 [.int (z:Int)]=aa (upto 0 z):=by
  rw[gK];have c:((-100000<=(z:Int):Bool)&&((z:Int)<=100000:Bool))=ah:=by simp only[PZ,decide_eq_true_eq];lia
  rw[if_pos c];congr 2
 rw[slT] at b2
 change gB _ _ (upto 0 z) _ _=_ at b2
 rw[run_eq L.tree rfl,iH];simp only[fc,Qa,QL,P9,QJ];have x1:BT.ev (runN T G (k+13)) G (.make "Tree" (.cons (.var 2) (.cons (.var 3) (.cons (.var 4) .nil)))) [aa (.p (.lst (cX ns))),aa (.p (.int q)),aa (.p (dB p)),aa (.p (.lst (cX asked))),aa (.p (.int most)),af,af,af,af,af] h=aa (.o h.length,h++[.o "Tree" (tfs (Tr.new p asked most e) (h.length+1) (h.length+5)),.l [.non],.o "Branch" ((Tp.new p asked St.zero most).fs (h.length+4)),.l [St.zero.enc],.l [St.zero.enc],.b [h.length+2]]):=by simp[b1]
 have x2:evS (runN T G (k+13)) G (.for [(6,"_law_k")] .rng1 (.cons (.call "_law_drawn" (.cons (.var 0) (.cons (.var 1) (.cons (.cst (.int 5)) .nil)))) .nil) trB) [aa (.p (.lst (cX ns))),aa (.p (.int q)),aa (.p (dB p)),aa (.p (.lst (cX asked))),aa (.p (.int most)),aa (.o h.length),af,af,af,af] (h++[.o "Tree" (tfs (Tr.new p asked most e) (h.length+1) (h.length+5)),.l [.non],.o "Branch" ((Tp.new p asked St.zero most).fs (h.length+4)),.l [St.zero.enc],.l [St.zero.enc],.b [h.length+2]])=aa (.nx (slT ns q (.p (dB p)) (.p (.lst (cX asked))) (.p (.int most)) h.length z6 z7 z8 z9) h2):=by simp[-gK,-gB,dz,rds,rd,rg,jx,b2]
 show kM (evS (runN T G (k+13)) G (.seq (.set 5 _) (.seq _ (.ret (.var 5)))) [aa (.p (.lst (cX ns))),aa (.p (.int q)),aa (.p (dB p)),aa (.p (.lst (cX asked))),aa (.p (.int most)),af,af,af,af,af] h) (fin h)=_;rw[fC x1];have x3:=jJ (b:=.ret (.var 5)) x2;show kM (evS (runN T G (k+13)) G (.seq _ (.ret (.var 5))) [aa (.p (.lst (cX ns))),aa (.p (.int q)),aa (.p (dB p)),aa (.p (.lst (cX asked))),aa (.p (.int most)),aa (.o h.length),af,af,af,af] _) (fin h)=_;rw[x3,lP (w:=.o h.length) (g:=h2) rfl,mH,f]
end
noncomputable def Ij:E:=(.cmp .ne (.call "_law_all" (Z8 (.var 4) (.cst (.int 0)))) (.call "states" (Z7 (.var 1) (.var 2) (.var 3))))
noncomputable def Bs:E:=(.cmp .ne (.meth (.var 4) "children" (Z9 (.var 5))) (.lst ai .nil))
noncomputable def Bt:S:=(.set 5 (.idx (.meth (.var 4) "children" (Z9 (.var 5))) (.neg (.cst (.int 1)))))
noncomputable def Bu:E:=(.cmp .notN (.meth (.var 4) "parent" (Z9 (.var 5))) (.cst .non))
noncomputable def Ik:E:=(.cmp .ne (.slc (.var 6) .nil (Z9 (.var 7))) (.slc (.var 9) .nil (Z9 (.var 7))))
noncomputable def Il:E:=(.bi .lzip ai (Z8 (.bin .add (.idx (.idx (.var 6) (.var 7)) (.cst (.int 1))) (.idx (.idx (.var 6) (.var 7)) (.cst (.int 2)))) (.bin .add (.idx (.idx (.var 9) (.var 7)) (.cst (.int 1))) (.idx (.idx (.var 9) (.var 7)) (.cst (.int 2))))))
noncomputable def EA:E:=(.cmp .ne (.idx (.var 0) (.cst (.int 0))) (.idx (.var 0) (.cst (.int 1))))
noncomputable def uX:E:=(.comp ai .seq (Z9 (.var 10)) ["_law_both"] [] (Z9 EA) (.var 0))
noncomputable def LQ:E:=(.or (.cmp .gt (.bi .len ai (Z9 uX)) (.cst (.int 1))) (.cmp .ne (.idx (.idx (.var 6) (.var 7)) (.cst (.int 0))) (.idx (.idx (.var 9) (.var 7)) (.cst (.int 0)))))
noncomputable def Im:E:=(.not (.call "_law_goes_on" (Z6 (.var 1) (.var 2) (.var 6) (.var 7))))
noncomputable def Io:S:=(.seq (.unp [(8,"_law_older"),(7,"_law_first")] (.meth (.var 4) "parent" (Z9 (.var 5)))) (.seq (.set 9 (.call "_law_all" (Z8 (.var 4) (.var 8)))) (.seq (.ife Ik (.ret (.cst (.bl ai))) .nil) (.seq (.set 10 Il) (.seq (.ife LQ (.ret (.cst (.bl ai))) .nil) (.ife Im (.ret (.cst (.bl ai))) .nil))))))
noncomputable def EB:E:=(.and (.cmp .le (.bi .len ai (Z9 (.var 6))) (.var 3)) (.not (.call "is_over" (Z8 (.var 1) (.idx (.var 6) (.neg (.cst (.int 1))))))))
noncomputable def Ip:E:=(.bin .add (.var 7) (.call "_law_drawn" (Z7 (.var 0) (.cst (.int 700)) (.bin .sub (.bi .len ai (Z9 (.var 6))) (.var 7)))))
noncomputable def Iq:E:=(.meth (.var 4) "part" (Z6 (.var 5) (.var 11) (.var 12) (.call "_law_of" (Z8 (.idx (.var 6) (.var 11)) (.var 12)))))
noncomputable def Ir:E:=(.meth (.var 4) "part" (Z6 (.var 5) (.var 11) (.var 12) (.cst (.int 9))))
noncomputable def Iu:E:=(.meth (.var 4) "part" (Z6 (.var 13) (.var 11) (.var 12) (.cst (.int 9))))
noncomputable def Iw:E:=(.or (.cmp .ne (.call "_law_all" (Z8 (.var 4) (.var 13))) (.var 6)) (.or (.cmp .ne (.call "_law_all" (Z8 (.var 4) (.var 14))) (.call "_law_all" (Z8 (.var 4) (.var 15)))) (.cmp .ne (.call "_law_all" (Z8 (.var 4) (.var 5))) (.var 6))))
noncomputable def Iz:E:=(.and (.cmp .eq (.call "_law_of" (Z8 (.meth (.var 4) "at" (Z8 (.var 14) (.var 11))) (.var 12))) (.cst (.int 9))) (.cmp .eq (.meth (.var 4) "path" (Z9 (.var 15))) (.bin .add (.meth (.var 4) "path" (Z9 (.var 5))) (.lst ai (Z8 (.var 13) (.var 15))))))
noncomputable def LR:S:=(.seq (.ife EB (.ret (.cst (.bl ai))) .nil) (.seq (.set 11 Ip) (.seq (.set 12 (.call "_law_thing" (Z8 (.var 0) (.cst (.int 701))))) (.seq (.set 13 Iq) (.seq (.set 14 Ir) (.seq (.set 15 Iu) (.seq (.ife Iw (.ret (.cst (.bl ai))) .nil) (.ret Iz))))))))
noncomputable def goB:S:=(.seq (.ife (.call "is_over" (Z8 (.var 0) (.idx (.var 2) (.var 4)))) (.ret (.cst (.bl ai))) .nil) (.ife (.cmp .ne (.call "stepped" (Z7 (.var 0) (.var 1) (.idx (.var 2) (.var 4)))) (.idx (.var 2) (.bin .add (.var 4) (.cst (.int 1))))) (.ret (.cst (.bl ai))) .nil))
noncomputable def fX:Fn:=⟨["_law_program_here","_law_asked_here","_law_row_here","_law_first"],["_law_program_here","_law_asked_here","_law_row_here","_law_first","_law_at"], (.seq (.for [(4,"_law_at")] .rng2 (Z8 (.var 3) (.bin .sub (.bi .len ai (Z9 (.var 2))) (.cst (.int 1)))) goB) (.ret (.cst (.bl ah))))⟩
noncomputable def iS:Fn:=⟨["_law_script"],["_law_script","_law_program_here","_law_asked_here","_law_most","_law_tree_here","_law_run","_law_row_here","_law_first","_law_older","_law_before","_law_worths","_law_moment","_law_thing_here","_law_same","_law_one","_law_other"], (.seq (.set 1 (.call "_law_program" (Z8 (.var 0) (.cst (.int 20))))) (.seq (.set 2 (.call "_law_asked" (Z8 (.var 0) (.cst (.int 450))))) (.seq (.set 3 (.call "_law_drawn" (Z7 (.var 0) (.cst (.int 440)) (.cst (.int 17))))) (.seq (.set 4 (.call "_law_tree" (Z5 (.var 0) (.cst (.int 600)) (.var 1) (.var 2) (.var 3)))) (.seq (.ife Ij (.ret (.cst (.bl ai))) .nil) (.seq (.set 5 (.cst (.int 0))) (.seq (.whl Bs Bt) (.seq (.set 6 (.call "_law_all" (Z8 (.var 4) (.var 5)))) (.seq (.set 7 (.cst (.int 0))) (.seq (.ife Bu Io .nil) LR))))))))))⟩
theorem mR (s0:St) (p:Pg) (asked:List Int) (z:Nat):∀ k,itr (itr s0 p asked z) p asked k=itr s0 p asked (z+k)
 | 0=>rfl
 | k+1=>by show step p asked (itr (itr s0 p asked z) p asked k)=step p asked (itr s0 p asked (z+k));rw[mR s0 p asked z k]
theorem Run.shift {s0:St}{p:Pg}{M e:Nat} (R:Run s0 p asked M e) {z:Nat} (hz:z<=e):Run (itr s0 p asked z) p asked (M - z) (e - z):=by
 have le:=R.le;refine ⟨by lia,λi hi=>by rw[mR];exact R.on _ (by lia),?_⟩;rcases R.last with q|q
 exact .inl (by lia)
 ·refine .inr ?_;rw[mR,show z+(e - z)=e by lia];exact q
theorem Run.uniq {s0:St}{p:Pg}{M e e':Nat} (R:Run s0 p asked M e) (R':Run s0 p asked M e'):e=e':=by
 have l1:=R.le;have l2:=R'.le;rcases Nat.lt_trichotomy e e' with c|c|c
 ·rcases R.last with q|q
  lia;rw[R'.on e c] at q;exact CK q.symm
 exact c
 ·rcases R'.last with q|q
  lia;rw[R.on e' c] at q;exact CK q.symm
theorem tR {l:List Int}{i:Nat} (h:i < l.length):l.set i (l.getD i 0)=l:=by
 have:l.getD i 0=l[i]:=by rw[Q2,P0 h];rfl
 rw[this];exact Vw h
theorem Bv {st:St} (ho:st.ok) (th:Th):th.put st (th.val st)=st:=by
 cases th with
 | nm x =>
  show ({ st with names:=st.names.set x.ix (st.names.getD x.ix 0) }:St)=st;rw[tR (by rw[ho.nlen];exact x.pU)]
 | cl i hi =>
  show ({ st with cells:=st.cells.set i (st.cells.getD i 0) }:St)=st;rw[tR (by rw[ho.clen];exact hi)]
theorem tS:∀ (l:List Int) (i:Nat) (v:Int),(((l.set i v).zip l).filter λq=>decide (q.1≠q.2)).length<=1
 | [],_,_=>by simp
 | a::l,0,v=>by
  have:∀ r:List Int,((r.zip r).filter λq=>decide (q.1≠q.2))=[]:=λr=>by
   rw[List.filter_eq_nil_iff];intro q hq;have:q.1=q.2:=by
    induction r with
    | nil=>simp at hq
    | cons b r ih =>
     rw[RJ] at hq;rcases List.mem_cons.mp hq with z|z
     rw[z];exact ih z
   simp[this]
  rw[List.set_cons_zero,RJ,Tn,this];split<;>simp
 | a::l,i+1,v=>by rw[V8,RJ,Tn,if_neg (by simp)];exact tS l i v
theorem Bw {st:St} (z:Szd st) (v:Int) (th:Th):∃ i,(th.put st v).names++(th.put st v).cells=(st.names++st.cells).set i v/\(th.put st v).row=st.row:=by
 cases th with
 | nm x=>exact ⟨x.ix,by show st.names.set x.ix v++st.cells=_;rw[List.set_append_left _ _ (by rw[z.n];exact x.pU)],rfl⟩| cl i hi=>exact ⟨st.names.length+i,by show st.names++st.cells.set i v=_;rw[Vx _ _ (by lia),Nat.add_sub_cancel_left],rfl⟩
theorem By {d x:Nd} (he:x.en=d.en) (hf:∀ m,m<=d.en->x.f m=d.f m):dF x=dF d:=by unfold dF lz;rw[he];congr 2;apply Re;intro m hm;exact hf m (by have:=List.mem_range.mp hm;lia)
theorem EC (d:Nd):dok 100 (dF d)=ah:=rB (lz d)
theorem BA (d:Nd):fN .ne (dF d) (dF d)=aa ai:=ne_self (EC d)
theorem BB {t:Tr} (Wt:Wf t) {d:Nd} (hd:t.ds[0]?=aa d):dF d=.lst ((sts t.p t.asked t.most St.zero).map St.enc):=by
 have O:=Wt.each 0 d hd;obtain ⟨e,R,es⟩:=mP St.zero t.p t.asked t.most;obtain ⟨z1,z2⟩:=O.zero rfl;have R0:=O.run;rw[z1,z2] at R0;have ee:d.e=e:=R0.uniq R;unfold dF lz;rw[es];have en:d.en=e:=by unfold Nd.en;lia
 rw[en];congr 2;apply Re;intro m hm;have:=O.own m (by have:=List.mem_range.mp hm;lia);rw[z1,Uy,z2] at this;exact this
section
variable {T:FK->Option Fn}{G:aB->Option W}{Pt:Pts}{n:Nat}{ro rb:Nat}
theorem oH {F:FK->List W->HH->Option (W×HH)}{c:E}{a:S}{s:Sl}{h g:HH} (h1:BT.ev F G c s h=aa (.p (.bl ai),g)):evS F G (.ife c a .nil) s h=aa (.nx s g):=by simp[h1]
theorem LS {F:FK->List W->HH->Option (W×HH)}{c:E}{a b:S}{s:Sl}{h g:HH} (h1:BT.ev F G c s h=aa (.p (.bl ah),g)):evS F G (.ife c a b) s h=evS F G a s g:=by simp[h1]
theorem wO (P:Prg T G) (k:Nat) {t:Tr} (Wt:Wf t) {i:Nat}{d:Nd} (hd:t.ds[i]?=aa d) (w3:W) (h:HH):∀ (r j:Nat) (x4:Option W),j+r=d.en->d.fi<=j →
 ∃ y4,gB (evS (runN T G (k+6)) G goB) [(4,"_law_at")] (upto (j:Int) r) [aa (.p (dB t.p)),aa (.p (.lst (cX t.asked))),aa (.p (dF d)),aa w3,x4] h=aa (.nx [aa (.p (dB t.p)),aa (.p (.lst (cX t.asked))),aa (.p (dF d)),aa w3,y4] h)
 | 0,j,x4,_,_=>⟨x4,rfl⟩
 | r+1,j,x4,hr,hj=>by
  have O:=Wt.each i d hd;obtain ⟨y4,b⟩:=wO P k Wt hd w3 h r (j+1) (aa (.p (.int (j:Int)))) (by lia) (by lia);refine ⟨y4,?_⟩;rw[wM];have st:∀ l,gB (evS (runN T G (k+6)) G goB) [(4,"_law_at")] (.int (j:Int)::l) [aa (.p (dB t.p)),aa (.p (.lst (cX t.asked))),aa (.p (dF d)),aa w3,x4] h=j4 (evS (runN T G (k+6)) G goB [aa (.p (dB t.p)),aa (.p (.lst (cX t.asked))),aa (.p (dF d)),aa w3,aa (.p (.int (j:Int)))] h) (gB (evS (runN T G (k+6)) G goB) [(4,"_law_at")] l):=λl=>rfl;have en:d.fi+d.e=d.en:=rfl;have e1:=O.own (j - d.fi) (by lia);have e2:=O.own (j+1 - d.fi) (by lia);rw[show d.fi+(j - d.fi)=j by lia] at e1;rw[show d.fi+(j+1 - d.fi)=j+1 by lia,show j+1 - d.fi=(j - d.fi)+1 by lia] at e2;have ov:over t.p (d.f j)=ai:=by rw[e1];exact O.run.on _ (by lia)
  have sp:step t.p t.asked (d.f j)=d.f (j+1):=by rw[e1,e2];rfl
  have aj:=Wt.at_ hd (m:=j) (by lia);have m1:=Wt.m1;have el:=Wt.qb hd;have r1:=iz P (k+5) t.p (d.f j) h;have r2:=jK P k t.p Wt.ok t.asked (d.f j) aj.ok (aj.small (by lia)) ov h;rw[ov] at r1;rw[sp] at r2;have i1:=kE d (m:=j) (by lia);have i2:=kE d (m:=j+1) (by lia);rw[show ((j+1:Nat):Int)=(j:Int)+1 from rfl] at i2;have ne:fN .ne (d.f (j+1)).enc (d.f (j+1)).enc=aa ai:=ne_self (uS 98 _);have bd:evS (runN T G (k+6)) G goB [aa (.p (dB t.p)),aa (.p (.lst (cX t.asked))),aa (.p (dF d)),aa w3,aa (.p (.int (j:Int)))] h=aa (.nx [aa (.p (dB t.p)),aa (.p (.lst (cX t.asked))),aa (.p (dF d)),aa w3,aa (.p (.int (j:Int)))] h):=by simp[-dI,goB,i1,i2,r1,r2,ne]
  rw[st,bd,gk,b]
theorem tT (P:Prg T G) (hT:T "_law_goes_on"=aa fX) (k:Nat) {t:Tr} (Wt:Wf t) {i:Nat}{d:Nd} (hd:t.ds[i]?=aa d) (h:HH) :
 runN T G (k+7) "_law_goes_on" [.p (dB t.p),.p (.lst (cX t.asked)),.p (dF d),.p (.int d.fi)] h=aa (.p (.bl ah),h):=by
 have m1:=Wt.m1;have el:=Wt.qb hd;have en:d.fi+d.e=d.en:=rfl;obtain ⟨y4,b⟩:=wO P k Wt hd (.p (.int d.fi)) h (d.en - d.fi) d.fi af (by lia) (P6 _);have rg:gP .rng2 [.int (d.fi:Int),.int (d.en:Int)]=aa (upto (d.fi:Int) (d.en - d.fi)):=by
  rw[jR];have c:((-100000<=(d.fi:Int):Bool)&&((d.fi:Int)<=100000:Bool)&&((-100000<=(d.en:Int):Bool))&&(((d.en:Int)<=100000:Bool)))=ah:=by simp only[PZ,decide_eq_true_eq];lia
  rw[if_pos c];congr 2;lia
 have ln:biD .len [dF d]=aa (.int ((d.en:Int)+1)):=by unfold dF;rw[pM,Qt,mQ];rfl
 have e1:evs (runN T G (k+6)) G (.cons (.var 3) (.cons (.bin .sub (.bi .len ai (.cons (.var 2) .nil)) (.cst (.int 1))) .nil)) [aa (.p (dB t.p)),aa (.p (.lst (cX t.asked))),aa (.p (dF d)),aa (.p (.int d.fi)),af] h=aa ([.p (.int d.fi),.p (.int d.en)],h):=by simp[rd,ln]
 have x1:evS (runN T G (k+6)) G (.for [(4,"_law_at")] .rng2 (.cons (.var 3) (.cons (.bin .sub (.bi .len ai (.cons (.var 2) .nil)) (.cst (.int 1))) .nil)) goB) [aa (.p (dB t.p)),aa (.p (.lst (cX t.asked))),aa (.p (dF d)),aa (.p (.int d.fi)),af] h=aa (.nx [aa (.p (dB t.p)),aa (.p (.lst (cX t.asked))),aa (.p (dF d)),aa (.p (.int d.fi)),y4] h):=by show bnd (evs _ G _ _ h) (kFor _ _ .rng2 _)=_;rw[e1,dQ];unfold kFor;rw[show rds [W.p (D.int d.fi),.p (.int d.en)] h=aa [D.int d.fi,.int d.en] from rfl,QK,rg];exact b
 exact uN hT rfl ((jJ x1).trans (lP rfl))
end
structure uY (T:FK->Option Fn):Prop where
 lt:LwT T
 program:T "_law_program"=aa eY
 of:T "_law_of"=aa jZ
 goes:T "_law_goes_on"=aa fX
 law:T "law"=aa iS
 states:T "states"=aa iR
 q:TrQ T
noncomputable def s61 (w0 w1 w2 w3:W) (n:Nat) (x5 x6 x7 x8 x9 x10 x11 x12 x13 x14 x15:Option W):Sl :=
 [aa w0,aa w1,aa w2,aa w3,aa (.o n),x5,x6,x7,x8,x9,x10,x11,x12,x13,x14,x15]
section
variable {T:FK->Option Fn}{G:aB->Option W}{Pt:Pts}{n:Nat}{ro rb:Nat}{t:Tr}
theorem a61 (P:TrP T G) (L:uY T) (k:Nat) (Wt:Wf t) {h:HH} (A:jM Pt h n t ro rb) (w0:W) (x5 x6 x7 x8 x9 x10 x11 x12 x13 x14 x15:Option W) :
 ∃ g,BT.ev (runN T G (k+14)) G Ij (s61 w0 (.p (dB t.p)) (.p (.lst (cX t.asked))) (.p (.int t.most)) n x5 x6 x7 x8 x9 x10 x11 x12 x13 x14 x15) h=aa (.p (.bl ai),g)/\jM Pt g n t ro rb:=by
 obtain ⟨d,hd⟩:=jg (l:=t.ds) (i:=0) (by have:=Wt.l0;exact List.length_pos_iff.mpr this);obtain ⟨g,b,A2⟩:=ji P L.lt.all Wt A (k+1) hd;have m1:=Wt.m1;have s:=uP P.tp.prg L.states (k+7) t.p Wt.ok t.asked Wt.ask t.most (by lia) g;rw[← BB Wt hd] at s;refine ⟨g,?_,A2⟩;have b':runN T G (k+14) "_law_all" [.o n,.p (.int 0)] h=aa (.p (dF d),g):=b;simp[-g7,Ij,s61,b',s,rd,BA]
theorem ED (ks:List Nat):fN .ne (.lst (c7 ks)) (.lst [])=aa (!decide (ks=[])):=by rw[g7,if_pos (by simp)];cases ks<;>simp[c7]
theorem EE (P:TrP T G) (L:uY T) (k:Nat) (Wt:Wf t) {h:HH} (A:jM Pt h n t ro rb) (w0 w1 w2 w3:W) (x6 x7 x8 x9 x10 x11 x12 x13 x14 x15:Option W):∀ (f i:Nat) (d:Nd),t.ds[i]?=aa d->t.ds.length - i<=f →
 ∃ (j:Nat) (q:Nd),eg (BT.ev (runN T G (k+14)) G Bs) (evS (runN T G (k+14)) G Bt) (f+1) (s61 w0 w1 w2 w3 n (aa (.p (.int i))) x6 x7 x8 x9 x10 x11 x12 x13 x14 x15) h=aa (.nx (s61 w0 w1 w2 w3 n (aa (.p (.int j))) x6 x7 x8 x9 x10 x11 x12 x13 x14 x15) h)/\t.ds[j]?=aa q:=by
 obtain ⟨bs,A1⟩:=A;intro f
 induction f with
 | zero=>intro i d hd hl;have:=dO hd;lia
 | succ f ih =>
  intro i d hd hl;have c:=rJ P L.q Wt A1 (k+11) (dO hd);have tst:BT.ev (runN T G (k+14)) G Bs (s61 w0 w1 w2 w3 n (aa (.p (.int i))) x6 x7 x8 x9 x10 x11 x12 x13 x14 x15) h=aa (.p (.bl (!decide (kids t i=[]))),h):=by simp[-g7,Bs,s61,A1.ob,c,rd,ED,dP]
  rcases List.eq_nil_or_concat (kids t i) with z|⟨ks,c',z⟩
  ·rw[z] at tst;refine ⟨i,d,?_,hd⟩;rw[eg,tst];rfl
  ·have ck:=Ew Wt (i:=i) (c:=c') (by rw[z];simp);obtain ⟨c1,q,hq,_⟩:=ck;have z':kids t i=ks++[c']:=by simpa using z
   have nz:decide (kids t i=[])=ai:=by rw[z'];simp
   rw[nz] at tst;have bd:evS (runN T G (k+14)) G Bt (s61 w0 w1 w2 w3 n (aa (.p (.int i))) x6 x7 x8 x9 x10 x11 x12 x13 x14 x15) h=aa (.nx (s61 w0 w1 w2 w3 n (aa (.p (.int c'))) x6 x7 x8 x9 x10 x11 x12 x13 x14 x15) h):=by
    have ix:dN (.lst (c7 (kids t i))) (.int (-1))=aa (.int c'):=by
     rw[z'];have:=ly (c7 ks) (.int c');have e:c7 (ks++[c'])=c7 ks++[.int c']:=by simp[c7]
     rw[e];exact this
    simp[-dI,Bt,s61,A1.ob,c,rd,ix]
   obtain ⟨j,q',b,hq'⟩:=ih c' q hq (by have:=dO hd;lia);refine ⟨j,q',?_,hq'⟩;rw[eg,tst,Bool.not_false,iJ,kj,bd,gk,b]
end
section
variable {T:FK->Option Fn}{G:aB->Option W}{Pt:Pts}{n:Nat}{ro rb:Nat}{t:Tr}
theorem wQ (d:Nd) {m:Nat} (h:m<=d.en):cut ((lz d).map St.enc) af (aa (m:Int))=((Qm m).map d.f).map St.enc:=by rw[A7 _ _ (by rw[Qt,mQ];lia),← List.map_take,lz,← List.map_take];congr 2;rw[List.take_range];congr 1;lia
theorem wR:∀ (xs ys:List Int),oR (cX xs) (cX ys)=(xs.zip ys).map λq=>.tup [.int q.1,.int q.2]
 | [],_=>by simp[cX]
 | _::_,[]=>by simp[cX]
 | x::xs,y::ys=>by have:=wR xs ys;simp only[cX] at this;simp only[cX,Qa,oR,RJ,this]
noncomputable def zw (a b:St):List (Int×Int):=(a.names++a.cells).zip (b.names++b.cells)
noncomputable def zwD (a b:St):D:=.lst ((zw a b).map λq=>.tup [.int q.1,.int q.2])
theorem i0 (st:St):dN st.enc (.int 0)=aa (.int st.row):=rfl
theorem i1 (st:St):dN st.enc (.int 1)=aa (.tup (cX st.names)):=rfl
theorem i2 (st:St):dN st.enc (.int 2)=aa (.tup (cX st.cells)):=rfl
theorem BD {st:St} (ho:st.ok):j7 .add (.tup (cX st.names)) (.tup (cX st.cells))=aa (.tup (cX (st.names++st.cells))):=by have l1:=ho.nlen;have l2:=ho.clen;simp[cX,l1,l2]
theorem z61 (F:FK->List W->HH->Option (W×HH)) (w0 w1 w2 w3:W) (x5 x8 x10 x11 x12 x13 x14 x15:Option W) (h:HH) {d q:Nd}{m:Nat} (hd:m<=d.en) (hq:m<=q.en) (od:(d.f m).ok) (oq:(q.f m).ok) :
 BT.ev F G Il (s61 w0 w1 w2 w3 n x5 (aa (.p (dF d))) (aa (.p (.int m))) x8 (aa (.p (dF q))) x10 x11 x12 x13 x14 x15) h=aa (.p (zwD (d.f m) (q.f m)),h):=by
 have r1:=kE d hd;have r2:=kE q hq;have a1:=BD od;have a2:=BD oq;have z:biD .lzip [.tup (cX ((d.f m).names++(d.f m).cells)),.tup (cX ((q.f m).names++(q.f m).cells))]=aa (zwD (d.f m) (q.f m)):=by have l1:=od.nlen;have l2:=od.clen;have l3:=oq.nlen;have l4:=oq.clen;rw[sA,if_pos (by simp[cX,l1,l2,l3,l4]),wR];rfl
 simp[-dI,-gw,Il,s61,rd,rds,r1,r2,i1,i2,a1,a2,z]
theorem c61 (F:FK->List W->HH->Option (W×HH)) (w0 w1 w2 w3:W) (x5 x6 x7 x8 x9 x11 x12 x13 x14 x15:Option W) (h:HH) (zs:List (Int×Int)) (hl:zs.length<=100) :
 BT.ev F G uX (s61 w0 w1 w2 w3 n x5 x6 x7 x8 x9 (aa (.p (.lst (zs.map λq=>.tup [.int q.1,.int q.2])))) x11 x12 x13 x14 x15) h=aa (.p (.lst ((zs.filter λq=>decide (q.1≠q.2)).map λq=>.tup [.int q.1,.int q.2])),h):=by
 have ct:∀ a b:Int,BT.ev F G EA [aa (.p (.tup [.int a,.int b]))] h=aa (.p (.bl (!(a==b))),h):=λa b=>by simp[EA,rd]
 have cm:d7 (gA (evs F G (.cons EA .nil)) (BT.ev F G (.var 0)) []) 1 (zs.map λq=>D.tup [.int q.1,.int q.2]) h=aa ((zs.filter λq=>decide (q.1≠q.2)).map λq=>D.tup [.int q.1,.int q.2],h):=by
  have e0:((zs.filter λq=>decide (q.1≠q.2)).map λq=>D.tup [.int q.1,.int q.2])=zs.filterMap λq=>if q.1=q.2 then af else aa (D.tup [.int q.1,.int q.2]):=by
   clear hl
   induction zs with
   | nil=>rfl
   | cons a r ih =>
    rw[Tn,Qv]
    by_cases z:a.1=a.2
    rw[if_neg (by simp[z]),if_pos z];exact ih;rw[if_pos (by simp[z]),if_neg z,Qa,ih]
  rw[e0];refine Bg _ (λ(q:Int×Int)=>D.tup [.int q.1,.int q.2]) _ h zs λq hq=>?_;have c:=ct q.1 q.2;have sl:([D.tup [.int q.1,.int q.2]].map fO++[]:Sl)=[aa (.p (.tup [.int q.1,.int q.2]))]:=rfl;unfold gA;rw[sl]
  by_cases z:q.1=q.2
  ·have:(!(q.1==q.2))=ai:=by simp[z]
   rw[this] at c;simp only[if_pos z];simp[evs,c]
  ·have:(!(q.1==q.2))=ah:=by simp[z]
   rw[this] at c;simp only[if_neg z];simp[evs,c]
 refine rD (ws:=[.p (.lst (zs.map λq=>.tup [.int q.1,.int q.2]))]) (h1:=h) rfl rfl rfl rfl cm ?_;rw[Qt];have:=Vy (λq:Int×Int=>decide (q.1≠q.2)) zs;lia
end
section
variable {T:FK->Option Fn}{G:aB->Option W}{Pt:Pts}{n:Nat}{ro rb:Nat}{t:Tr}
theorem IA (F:FK->List W->HH->Option (W×HH)) (w0 w1 w2 w3:W) (x5 x8 x10 x11 x12 x13 x14 x15:Option W) (h:HH) {d q:Nd}{m:Nat} (hd:m<=d.en) (hq:m<=q.en) (e:∀ j,j < m->d.f j=q.f j) :
 BT.ev F G Ik (s61 w0 w1 w2 w3 n x5 (aa (.p (dF d))) (aa (.p (.int m))) x8 (aa (.p (dF q))) x10 x11 x12 x13 x14 x15) h=aa (.p (.bl ai),h):=by
 have c1:qm (dF d) af (aa (m:Int))=aa (.lst (((Qm m).map d.f).map St.enc)):=by show aa (D.lst (cut _ af (aa (m:Int))))=_;rw[wQ d hd]
 have c2:qm (dF q) af (aa (m:Int))=aa (.lst (((Qm m).map d.f).map St.enc)):=by show aa (D.lst (cut _ af (aa (m:Int))))=_;rw[wQ q hq];congr 3;apply Re;intro j hj;exact (e j (List.mem_range.mp hj)).symm
 have ne:fN .ne (.lst (((Qm m).map d.f).map St.enc)) (.lst (((Qm m).map d.f).map St.enc))=aa ai:=ne_self (rB _);simp[-g7,-TM,Ik,s61,rd,dP,c1,c2,ne]
theorem d61 (F:FK->List W->HH->Option (W×HH)) (w0 w1 w2 w3:W) (x5 x8 x11 x12 x13 x14 x15:Option W) (h:HH) {d q:Nd}{m:Nat} (hd:m<=d.en) (hq:m<=q.en) (zl:(zw (d.f m) (q.f m)).length<=100)
 (z1:((zw (d.f m) (q.f m)).filter λq=>decide (q.1≠q.2)).length<=1) (er:(d.f m).row=(q.f m).row) :
 BT.ev F G LQ (s61 w0 w1 w2 w3 n x5 (aa (.p (dF d))) (aa (.p (.int m))) x8 (aa (.p (dF q))) (aa (.p (zwD (d.f m) (q.f m)))) x11 x12 x13 x14 x15) h=aa (.p (.bl ai),h):=by
 have c:=c61 (n:=n) (G:=G) F w0 w1 w2 w3 x5 (aa (.p (dF d))) (aa (.p (.int m))) x8 (aa (.p (dF q))) x11 x12 x13 x14 x15 h (zw (d.f m) (q.f m)) zl;have r1:=kE d hd;have r2:=kE q hq;have e1:BT.ev F G (.cmp .gt (.bi .len ai (.cons uX .nil)) (.cst (.int 1))) (s61 w0 w1 w2 w3 n x5 (aa (.p (dF d))) (aa (.p (.int m))) x8 (aa (.p (dF q))) (aa (.p (zwD (d.f m) (q.f m)))) x11 x12 x13 x14 x15) h=aa (.p (.bl ai),h):=by
  have ln:¬ (1:Int) < (((zw (d.f m) (q.f m)).filter λq=>decide (q.1≠q.2)).length:Int):=by lia
  have e2:evs F G (.cons uX .nil) (s61 w0 w1 w2 w3 n x5 (aa (.p (dF d))) (aa (.p (.int m))) x8 (aa (.p (dF q))) (aa (.p (zwD (d.f m) (q.f m)))) x11 x12 x13 x14 x15) h=aa ([.p (.lst (((zw (d.f m) (q.f m)).filter λq=>decide (q.1≠q.2)).map λq=>.tup [.int q.1,.int q.2]))],h):=by show bnd (BT.ev F G uX _ h) _=_;unfold zwD;rw[c];rfl
  have e3:BT.ev F G (.bi .len ai (.cons uX .nil)) (s61 w0 w1 w2 w3 n x5 (aa (.p (dF d))) (aa (.p (.int m))) x8 (aa (.p (dF q))) (aa (.p (zwD (d.f m) (q.f m)))) x11 x12 x13 x14 x15) h=aa (.p (.int ((((zw (d.f m) (q.f m)).filter λq=>decide (q.1≠q.2)).length:Nat):Int)),h):=by show bnd (evs F G (.cons uX .nil) _ h) _=_;rw[e2,dQ];simp[rds,rd]
  refine HG e3 rfl ?_;simp;lia
 have e4:BT.ev F G (.cmp .ne (.idx (.idx (.var 6) (.var 7)) (.cst (.int 0))) (.idx (.idx (.var 9) (.var 7)) (.cst (.int 0)))) (s61 w0 w1 w2 w3 n x5 (aa (.p (dF d))) (aa (.p (.int m))) x8 (aa (.p (dF q))) (aa (.p (zwD (d.f m) (q.f m)))) x11 x12 x13 x14 x15) h=aa (.p (.bl ai),h):=by
  have ne:fN .ne (.int ((d.f m).row:Int)) (.int ((q.f m).row:Int))=aa ai:=by rw[er];exact ne_self (CM _ _)
  simp[-g7,-dI,-gw,s61,rd,r1,r2,i0,ne]
 show bnd (BT.ev F G _ _ h) (kOr _)=_;rw[e1,dQ];show BT.ev F G _ _ h=_;exact e4
theorem p61 (P:TrP T G) (L:uY T) (k:Nat) (Wt:Wf t) {h:HH} (A:jM Pt h n t ro rb) {i:Nat}{d:Nd} (hd:t.ds[i]?=aa d) (hi:0 < i) (w0 w3:W) (x7 x8 x9 x10 x11 x12 x13 x14 x15:Option W) :
 ∃ g y8 y9 y10,evS (runN T G (k+14)) G Io (s61 w0 (.p (dB t.p)) (.p (.lst (cX t.asked))) w3 n (aa (.p (.int i))) (aa (.p (dF d))) x7 x8 x9 x10 x11 x12 x13 x14 x15) h =
  aa (.nx (s61 w0 (.p (dB t.p)) (.p (.lst (cX t.asked))) w3 n (aa (.p (.int i))) (aa (.p (dF d))) (aa (.p (.int d.fi))) y8 y9 y10 x11 x12 x13 x14 x15) g)/\jM Pt g n t ro rb:=by
 have O:=Wt.each i d hd;obtain ⟨q,hq,h2,h3,h4⟩:=O.par hi;obtain ⟨th,v,hs⟩:=O.put hi q hq;obtain ⟨bs,A0⟩:=id A;obtain ⟨g,b,A2⟩:=ji P L.lt.all Wt A (k+1) hq;have p0:=oG P L.q Wt A0 (k+11) hd;have oi:yp i d=d.org:=if_neg (by lia);rw[oi] at p0;have fe:d.fi<=d.en:=by unfold Nd.en;lia
 have f0:d.f d.fi=d.s0:=O.own 0 (RC _);have aq:=(Wt.at_ hq h3).ok;have ad:=(Wt.at_ hd fe).ok;obtain ⟨ix,e1,e2⟩:=Bw ⟨aq.nlen,aq.clen⟩ v th;have zz:zw (d.f d.fi) (q.f d.fi)=(((q.f d.fi).names++(q.f d.fi).cells).set ix v).zip ((q.f d.fi).names++(q.f d.fi).cells):=by unfold zw;rw[f0,hs,e1]
 have z1:((zw (d.f d.fi) (q.f d.fi)).filter λq=>decide (q.1≠q.2)).length<=1:=by rw[zz];exact tS _ _ _
 have zl:(zw (d.f d.fi) (q.f d.fi)).length<=100:=by unfold zw;have l1:=ad.nlen;have l2:=ad.clen;rw[List.length_zip,Qk,Qk];lia
 have er:(d.f d.fi).row=(q.f d.fi).row:=by rw[f0,hs,e2]
 have gn:=tT P.tp.prg L.goes (k+7) Wt hd g;have x1:evS (runN T G (k+14)) G (.unp [(8,"_law_older"),(7,"_law_first")] (.meth (.var 4) "parent" (.cons (.var 5) .nil))) (s61 w0 (.p (dB t.p)) (.p (.lst (cX t.asked))) w3 n (aa (.p (.int i))) (aa (.p (dF d))) x7 x8 x9 x10 x11 x12 x13 x14 x15) h =
  aa (.nx (s61 w0 (.p (dB t.p)) (.p (.lst (cX t.asked))) w3 n (aa (.p (.int i))) (aa (.p (dF d))) (aa (.p (.int d.fi))) (aa (.p (.int d.par))) x9 x10 x11 x12 x13 x14 x15) h):=by
  simp[s61,A0.ob,p0,Nd.org,unpack]
 have x2:BT.ev (runN T G (k+14)) G (.call "_law_all" (.cons (.var 4) (.cons (.var 8) .nil))) (s61 w0 (.p (dB t.p)) (.p (.lst (cX t.asked))) w3 n (aa (.p (.int i))) (aa (.p (dF d))) (aa (.p (.int d.fi))) (aa (.p (.int d.par))) x9 x10 x11 x12 x13 x14 x15) h=aa (.p (dF q),g):=by have b':runN T G (k+14) "_law_all" [.o n,.p (.int d.par)] h=aa (.p (dF q),g):=b;simp[s61,b']
 have x3:=IA (n:=n) (G:=G) (runN T G (k+14)) w0 (.p (dB t.p)) (.p (.lst (cX t.asked))) w3 (aa (.p (.int i))) (aa (.p (.int d.par))) x10 x11 x12 x13 x14 x15 g fe h3 h4;have x4:=z61 (n:=n) (G:=G) (runN T G (k+14)) w0 (.p (dB t.p)) (.p (.lst (cX t.asked))) w3 (aa (.p (.int i))) (aa (.p (.int d.par))) x10 x11 x12 x13 x14 x15 g fe h3 ad aq;have x5:=d61 (n:=n) (G:=G) (runN T G (k+14)) w0 (.p (dB t.p)) (.p (.lst (cX t.asked))) w3 (aa (.p (.int i))) (aa (.p (.int d.par))) x11 x12 x13 x14 x15 g fe h3 zl z1 er;have x6:BT.ev (runN T G (k+14)) G Im (s61 w0 (.p (dB t.p)) (.p (.lst (cX t.asked))) w3 n (aa (.p (.int i))) (aa (.p (dF d))) (aa (.p (.int d.fi))) (aa (.p (.int d.par))) (aa (.p (dF q))) (aa (.p (zwD (d.f d.fi) (q.f d.fi)))) x11 x12 x13 x14 x15) g=aa (.p (.bl ai),g):=by simp[Im,s61,gn]
 refine ⟨g,aa (.p (.int d.par)),aa (.p (dF q)),aa (.p (zwD (d.f d.fi) (q.f d.fi))),?_,A2⟩;exact (jJ x1).trans ((fC x2).trans ((jJ (oH x3)).trans ((fC x4).trans ((jJ (oH x5)).trans (oH x6)))))
end
theorem lU {t:Tr}{x:Nd}{i:Nat}{d:Nd} (h:t.ds[i]?=aa d):(t.add x).ds[i]?=aa d:=by show (t.ds++[x])[i]?=aa d;rw[PV (dO h)];exact h
theorem uZ (t:Tr) (x:Nd):(t.add x).ds[t.ds.length]?=aa x:=by show (t.ds++[x])[t.ds.length]?=aa x;simp
theorem jj (t:Tr) (x:Nd):(t.add x).ds.length=t.ds.length+1:=by simp[Tr.add]
theorem BE (d:Nd):dN (dF d) (.int (-1))=aa (d.f d.en).enc:=by
 have e:(lz d).map St.enc=((Qm d.en).map d.f).map St.enc++[(d.f d.en).enc]:=by rw[lz,List.range_succ,RP,RP];rfl
 unfold dF;rw[e];exact ly _ _
theorem wU (d:Nd):biD .len [dF d]=aa (.int ((d.en:Int)+1)):=by unfold dF;rw[pM,Qt,mQ];rfl
section
variable {T:FK->Option Fn}{G:aB->Option W}{Pt:Pts}{n:Nat}{ro rb:Nat}{t:Tr}
theorem l61 (P:TrP T G) (k:Nat) (Wt:Wf t) {i:Nat}{d:Nd} (hd:t.ds[i]?=aa d) (w0 w2:W) (x5 x7 x8 x9 x10 x11 x12 x13 x14 x15:Option W) (h:HH) :
 BT.ev (runN T G (k+14)) G EB (s61 w0 (.p (dB t.p)) w2 (.p (.int t.most)) n x5 (aa (.p (dF d))) x7 x8 x9 x10 x11 x12 x13 x14 x15) h=aa (.p (.bl ai),h):=by
 have O:=Wt.each i d hd;have le:=O.le;have ln:=wU d
 by_cases c:d.en+1<=t.most
 ·have c1:(d.en:Int)+1<=(t.most:Int):=by lia
  have en:d.fi+d.e=d.en:=rfl;have ov:over t.p (d.f d.en)=ah:=by
   have:=O.own d.e (P6 _);rw[en] at this;rw[this];rcases O.run.last with q|q
   lia;exact q
  have r:=iz P.tp.prg (k+13) t.p (d.f d.en) h;rw[ov] at r;simp[-dI,EB,s61,rd,rds,ln,c1,BE,r]
 ·have c1:¬ (d.en:Int)+1<=(t.most:Int):=by lia
  simp[EB,s61,rd,rds,ln,c1]
theorem r61 (P:TrP T G) (L:uY T) (ns:List Int) (hl:ns.length<=1000) (k:Nat) (Wt:Wf t) (l5:t.ds.length<=5) {h:HH} (A:jM Pt h n t ro rb) {i:Nat}{d:Nd} (hd:t.ds[i]?=aa d) (w2:W) (x8 x9 x10 x11 x12 x13 x14 x15:Option W) :
 ∃ g,evS (runN T G (k+14)) G LR (s61 (.p (.lst (cX ns))) (.p (dB t.p)) w2 (.p (.int t.most)) n (aa (.p (.int i))) (aa (.p (dF d))) (aa (.p (.int d.fi))) x8 x9 x10 x11 x12 x13 x14 x15) h=aa (.rt (.p (.bl ah)) g):=by
 have O:=Wt.each i d hd;have en:d.fi+d.e=d.en:=rfl;have enl:=Wt.qb hd;have y1:=l61 (n:=n) P k Wt hd (.p (.lst (cX ns))) w2 (aa (.p (.int i))) (aa (.p (.int d.fi))) x8 x9 x10 x11 x12 x13 x14 x15 h;obtain ⟨z,hz,dz⟩:=fZ (G:=G) L.lt.lw ns hl 700 ((d.e:Int)+1) (by lia);obtain ⟨th,rt⟩:=qa (G:=G) L.lt.lw L.lt.thing ns hl 701;have hm:d.fi+z<=d.en:=by lia
 have dm:d.f (d.fi+z)=itr d.s0 t.p t.asked z:=O.own z (by lia);have am:=Wt.at_ hd hm;have hv:=Th.nX am.ok th;have ps:=Bv am.ok th;have R1:Run (th.put (d.f (d.fi+z)) (th.val (d.f (d.fi+z)))) t.p t.asked (t.most - (d.fi+z)) (d.e - z):=by rw[ps,dm,Nat.sub_add_eq];exact O.run.shift (by lia)
 obtain ⟨bs,A0⟩:=id A;obtain ⟨h1,b1,A1⟩:=lu P Wt A0 (k+1) hd hm th hv R1;have W1:=rH Wt hd hm (am.put hv th) R1 (by lia) rfl;have h9:Wth 9:=by simp[Wth]
 obtain ⟨e2,R2,_⟩:=mP (th.put (d.f (d.fi+z)) 9) t.p t.asked (t.most - (d.fi+z));generalize hx1:Nd.of t i (d.fi+z) d (th.put (d.f (d.fi+z)) (th.val (d.f (d.fi+z)))) (d.e - z)=x1 at b1 A1 W1;have hd1:(t.add x1).ds[i]?=aa d:=lU hd;obtain ⟨bs1,A1'⟩:=id A1;obtain ⟨h2,b2,A2⟩:=lu P W1 A1' (k+1) hd1 hm th h9 R2;have W2:=rH W1 hd1 hm (am.put h9 th) R2 (by rw[jj];lia) rfl;generalize hx2:Nd.of (t.add x1) i (d.fi+z) d (th.put (d.f (d.fi+z)) 9) e2=x2 at b2 A2 W2;have x1m:x1.f (d.fi+z)=d.f (d.fi+z):=by rw[← hx1];show (if d.fi+z < d.fi+z then _ else itr _ t.p t.asked (d.fi+z - (d.fi+z)))=_;rw[if_neg (QG _),VE,ps];rfl
 have x1e:x1.en=d.en:=by rw[← hx1];show d.fi+z+(d.e - z)=d.en;lia
 have hd2:((t.add x1).add x2).ds[t.ds.length]?=aa x1:=lU (uZ t x1);have R3:Run (th.put (x1.f (d.fi+z)) 9) t.p t.asked (t.most - (d.fi+z)) e2:=by rw[x1m];exact R2
 obtain ⟨bs2,A2'⟩:=id A2;obtain ⟨h3,b3,A3⟩:=lu P W2 A2' (k+1) hd2 (m:=d.fi+z) (by rw[x1e];exact hm) th h9 R3;have W3:=rH W2 hd2 (m:=d.fi+z) (by rw[x1e];exact hm) (by rw[x1m];exact am.put h9 th) R3 (by rw[jj,jj];lia) rfl;generalize hx3:Nd.of ((t.add x1).add x2) t.ds.length (d.fi+z) x1 (th.put (x1.f (d.fi+z)) 9) e2=x3 at b3 A3 W3;have f1:∀ m,m<=d.en->x1.f m=d.f m:=λm hm2=>by
  rw[← hx1];show (if m < d.fi+z then d.f m else itr _ t.p t.asked (m - (d.fi+z)))=_
  by_cases c:m < d.fi+z
  rw[if_pos c]
  ·rw[if_neg c,ps,dm,mR];have:=O.own (z+(m - (d.fi+z))) (by lia);rw[show d.fi+(z+(m - (d.fi+z)))=m by lia] at this;exact this.symm
 have rw1:dF x1=dF d:=By x1e f1;have rw3:dF x3=dF x2:=by
  refine By (by rw[← hx3,← hx2];rfl) λm _=>?_;rw[← hx3,← hx2];show (if m < d.fi+z then x1.f m else itr (th.put (x1.f (d.fi+z)) 9) t.p t.asked (m - (d.fi+z)))=(if m < d.fi+z then d.f m else itr (th.put (d.f (d.fi+z)) 9) t.p t.asked (m - (d.fi+z)));rw[x1m]
  by_cases c:m < d.fi+z
  rw[if_pos c,if_pos c];exact f1 m (by lia);rw[if_neg c,if_neg c]
 have q1:(((t.add x1).add x2).add x3).ds[t.ds.length]?=aa x1:=lU hd2;have q2:(((t.add x1).add x2).add x3).ds[t.ds.length+1]?=aa x2:=by have:=uZ (t.add x1) x2;rw[jj] at this;exact lU this
 have q3:(((t.add x1).add x2).add x3).ds[t.ds.length+2]?=aa x3:=by have:=uZ ((t.add x1).add x2) x3;rw[jj,jj] at this;exact this
 have q0:(((t.add x1).add x2).add x3).ds[i]?=aa d:=lU (lU hd1);obtain ⟨g1,c1,B1⟩:=ji P L.lt.all W3 A3 (k+1) q1;obtain ⟨g2,c2,B2⟩:=ji P L.lt.all W3 B1 (k+1) q2;obtain ⟨g3,c3,B3⟩:=ji P L.lt.all W3 B2 (k+1) q3;obtain ⟨g4,c4,B4⟩:=ji P L.lt.all W3 B3 (k+1) q0;rw[rw1] at c1;rw[rw3] at c3;have x2m:x2.f (d.fi+z)=th.put (d.f (d.fi+z)) 9:=by rw[← hx2];show (if d.fi+z < d.fi+z then _ else itr (th.put (d.f (d.fi+z)) 9) t.p t.asked (d.fi+z - (d.fi+z)))=_;rw[if_neg (QG _),VE];rfl
 have x2e:d.fi+z<=x2.en:=by rw[← hx2];exact Rp _ _
 obtain ⟨bs4,B4'⟩:=id B4;obtain ⟨g5,c5,B5⟩:=rG P W3 B4' (k+2) q2 x2e;rw[x2m] at c5;have of5:=Bj (G:=G) L.of (Th.Bf am.ok h9 th) th (k+13) g5;rw[En ⟨am.ok.nlen,am.ok.clen⟩] at of5;obtain ⟨l,pl⟩:=Wt.pth i i d (P6 _) hd;have pl3:Pth (((t.add x1).add x2).add x3) i l:=pl.add.add.add;have x1p:x1.par=i:=by rw[← hx1];rfl
 have x3p:x3.par=t.ds.length:=by rw[← hx3];rfl
 have po:Pth (((t.add x1).add x2).add x3) (t.ds.length+2) ((t.ds.length+2)::t.ds.length::l) :=
  .step q3 (by lia) (by rw[x3p];exact .step q1 (by have:=dO hd;lia) (by rw[x1p];exact pl3))
 obtain ⟨bs5,B5'⟩:=id B5;have r5:=tQ P L.q W3 B5' (k+11) (dO q3) po;have r6:=tQ P L.q W3 B5' (k+11) (dO q0) pl3;have i1:(d.en:Int)+1 - (d.fi:Int)=(d.e:Int)+1:=by lia
 have ln:=wU d;have y2:BT.ev (runN T G (k+14)) G Ip (s61 (.p (.lst (cX ns))) (.p (dB t.p)) w2 (.p (.int t.most)) n (aa (.p (.int i))) (aa (.p (dF d))) (aa (.p (.int d.fi))) x8 x9 x10 x11 x12 x13 x14 x15) h=aa (.p (.int ((d.fi+z:Nat):Int)),h):=by have:=dz (k+12) h;simp[Ip,s61,rd,rds,ln,i1,this]
 have y3:∀ x11,BT.ev (runN T G (k+14)) G (.call "_law_thing" (.cons (.var 0) (.cons (.cst (.int 701)) .nil))) (s61 (.p (.lst (cX ns))) (.p (dB t.p)) w2 (.p (.int t.most)) n (aa (.p (.int i))) (aa (.p (dF d))) (aa (.p (.int d.fi))) x8 x9 x10 x11 x12 x13 x14 x15) h=aa (.p th.enc,h):=λx11=>by have:=rt (k+11) h;simp[s61,this]
 have y4:BT.ev (runN T G (k+14)) G Iq (s61 (.p (.lst (cX ns))) (.p (dB t.p)) w2 (.p (.int t.most)) n (aa (.p (.int i))) (aa (.p (dF d))) (aa (.p (.int d.fi))) x8 x9 x10 (aa (.p (.int ((d.fi+z:Nat):Int)))) (aa (.p th.enc)) x13 x14 x15) h=aa (.p (.int t.ds.length),h1):=by have o:=Bj (G:=G) L.of am.ok th (k+13) h;have ix:=kE d hm;simp[-dI,-SO,Iq,s61,A0.ob,rd,ix,o,b1]
 have y5:BT.ev (runN T G (k+14)) G Ir (s61 (.p (.lst (cX ns))) (.p (dB t.p)) w2 (.p (.int t.most)) n (aa (.p (.int i))) (aa (.p (dF d))) (aa (.p (.int d.fi))) x8 x9 x10 (aa (.p (.int ((d.fi+z:Nat):Int)))) (aa (.p th.enc)) (aa (.p (.int t.ds.length))) x14 x15) h1=aa (.p (.int ((t.ds.length+1:Nat):Int)),h2):=by rw[jj] at b2;simp[-SO,Ir,s61,A1'.ob,b2]
 have y6:BT.ev (runN T G (k+14)) G Iu (s61 (.p (.lst (cX ns))) (.p (dB t.p)) w2 (.p (.int t.most)) n (aa (.p (.int i))) (aa (.p (dF d))) (aa (.p (.int d.fi))) x8 x9 x10 (aa (.p (.int ((d.fi+z:Nat):Int)))) (aa (.p th.enc)) (aa (.p (.int t.ds.length))) (aa (.p (.int ((t.ds.length+1:Nat):Int)))) x15) h2=aa (.p (.int ((t.ds.length+2:Nat):Int)),h3):=by rw[jj,jj] at b3;simp[-SO,Iu,s61,A2'.ob,b3]
 have y7:BT.ev (runN T G (k+14)) G Iw (s61 (.p (.lst (cX ns))) (.p (dB t.p)) w2 (.p (.int t.most)) n (aa (.p (.int i))) (aa (.p (dF d))) (aa (.p (.int d.fi))) x8 x9 x10 (aa (.p (.int ((d.fi+z:Nat):Int)))) (aa (.p th.enc)) (aa (.p (.int t.ds.length))) (aa (.p (.int ((t.ds.length+1:Nat):Int)))) (aa (.p (.int ((t.ds.length+2:Nat):Int))))) h3=aa (.p (.bl ai),g4):=by simp[-SO,-g7,Iw,s61,c1,c2,c3,c4,rd,BA]
 obtain ⟨bs3,B3'⟩:=id B3;have y8:BT.ev (runN T G (k+14)) G Iz (s61 (.p (.lst (cX ns))) (.p (dB t.p)) w2 (.p (.int t.most)) n (aa (.p (.int i))) (aa (.p (dF d))) (aa (.p (.int d.fi))) x8 x9 x10 (aa (.p (.int ((d.fi+z:Nat):Int)))) (aa (.p th.enc)) (aa (.p (.int t.ds.length))) (aa (.p (.int ((t.ds.length+1:Nat):Int)))) (aa (.p (.int ((t.ds.length+2:Nat):Int))))) g4=aa (.p (.bl ah),g5):=by
  have pe:c7 ((t.ds.length+2)::t.ds.length::l).reverse=c7 l.reverse++[.int (t.ds.length:Int),.int ((t.ds.length+2:Nat):Int)]:=by simp[c7]
  rw[pe] at r5;have ll:=pl.len Wt;have il:=dO hd;have ad:j7 .add (.lst (c7 l.reverse)) (.lst [.int (t.ds.length:Int),.int ((t.ds.length+2:Nat):Int)])=aa (.lst (c7 l.reverse++[.int (t.ds.length:Int),.int ((t.ds.length+2:Nat):Int)])):=by
   show (if (c7 l.reverse).length+2<=lim then _ else af)=_;rw[if_pos];have:(c7 l.reverse).length=l.length:=by simp[c7]
   show _<=100000;lia
  have eq:fN .eq (.lst (c7 l.reverse++[.int (t.ds.length:Int),.int ((t.ds.length+2:Nat):Int)])) (.lst (c7 l.reverse++[.int (t.ds.length:Int),.int ((t.ds.length+2:Nat):Int)]))=aa ah:=by rw[qt,if_pos (j8 (by rw[qo,List.all_append,oj];simp)),kZ]
  have e9:fN .eq (.int 9) (.int 9)=aa ah:=by simp
  simp[-SO,-qt,-kg,Iz,s61,B4'.ob,c5,of5,B5'.ob,r5,r6,rd,dP,ad,eq,e9]
 refine ⟨g5,?_⟩;exact (jJ (oH y1)).trans ((fC y2).trans ((fC (y3 _)).trans ((fC y4).trans ((fC y5).trans ((fC y6).trans ((jJ (oH y7)).trans (lP y8)))))))
theorem n61 (P:TrP T G) (L:uY T) (k:Nat) (Wt:Wf t) {h:HH} (A:jM Pt h n t ro rb) {i:Nat}{d:Nd} (hd:t.ds[i]?=aa d) (w0 w1 w2 w3:W) (x6 x7 x8 x9 x10 x11 x12 x13 x14 x15:Option W) :
 BT.ev (runN T G (k+14)) G Bu (s61 w0 w1 w2 w3 n (aa (.p (.int i))) x6 x7 x8 x9 x10 x11 x12 x13 x14 x15) h=aa (.p (.bl (decide (0 < i))),h):=by
 obtain ⟨bs,A0⟩:=A;have p0:=oG P L.q Wt A0 (k+11) hd;rcases Q6 i with z|z
 ·subst z;have oi:yp 0 d=.non:=rfl;rw[oi] at p0;have p0':runN T G (k+14) (.m "Tree" "parent") [.o n,.p (.int 0)] h=aa (.p .non,h):=p0;simp[Bu,s61,A0.ob,p0',rd]
 ·have oi:yp i d=d.org:=if_neg (by lia);rw[oi] at p0;simp[Bu,s61,A0.ob,p0,rd,Nd.org,z]
theorem yt (P:TrP T G) (L:uY T) (ns:List Int) (hl:ns.length<=1000) (k:Nat):∃ h',runN T G (k+15) "law" [.p (.lst (cX ns))] []=aa (.p (.bl ah),h'):=by
 obtain ⟨pg,dp,rp⟩:=tH (G:=G) L.lt.lw L.program ns hl 20;obtain ⟨asked,ha,_,ra⟩:=yi (G:=G) L.lt.lw ns hl 450;obtain ⟨most,hm,dm⟩:=fZ (G:=G) L.lt.lw ns hl 440 17 (by lia);obtain ⟨h1,t,b1,Wt,A1,rfl,rfl,rfl,l5⟩:=rK (Pt:=λ_=>af) P L.lt ns hl 600 k dp.ok ha (most:=most) (by lia) [] (λi c z=>gZ z);obtain ⟨h2,b2,A2⟩:=a61 P L k Wt A1 (.p (.lst (cX ns))) af af af af af af af af af af af;obtain ⟨d0,hd0⟩:=jg (l:=t.ds) (i:=0) (List.length_pos_iff.mpr Wt.l0);obtain ⟨i,d,b3,hd⟩:=EE P L k Wt A2 (.p (.lst (cX ns))) (.p (dB t.p)) (.p (.lst (cX t.asked))) (.p (.int t.most)) af af af af af af af af af af 99999 0 d0 hd0 (by lia);obtain ⟨h3,b4,A3⟩:=ji P L.lt.all Wt A2 (k+1) hd;have b5:=n61 P L k Wt A3 hd (.p (.lst (cX ns))) (.p (dB t.p)) (.p (.lst (cX t.asked))) (.p (.int t.most)) (aa (.p (dF d))) (aa (.p (.int 0))) af af af af af af af af;have z1:∀ x,BT.ev (runN T G (k+14)) G (.call "_law_program" (.cons (.var 0) (.cons (.cst (.int 20)) .nil))) (aa (.p (.lst (cX ns)))::x) []=aa (.p (dB t.p),[]):=λx=>by have:=rp (k+7) [];simp[this]
 have z2:∀ x,BT.ev (runN T G (k+14)) G (.call "_law_asked" (.cons (.var 0) (.cons (.cst (.int 450)) .nil))) (aa (.p (.lst (cX ns)))::x) []=aa (.p (.lst (cX t.asked)),[]):=λx=>by have:=ra (k+11) [];simp[this]
 have z3:∀ x,BT.ev (runN T G (k+14)) G (.call "_law_drawn" (.cons (.var 0) (.cons (.cst (.int 440)) (.cons (.cst (.int 17)) .nil)))) (aa (.p (.lst (cX ns)))::x) []=aa (.p (.int t.most),[]):=λx=>by have:=dm (k+12) [];simp[this]
 have z4:∀ x,BT.ev (runN T G (k+14)) G (.call "_law_tree" (.cons (.var 0) (.cons (.cst (.int 600)) (.cons (.var 1) (.cons (.var 2) (.cons (.var 3) .nil)))))) (aa (.p (.lst (cX ns)))::aa (.p (dB t.p))::aa (.p (.lst (cX t.asked)))::aa (.p (.int t.most))::x) []=aa (.o 0,h1):=λx=>by have b1':runN T G (k+14) "_law_tree" [.p (.lst (cX ns)),.p (.int 600),.p (dB t.p),.p (.lst (cX t.asked)),.p (.int t.most)] []=aa (.o 0,h1):=b1;simp[b1']
 have z5:evS (runN T G (k+14)) G (.whl Bs Bt) (s61 (.p (.lst (cX ns))) (.p (dB t.p)) (.p (.lst (cX t.asked))) (.p (.int t.most)) 0 (aa (.p (.int 0))) af af af af af af af af af af) h2=aa (.nx (s61 (.p (.lst (cX ns))) (.p (dB t.p)) (.p (.lst (cX t.asked))) (.p (.int t.most)) 0 (aa (.p (.int i))) af af af af af af af af af af) h2):=b3;have z6:BT.ev (runN T G (k+14)) G (.call "_law_all" (.cons (.var 4) (.cons (.var 5) .nil))) (s61 (.p (.lst (cX ns))) (.p (dB t.p)) (.p (.lst (cX t.asked))) (.p (.int t.most)) 0 (aa (.p (.int i))) af af af af af af af af af af) h2=aa (.p (dF d),h3):=by have b4':runN T G (k+14) "_law_all" [.o 0,.p (.int i)] h2=aa (.p (dF d),h3):=b4;simp[s61,b4']
 have z7:∃ g y8 y9 y10,evS (runN T G (k+14)) G (.ife Bu Io .nil) (s61 (.p (.lst (cX ns))) (.p (dB t.p)) (.p (.lst (cX t.asked))) (.p (.int t.most)) 0 (aa (.p (.int i))) (aa (.p (dF d))) (aa (.p (.int 0))) af af af af af af af af) h3 =
  aa (.nx (s61 (.p (.lst (cX ns))) (.p (dB t.p)) (.p (.lst (cX t.asked))) (.p (.int t.most)) 0 (aa (.p (.int i))) (aa (.p (dF d))) (aa (.p (.int d.fi))) y8 y9 y10 af af af af af) g)/\jM (λ_=>af) g 0 t 1 5:=by
  rcases Q6 i with z|z
  ·subst z;rw[decide_eq_false (QG 0)] at b5;have f0:=((Wt.each 0 d hd).zero rfl).1;rw[f0];exact ⟨h3,af,af,af,oH b5,A3⟩
  ·rw[decide_eq_true z] at b5;obtain ⟨g,y8,y9,y10,c1,c2⟩:=p61 P L k Wt A3 hd z (.p (.lst (cX ns))) (.p (.int t.most)) (aa (.p (.int 0))) af af af af af af af af;exact ⟨g,y8,y9,y10,(LS b5).trans c1,c2⟩
 obtain ⟨h4,y8,y9,y10,z7,A4⟩:=z7;obtain ⟨h5,z8⟩:=r61 P L ns hl k Wt l5 A4 hd (.p (.lst (cX t.asked))) y8 y9 y10 af af af af af;have bd:evS (runN T G (k+14)) G iS.body (fc iS.ns.length [.p (.lst (cX ns))]) []=aa (.rt (.p (.bl ah)) h5) :=
  (fC (z1 _)).trans ((fC (z2 _)).trans ((fC (z3 _)).trans ((fC (z4 _)).trans ((jJ (oH b2)).trans ((fC rfl).trans ((jJ z5).trans ((fC z6).trans ((fC rfl).trans ((jJ z7).trans z8)))))))))
 obtain ⟨h6,f6,_⟩:=rE [] (.bl ah) h5;refine ⟨h6,?_⟩;rw[run_eq L.law rfl,bd,mH,f6]
end
end BT
end
section
namespace BF
open PySem PySem.Spec PyProof.Rows L2 BS
variable {K:PP}
def u0 (P:Qg) (w:QA) (K:PP) (mg:aB->Option aC) (x:aB) (z:BT.W):Prop:=∃ u v,mg x=aa u/\RelV v u/\∀ m H,RW P w K m H v z
theorem BH (X:K.In h) (G:h.Ns Qh mg) (a:QI K Qh x=aa (aa (.int n t))):u0 P w K mg x (.p (.int n)) :=
 ⟨_,.int n,Se X G a,⟨t,rfl⟩,λ_ _=>.p (.int n)⟩
inductive fY:List aB->List aC->Prop where
 | nil:fY [] []
 | cons {x:aB}{xs:List aB}{t:Tok}{vs:List aC} (h:PyData.strOk x=ah) (r:fY xs vs):fY (x::xs) (.str x t::vs)
theorem fY.vals:∀ {xs:List aB}{vs:List aC},fY xs vs->dw (xs.map V.str) vs
 | _,_,.nil=>.nil| _,_,.cons _ r=>.cons ⟨_,rfl⟩ r.vals
theorem fY.rds {K:PP}:∀ {xs:List aB}{vs:List aC},fY xs vs->RDs K m H (xs.map V.str) (xs.map BT.D.str)
 | _,_,.nil=>.nil| _,_,.cons h r=>.cons (.str _ h) r.rds
theorem fY.len:∀ {xs:List aB}{vs:List aC},fY xs vs->vs.length=xs.length
 | _,_,.nil=>rfl
 | _,_,.cons _ r=>by simp[r.len]
theorem BI (X:K.In h) (G:h.Ns Qh mg) (a:QI K Qh x=aa (aa (.ref f)))
 (l:K.lookup f=aa ⟨.type "tuple",af,.seq its n,sl⟩) (hl:xs.length<=1000) (r:fY xs its.toList):u0 P w K mg x (.p (.tup (xs.map BT.D.str))):=by
 refine ⟨_,.ref f,Se X G a,rfl,λm H=>.p (.tup (.inr ⟨_,its,n,⟨l,rfl,rfl,?_,r.vals⟩,rfl⟩) r.rds)⟩;have:=r.len;have e:its.size=xs.length:=by rw[← this];simp
 rw[e];exact SC (xy hl)
inductive iI (w:QA):List (aB×Int)->List UH->Prop where
 | nil:iI w [] []
 | cons {x:aB}{n:Int}{kvs:List (aB×Int)}{t u:Tok}{es:List UH} (r:iI w kvs es):iI w ((x,n)::kvs) (⟨PyData.keyHash w.params x,.str x t,.int n u⟩::es)
theorem iI.ex:∀ {kvs:List (aB×Int)}{es:List UH},iI w kvs es->∃ vs:List (Key×aC),KV ((kvs.map λq=>(q.1,V.int q.2)).map λq=>((Sum.inr q.1:Key),q.2)) vs/\Pairs (dM P w) es vs/\vs.map (·.1)=kvs.map (λq=>(Sum.inr q.1:Key))/\(∀ e∈es,∃ k,(dM P w).is k e.key=ah/\e.hash=(dM P w).hash k)
 | _,_,.nil=>⟨[],.nil,.nil,rfl,λe he=>nomatch he⟩
 | _,_,@iI.cons _ x n kvs t u es r=>by
  obtain ⟨vs,h1,h2,h3,h4⟩:=r.ex (P:=P);have is:(dM P w).is (Sum.inr x) (.str x t)=ah:=by show Uc x (.str x t)=ah;simp[Uc]
  refine ⟨(Sum.inr x,.int n u)::vs,.cons ⟨rfl,u,rfl⟩ h1,.cons is rfl h2,by simp[h3],λe he=>?_⟩;rcases List.mem_cons.mp he with rfl|he
  exact ⟨Sum.inr x,is,rfl⟩;exact h4 e he
theorem yu {P:Qg}{w:QA}{h:ay}{mg:aB->Option aC} (X:K.In h) (G:h.Ns Qh mg) {x:aB}{f:P4}{es:Array UH}{n:Nat}{kvs:List (aB×Int)} (a:QI K Qh x=aa (aa (.ref f)))
 (l:K.lookup f=aa { cls:=.type "dict",data:=.dict es n }) (hf:(f==SH)=ai) (r:iI w kvs es.toList) (nd:(kvs.map (·.1)).Nodup):u0 P w K mg x (.k (.t (kvs.map λq=>(q.1,BT.D.int q.2)))):=by
 obtain ⟨vs,h1,h2,h3,h4⟩:=r.ex (P:=P);refine ⟨_,.ref f,Se X G a,rfl,λm H=>.k (es:=kvs.map λq=>(q.1,V.int q.2)) ⟨hf,vs,h1,λhh Kh=>⟨_,es,n,Kh _ _ l,⟨rfl,rfl,rfl⟩,rfl,λe he=>h4 e (by simpa using he),h2,?_⟩⟩ ?_⟩
 ·rw[h3];have e:(kvs.map λq=>(Sum.inr q.1:Key))=(kvs.map (·.1)).map Sum.inr:=by simp
  rw[e];exact List.pairwise_map.mpr (nd.imp λh z=>h (Sum.inr.inj z))
 ·clear r nd h1 h2 h3 h4 l
  induction kvs with
  | nil=>exact .nil| cons q kvs ih=>exact .cons (λ_ _=>.int _) ih
noncomputable def look {κ α:Type} [DecidableEq κ] (l:List (κ×α)) (x:κ):Option α:=match l with
 | []=>af
 | (y,a)::r=>if y=x then aa a else look r x
theorem jN {κ α:Type} [DecidableEq κ] {Q:κ->α->Prop}:∀ {l:List (κ×α)} (_:∀ p∈l,Q p.1 p.2) {x:κ}{a:α},look l x=aa a->Q x a
 | [],_,_,_,e=>by exact BT.gZ e
 | (y,b)::r,h,x,a,e=>by
  rw[look] at e;split at e
  ·rename_i z;cases e;subst z;exact h (y,b) Qn
  exact jN (λp hp=>h p (Qe _ hp)) e
theorem jF {K:PP}:∀ ns:List Int,RDs K m H (ns.map V.int) (BT.cX ns)
 | []=>.nil| n::r=>.cons (.int n) (jF r)
theorem BJ (tb:TB K H) (hS:LL K H a (ns.map V.int)) (e:∃ h',g [.p (.lst (BT.cX ns))] []=aa (.p (.bl ah),h')):spF P w K g [.ref a] H (λv _=>v=.bl ah) λ_ _ _=>False:=by obtain ⟨h',e⟩:=e;refine ⟨[],_,[],_,h',⟨List.nodup_nil,rfl,λi a xs z=>by simp at z,tb⟩,.cons (.p (.lst (hS.elim (λq=>.inl ⟨q,by simp⟩) .inr) (jF ns))) .nil,e,λv H' m' _ _ r=>lH r⟩
end BF
end
section
namespace BG
open PySem PySem.Spec PySem.Calls PyProof.Rows L2 BS BF
variable {K:PP}{st:Us}
theorem EF (H:∀ p∈K,h.get? p.1=aa p.2):K.In h:=by
 intro a o e;obtain ⟨p,hp,he⟩:∃ p∈K,p.1=a/\p.2=o:=by
  clear H
  induction K with
  | nil=>exact BT.gZ e
  | cons q r ih =>
   rw[Rn] at e;split at e
   ·rename_i c;cases e;exact ⟨q,Qn,(eq_of_beq c).symm,rfl⟩
   ·obtain ⟨p,hp,he⟩:=ih e;exact ⟨p,Qe _ hp,he⟩
 rw[← he.1,← he.2];exact H p hp
inductive LU (K:PP) (x qual:aB) (st:Us) (f:P4):Prop where
 | mk (fd:Ry) (F:Fun K x qual st f fd) (kV doc pm:aC) (an:Option P4) (cdv ct:aC) (e:fd=Rj x qual (fK st) (dR st) (dh st) .none kV doc pm an cdv ct):LU K x qual st f
theorem BK (e:B8 K f=aa (u6 x qual st)):LU K x qual st f:=by
 unfold B8 at e;split at e
 ·rename_i oc od fd sl l;have e':=P5 e;unfold u6 at e';obtain ⟨nm,ql,pa,bo,sc,gl,cl,de,kw,dc,pm,an,co,ct,bu⟩:=fd;simp only[FS.mk.injEq] at e';obtain ⟨rfl,rfl,rfl,rfl,rfl,rfl,rfl,rfl,rfl,hc⟩:=e';have F:=Ge (K:=K) (x:=nm) (qual:=ql) (st:=st) (f:=f) (kV:=kw) (doc:=dc) (pm:=pm) (an:=an) (cdv:=co) (ct:=ct) l hc (by simp only[Q3,l]);exact ⟨_,F,kw,dc,pm,an,co,ct,rfl⟩
 exact BT.gZ e
theorem nth {α:Type}{l:List α}{a:α} (i:Nat) (h:l[i]?=aa a):a∈l:=P8 h
noncomputable def tU (ns:List aB):Bool:=ns.all λn=>!(n.cps[0]?==aa 60)
theorem LV (y:aB):(BT.jy y).cps[0]?=aa 60:=by show (((#[60]:Array Nat)++y.cps)++#[62])[0]?=aa 60;rw[← Vr];simp
theorem BN (h:tU ns=ah) (y:aB):ns.contains (BT.jy y)=ai:=by
 cases e:ns.contains (BT.jy y) with
 | false=>rfl
 | true =>
  have:=List.all_eq_true.mp h _ (List.contains_iff_mem.mp e);rw[LV] at this;exact BT.eW this
theorem BO (h:tU fn.ns=ah):nV K q fd fn:=λy hy=>by rw[BN h y] at hy;exact BT.eW hy
section
variable {K:PP}
theorem rL (e:refOf o=aa f):o=aa (aa (.ref f)):=by unfold refOf at e;split at e;cases e;rfl;exact BT.gZ e
theorem IB (X:K.In h) (G:h.Ns Qh mg) (e:fy K (.fn x f st)=fz w (.fn x f st))
 (sc:fL fn.ns fn.ps (dh st)) (hb:∀ (kV doc pm:aC) (an:Option P4) (cdv ct:aC) (us:List aC),us.length=fn.ps.length->V1 (Rj x x (fK st) (dR st) (dh st) .none kV doc pm an cdv ct) ⟨us,[]⟩=pure (fn.ps.zip us))
 (ck:CSs (dh st) fn.ns fn.body (dR st)) (tg:∀ fd,QI K Qh x=aa (aa (.ref f))->(∃ oc od sl,K.lookup f=aa ⟨oc,od,.func fd,sl⟩)->nV K x fd fn):Def K mg x fn:=by
 simp only[fy,fz,Ov.fn.injEq] at e;obtain ⟨fd,F,kV,doc,pm,an,cdv,ct,rfl⟩:=BK e.2;refine ⟨f,_,st,Se X G (rL e.1),F,sc,F.binds hb,ck,tg _ (rL e.1) ?_⟩;obtain ⟨oc,od,kV,doc,pm,an,cdv,ct,osl,e1,lk,_⟩:=F.ex;exact ⟨oc,od,osl,lk⟩
theorem BP (e:fy K (.cls c C)=fz w (.cls c C)):nH K c C:=by simp only[fy,fz,Ov.b.injEq,Jr,PZ,decide_eq_true_eq] at e;obtain ⟨⟨⟨⟨⟨⟨h1,h2⟩,h3⟩,h4⟩,h5⟩,h6⟩,h7⟩:=e;refine ⟨h1,⟨h2,h3,h4,h5⟩,λf hf=>?_,h7⟩;have hm:f∈attrs:=List.contains_iff_mem.mp hf;exact of_decide_eq_true (p:=Qp K (.ref C) f=aa af) (List.all_eq_true.mp h6 f hm)
theorem EG (X:K.In h) (G:h.Ns Qh mg) (ec:fy K (.cls c C)=fz w (.cls c C)) (em:fy K (.mk C)=fz w (.mk C)) (e:fy K (.me C m x qual f st)=fz w (.me C m x qual f st))
 (sc:fL fn.ns fn.ps (dh st)) (hb:∀ (kV doc pm:aC) (an:Option P4) (cdv ct:aC) (us:List aC),us.length=fn.ps.length->V1 (Rj x qual (fK st) (dR st) (dh st) .none kV doc pm an cdv ct) ⟨us,[]⟩=pure (fn.ps.zip us))
 (ck:CSs (dh st) fn.ns fn.body (dR st)) (tg:tU fn.ns=ah):AN K mg c m fn:=by
 have hC:=BP ec;simp only[fy,fz,Ov.fn.injEq] at e;obtain ⟨e1,e2⟩:=e;obtain ⟨fd,F,kV,doc,pm,an,cdv,ct,rfl⟩:=BK e2;have e1':meB K C m f=ah:=by
  cases q:meB K C m f with
  | true=>rfl| false=>rw[q] at e1;exact BT.gZ e1
 simp only[meB,PZ,decide_eq_true_eq] at e1';simp only[fy,fz,Ov.b.injEq,mkB,PZ] at em;refine ⟨C,f,_,x,qual,st,hC,Se X G hC.cn,⟨e1'.1,e1'.2,F.kp⟩,λz=>?_,F,sc,F.binds hb,ck,BO tg⟩;subst z;exact ⟨em.1,e1'.1,e1'.2,em.2⟩
theorem none_of (X:K.In h) (G:h.Ns Qh mg) (e:fy K (.no x)=fz w (.no x)):mg x=af:=by simp only[fy,fz,Ov.b.injEq,decide_eq_true_eq] at e;exact PySem.W.mg_none_of X G e
theorem BQ (h:intOf v=aa x):∃ t,v=.int x t:=by cases v<;>simp[intOf] at h;exact ⟨_,by rw[h]⟩
theorem BU (h:strOf v=aa x):∃ t,v=.str x t:=by cases v<;>simp[strOf] at h;exact ⟨_,by rw[h]⟩
theorem fq (X:K.In h) (G:h.Ns Qh mg) (e:fy K (.int x n)=fz w (.int x n)):u0 P w K mg x (.p (.int n)):=by
 simp only[fy,fz,Ov.int.injEq] at e;split at e
 ·rename_i v hv;obtain ⟨t,rfl⟩:=BQ e;exact BH X G hv
 exact BT.gZ e
theorem wV:∀ {xs:List aB}{vs:List aC},xs.all PyData.strOk=ah->vs.map strOf=xs.map aa->fY xs vs
 | [],[],_,_=>.nil
 | [],_::_,_,h=>by simp at h
 | _::_,[],_,h=>by simp at h
 | x::xs,v::vs,k,h=>by simp only[Qa,SD] at h;simp only[List.all_cons,PZ] at k;obtain ⟨t,rfl⟩:=BU h.1;exact .cons k.1 (wV k.2 h.2)
theorem wW:∀ {kvs:List (aB×Int)}{es:List UH},es.map (λe=>(e.hash,strOf e.key,intOf e.val))=kvs.map (λq=>(PyData.keyHash w.params q.1,aa q.1,aa q.2))->iI w kvs es
 | [],[],_=>.nil
 | [],_::_,h=>by simp at h
 | _::_,[],h=>by simp at h
 | (x,n)::kvs,⟨ha,k,v⟩::es,h=>by simp only[Qa,SD,UU] at h;obtain ⟨⟨rfl,h2,h3⟩,hr⟩:=h;obtain ⟨t,rfl⟩:=BU h2;obtain ⟨u,rfl⟩:=BQ h3;exact .cons (wW hr)
theorem BV (X:K.In h) (G:h.Ns Qh mg) (e:fy K (.tup x f xs)=fz w (.tup x f xs)) (hl:xs.length<=1000) (hs:xs.all PyData.strOk=ah):u0 P w K mg x (.p (.tup (xs.map BT.D.str))):=by simp only[fy,fz,Ov.seq.injEq] at e;obtain ⟨e1,e2,e3⟩:=e;obtain ⟨o,l,e4⟩:=Option.map_eq_some_iff.mp e2;rw[l] at e3;obtain ⟨cl,di,da,sl⟩:=o;simp only[shp,UU] at e4;obtain ⟨rfl,rfl,e5⟩:=e4;have:sl=#[]:=Ur e5;subst this;simp only[QK,yy] at e3;cases da<;>simp only[SM,reduceCtorEq] at e3;exact BI X G (rL e1) l hl (wV hs e3)
theorem BW (X:K.In h) (G:h.Ns Qh mg) {x:aB}{f:P4}{kvs:List (aB×Int)} (e:fy K (.dct x f kvs)=fz w (.dct x f kvs)) (hf:(f==SH)=ai) (nd:(kvs.map (·.1)).Nodup):u0 P w K mg x (.k (.t (kvs.map λq=>(q.1,BT.D.int q.2)))):=by simp only[fy,fz,Ov.dct.injEq] at e;obtain ⟨e1,e2,e3⟩:=e;obtain ⟨o,l,e4⟩:=Option.map_eq_some_iff.mp e2;rw[l] at e3;obtain ⟨cl,di,da,sl⟩:=o;simp only[shp,UU] at e4;obtain ⟨rfl,rfl,e5⟩:=e4;have:sl=#[]:=Ur e5;subst this;simp only[QK,ET] at e3;cases da<;>simp only[SM,reduceCtorEq] at e3;exact yu X G (rL e1) l hf (wW e3) nd
end
theorem yv {α:Type}{us:List α}{n:Nat} (h:us.length=n+1):∃ a r,us=a::r/\r.length=n:=by
 cases us with
 | nil=>simp at h| cons a r=>exact ⟨a,r,rfl,by simpa using h⟩
theorem len0 {α:Type}{us:List α} (h:us.length=0):us=[]:=UA h
theorem LW {α:Type}{us:List α} (h:us.length=1):∃ a0,us=[a0]:=by obtain ⟨a0,r,rfl,g⟩:=yv h;exact ⟨a0,by rw[len0 g]⟩
theorem LY {α:Type}{us:List α} (h:us.length=2):∃ a0 a1,us=[a0,a1]:=by obtain ⟨a0,r,rfl,g⟩:=yv h;obtain ⟨a1,rfl⟩:=LW g;exact ⟨a0,a1,rfl⟩
theorem LZ {α:Type}{us:List α} (h:us.length=3):∃ a0 a1 a2,us=[a0,a1,a2]:=by obtain ⟨a0,r,rfl,g⟩:=yv h;obtain ⟨a1,a2,rfl⟩:=LY g;exact ⟨a0,a1,a2,rfl⟩
theorem L0 {α:Type}{us:List α} (h:us.length=4):∃ a0 a1 a2 a3,us=[a0,a1,a2,a3]:=by obtain ⟨a0,r,rfl,g⟩:=yv h;obtain ⟨a1,a2,a3,rfl⟩:=LZ g;exact ⟨a0,a1,a2,a3,rfl⟩
theorem L1 {α:Type}{us:List α} (h:us.length=5):∃ a0 a1 a2 a3 a4,us=[a0,a1,a2,a3,a4]:=by obtain ⟨a0,r,rfl,g⟩:=yv h;obtain ⟨a1,a2,a3,a4,rfl⟩:=L0 g;exact ⟨a0,a1,a2,a3,a4,rfl⟩
theorem Oz {α:Type}{us:List α} (h:us.length=6):∃ a0 a1 a2 a3 a4 a5,us=[a0,a1,a2,a3,a4,a5]:=by obtain ⟨a0,r,rfl,g⟩:=yv h;obtain ⟨a1,a2,a3,a4,a5,rfl⟩:=L1 g;exact ⟨a0,a1,a2,a3,a4,a5,rfl⟩
noncomputable abbrev BdT (x qual:aB) (st:Us) (fn:BT.Fn):Prop:=∀ (kV doc pm:aC) (an:Option P4) (cdv ct:aC) (us:List aC),us.length=fn.ps.length->V1 (Rj x qual (fK st) (dR st) (dh st) .none kV doc pm an cdv ct) ⟨us,[]⟩=pure (fn.ps.zip us)
structure CkB (x qual:aB) (s:Us) (f:BT.Fn):Prop where
 ck:CSs (dh s) f.ns f.body (dR s):=by repeat' (first|rfl|constructor|decide +kernel)
 sc:fL f.ns f.ps (dh s):=by constructor<;>first|rfl|decide +kernel
 bd:BdT x qual s f:=by intro _ _ _ _ _ _ us hl;first|(obtain ⟨a0,a1,rfl⟩:=LY hl;rfl)|(obtain ⟨a0,rfl⟩:=LW hl;rfl)|(obtain ⟨a0,a1,a2,rfl⟩:=LZ hl;rfl)|(obtain ⟨a0,a1,a2,a3,rfl⟩:=L0 hl;rfl)|(obtain rfl:=len0 hl;rfl)|(obtain ⟨a0,a1,a2,a3,a4,rfl⟩:=L1 hl;rfl)|(obtain ⟨a0,a1,a2,a3,a4,a5,rfl⟩:=Oz hl;rfl)
theorem hn {w:QA}{qs:List Qy} (hq:∀ q∈qs,fy K q=fz w q) (i:Nat) {a:Qy} (h:qs[i]?=aa a):fy K a=fz w a:=hq _ (nth i h)
def tV (K:PP) (mg:aB->Option aC) (p:BT.FK×BT.Fn):Prop:=(∀ x,p.1=.f x->Def K mg x p.2)/\(∀ c m,p.1=.m c m->AN K mg c m p.2)/\∀ L,p.1=.l L->False
theorem dd (d:Def K mg x fn):tV K mg (.f x,fn):=⟨λy e=>by cases e;exact d,λc m e=>(by cases e),λL e=>by cases e⟩
theorem dm (d:AN K mg c m fn):tV K mg (.m c m,fn):=⟨λy e=>(by cases e),λc m e=>by cases e;exact d,λL e=>by cases e⟩
theorem c6 {α:Type}{Q:α->Prop}{a:α}{l:List α} (h:Q a) (t:∀ p∈l,Q p):∀ p∈a::l,Q p:=List.forall_mem_cons.mpr ⟨h,t⟩
theorem BY {α:Type}{Q:α->Prop}:∀ p∈([]:List α),Q p:=λ_ h=>absurd h Ti
section
variable {K:PP}
theorem dd0 (X:K.In h) (G:h.Ns Qh mg) (e:fy K (.fn x f st)=fz w (.fn x f st)) (c:CkB x x st fn) (tg:tU fn.ns=ah:=by decide +kernel):tV K mg (.f x,fn) :=
 dd (IB X G e c.sc c.bd c.ck λ_ _ _=>BO tg)
theorem dm0 (X:K.In h) (G:h.Ns Qh mg) (ec:fy K (.cls c C)=fz w (.cls c C)) (em:fy K (.mk C)=fz w (.mk C)) (e:fy K (.me C m x qual f st)=fz w (.me C m x qual f st)) (k:CkB x qual st fn) (tg:tU fn.ns=ah:=by decide +kernel):tV K mg (.m c m,fn) :=
 dm (EG X G ec em e k.sc k.bd k.ck tg)
end
structure IC (K:PP) (tl:List (aB×P4×P4)):Prop where
 all:∀ z∈BT.g8,(∃ c P,(z,c,P)∈tl/\Ri K z=aa (c,P))\/Ri K z=af
 hd:∀ q∈tl,Uj K q.2.1 q.2.2=ah
theorem dZ (e:fy K (.no x)=fz w (.no x)):Ri K x=af:=by simp only[fy,fz,Ov.b.injEq,decide_eq_true_eq] at e;unfold Ri;rw[e]
theorem u5 (e:K.lookup b=aa o):b∈K.map (·.1):=List.mem_map.mpr ⟨(b,o),PySem.W.mem_of_lookupK e,rfl⟩
theorem yw 
 (KX:K.In s₁.heap) (hns:s₁.heap.Ns Qh mg) (hb:s₁.heap.Ns Su mb) (hbb:∀ x:aB,x≠"__name__"->mb x=S9 x) (hlim:s₁.heap.NoLimit) (hg:s₁.gens=#[])
 (ha:s₁.heap.get? a=aa { cls:=.type "list",data:=.seq vs.toArray }) (hi:Wa vs ns) (hl:ns.length<=ao) (hr:fJ k V0)
 (hT:IC K tl) (hTs:∀ p∈tl,s₁.heap.get? p.2.2=aa (TF #[])) (hTk:∀ p∈tl,K.lookup p.2.2=af)
 (F:∀ base:ay,iU P w K mg base CX0 k fa fd [x] sp) (hbind:∀ (s:PX) (u:aC),K.In s.heap->BindsTo s fd ⟨[u],[]⟩ [(x,u)])
 (hsp:∀ H:Hp,TB K H->LL K H a (ns.map V.int)->sp [.ref a] H (λv _=>v=.bl ah) λ_ _ _=>False) :
 au (Qq P w) V0 (.call (.ref fa) ⟨[.ref a],[]⟩) (λr s'=>r=.ok (.ret (.bool ah))/\OldK s₁.heap s'.heap/\s'.os=s₁.os/\Vt s'.gens) s₁:=by
 have rv:=pJ hi;have lenV:=hi.length;have tne:∀ p∈tl,p.2.2≠a:=λp hp z=>by have:=hTs p hp;rw[z,ha] at this;cases this
 let so:HO:=.frz { cls:=.type "list",data:=.seq vs.toArray } (.lst (ns.map V.int))
 let H:Hp:=λb=>if ∃ p∈tl,p.2.2=b then aa (.tbl #[]) else if b=a/\K.lookup a=af then aa so else af
 have Ht:∀ p∈tl,H p.2.2=aa (.tbl #[]):=λp hp=>if_pos ⟨p,hp,rfl⟩;have Hcase:∀ b u,H b=aa u->(∃ p∈tl,p.2.2=b/\u=.tbl #[])\/(b=a/\K.lookup a=af/\u=so):=λb u e=>by
  by_cases c1:∃ p∈tl,p.2.2=b
  ·have e':aa (HO.tbl #[])=aa u:=(if_pos c1).symm.trans e;obtain ⟨p,hp,h2⟩:=c1;exact .inl ⟨p,hp,h2,(P5 e').symm⟩
  ·have e':(if b=a/\K.lookup a=af then aa so else af)=aa u:=(if_neg c1).symm.trans e
   by_cases c2:b=a/\K.lookup a=af
   ·rw[if_pos c2] at e';exact .inr ⟨c2.1,c2.2,(P5 e').symm⟩
   rw[if_neg c2] at e';exact BT.gZ e'
 have noA:∀ {b:P4}{o:av}{es:Array UH}{ep:Nat},s₁.heap.get? b=aa o->o.data=.dict es ep->H b=af:=λ{b o es ep} e d=>by
  cases q:H b with
  | none=>rfl
  | some u =>
   rcases Hcase b u q with ⟨p,hp,h2,_⟩|⟨h2,_⟩
   ·have z:=hTs p hp;rw[h2,e] at z;cases z;cases d
   ·rw[h2,ha] at e;cases e;have d':Data.seq vs.toArray _=Data.dict es ep:=d;cases d'
 have nsK:∀ {b:P4}{m:aB->Option aC},s₁.heap.Ns b m->(rO s₁.heap H).Ns b m:=λ{b m} ⟨o,es,ep,e,d,r⟩=>⟨o,es,ep,rP e (noA e d),d,r⟩;have hKb:K.In (rO s₁.heap H):=λb o e=>rP (KX b o e) (by
  cases q:H b with
  | none=>rfl
  | some u =>
   rcases Hcase b u q with ⟨p,hp,h2,_⟩|⟨h2,h3,_⟩
   rw[← h2,hTk p hp] at e;exact BT.gZ e
   ·rw[h2,h3] at e;exact BT.gZ e)
 have hM:Mod K mg (rO s₁.heap H):=⟨hKb,nsK hns,⟨mb,nsK hb,hbb⟩,let ⟨mc,h1,h2⟩:=hlim;⟨mc,nsK h1,h2⟩⟩;have hok:HOk P w H s₁.heap:=λb u e=>by
  rcases Hcase b u e with ⟨p,hp,h2,rfl⟩|⟨h2,_,rfl⟩
  subst h2;exact hTs p hp;subst h2;exact ⟨ha,by rw[Qt];exact hl,vs,_,rv,ha⟩
 have e0:rV P w K mg (rO s₁.heap H) V0 [] s₁ H:=⟨rfl,hM,λb o e=>B9 e,Nat.le_of_eq (wZ _ _),trivial,λb hb=>absurd (show b∈([]:List P4) from hb) (by simp),hok,.of_eq hg⟩;have tb:TB K H:=λz hz c Pt e=>by
  rcases hT.all z hz with ⟨c3,P3,m3,e3⟩|e3
  ·rw[e] at e3;cases e3;exact ⟨#[],Ht _ m3,trivial,λpos v q=>by cases q⟩
  rw[e] at e3;cases e3
 have hS:LL K H a (ns.map V.int):=by
  cases hk:K.lookup a with
  | some o =>
   have e:=KX a o hk;rw[ha] at e;cases e;exact .inr ⟨vs,_,hk,by rw[lenV];exact hl,rv⟩
  | none =>
   refine .inl (.inr ⟨{ cls:=.type "list",data:=.seq vs.toArray },?_⟩);have e1:H a=(if a=a/\K.lookup a=af then aa so else af):=if_neg λ⟨p,hp,z⟩=>tne p hp z;rw[e1,if_pos ⟨rfl,hk⟩]
 refine UZ ((F _).run V0 [] s₁ H ⟨[.ref a],[]⟩ [.ref a] [.ref a] _ _ hr e0 (hbind s₁ (.ref a) KX) (.cons rfl .nil) (hsp H tb hS)) λr s' h=>?_;cases r with
 | error e=>exact Rl h
 | ok fl =>
  cases fl with
  | ret u =>
   obtain ⟨v,H',os,bare,un,hok',r',q⟩:=h;have q':v=.bl ah:=q;subst q';obtain rfl:u=SX ah:=r';have kp:∀ b o,s₁.heap.get? b=aa o->(s'.heap.get? b=aa o)\/∃ p∈tl,p.2.2=b/\∃ more,s'.heap.get? b=aa (TF (#[]++more)):=λb o e=>by
    cases q:H b with
    | none=>exact .inl (un.keep b o e q (by intro z;exact absurd (show b∈([]:List P4) from z) (by simp)) (by simp))
    | some u =>
     rcases Hcase b u q with ⟨p,hp,h2,rfl⟩|⟨h2,h3,rfl⟩
     ·obtain ⟨more,z⟩:=un.tbls b _ q;exact .inr ⟨p,hp,h2,more,hok' b _ z⟩
     ·have z2:=un.frzs b _ _ q;obtain ⟨e1,_⟩:=hok b _ q;obtain ⟨e2,_⟩:=hok' b _ z2;rw[e] at e1;cases e1;exact .inl e2
   refine ⟨rfl,⟨λb o e=>?_,λb o e=>?_⟩,os,bare⟩
   ·rcases kp b o e with z|⟨p,hp,rfl,more,z⟩
    exact .inl z
    ·have e2:=hTs p hp;rw[e] at e2;cases e2;have tA:=(Vq KX (hT.hd p hp)).tab e;exact .inr (.inl ⟨tA.isCodeTable,rfl,#[],more,rfl,z⟩)
   ·rcases kp b o e with z|⟨p,hp,rfl,more,z⟩
    exact ⟨o,z⟩;exact ⟨_,z⟩
  | _=>exact Rl h
theorem BZ {l:PySem.W.OpenLaw}{n k:Nat}{q:Qg}{loose:List aB}{XP:(aB->Option aC)->ay->Prop}{d:DefRec}{as:List P4}{qs:List Qy}{ts:List P4}{tl:List (aB×P4×P4)}{T:BT.FK->Option BT.Fn}{G:aB->Option BT.W}{fn:BT.Fn}{x:aB}
 (hn:l.most=aa n) (hn2:n<=ao) (hdf:d.params.defaults=[]) (hr:fJ (2*k) V0) (hps:fn.ps=[x]) (hT:T (.f d.name)=aa fn) (hts:ts=tl.map (·.2.2)) (hto:tl.all (λp=>!as.contains p.2.2)=ah)
 (FT:∀ (w:QA) (K:PP),(∀ q∈qs,fy K q=fz w q)->IC K tl)
 (F:∀ (P:Qg) (w:QA) (mg:aB->Option aC) (K:PP) (h:ay),K.In h->h.Ns Qh mg->(∀ q∈qs,fy K q=fz w q)->Txt P w K mg T G)
 (hrun:∀ ns:List Int,ns.length<=n->∃ h',BT.runN T G k (.f d.name) [.p (.lst (BT.cX ns))] []=aa (.p (.bl ah),h')) :
 PySem.W.WalkO q loose XP (sees as qs ts).says l.row.toRowW d [] (λf vs=>V4 f vs):=by
 refine Att.rZ hn hdf λw s₀ s₁ mg mb fa o pm cd doc a vs ns Gr Y ho hd hcd hmg hobj hints hlen hg=>?_;obtain ⟨K,k0,k1,k2,k3⟩:=Y;have KX:=EF k1;have X:=F l.prog w mg K s₁.heap KX Gr.T.g k2;obtain ⟨f,fd,st,h1,h2,h3,h4,h5,h6⟩:=(X.defs _ fn hT).ex;rw[hmg] at h1;cases h1;refine yw (sp:=spF l.prog w K (BT.runN T G k (.f d.name))) (x:=x) (k:=2*k) (fd:=fd) (tl:=tl) KX Gr.T.g Gr.T.b Gr.T.builtins Gr.T.nolimit hg hobj hints (QD hlen hn2) hr (FT w K k2) (λp hp=>k3 _ (by rw[hts];exact List.mem_map_of_mem hp)) (λp hp=>?_) (λbase=>?_) (λs u hK=>?_) (λH tb hS=>BJ tb hS (hrun ns hlen))
 ·cases e:K.lookup p.2.2 with
  | none=>rfl
  | some o =>
   have m:=u5 e;rw[k0] at m;have:=List.all_eq_true.mp hto p hp;rw[List.contains_iff_mem.mpr m] at this;exact BT.eW this
 ·have:=HE (base:=base) X k (.f d.name) fn hT _ fd d.name d.name st h2 h3 h5 h6;rw[hps] at this;exact this
 ·have:=h4 s [u] hK (by rw[hps];rfl);rw[hps] at this;exact this
end BG
end
section
namespace BL
open PySem PySem.Spec PyProof.Rows L2 BS BF BG
theorem OA:CkB "is_whole" "is_whole" (top 11) BT.iC:={}
theorem OB:CkB "is_name" "is_name" (top 12) BT.gT:={}
theorem OD:CkB "is_cell" "is_cell" (top 13) BT.jc:={}
theorem OE:CkB "inner_sums" "inner_sums" (top 14) BT.fh:={}
theorem OF:CkB "begun" "begun" (top 23) BT.kX:={}
theorem OG:CkB "check_thing" "check_thing" (top 24) BT.eZ:={}
theorem OH:CkB "worth_in" "worth_in" (top 25) BT.ig:={}
theorem OI:CkB "laid_out" "laid_out" (top 26) BT.g9:={}
theorem OJ:CkB "of_two" "of_two" (top 27) BT.jX:={}
theorem OL:CkB "worth_of" "worth_of" (top 28) BT.eX:={}
theorem OM:CkB "reckoned" "reckoned" (top 29) BT.iw:={}
theorem ON:CkB "cell_by" "cell_by" (top 30) BT.i7:={}
theorem OO:CkB "is_over" "is_over" (top 31) BT.gU:={}
theorem OP:CkB "place_behind" "place_behind" (top 32) BT.fu:={}
theorem OQ:CkB "with_worth" "with_worth" (top 33) BT.gc:={}
theorem OR:CkB "with_name" "with_name" (top 34) BT.gC:={}
theorem OS:CkB "with_thing" "with_thing" (top 35) BT.fj:={}
theorem OT:CkB "brought" "brought" (top 36) BT.gW:={}
theorem OU:CkB "stepped" "stepped" (top 37) BT.i8:={}
theorem OV:CkB "states" "states" (top 38) BT.iR:={}
theorem OW:CkB "_law_cell" "_law_cell" (top 46) BT.gr:={}
theorem OX:CkB "_law_drawn" "_law_drawn" (top 47) BT.gD:={}
theorem OY:CkB "_law_sum" "_law_sum" (top 48) BT.fD:={}
theorem OZ:CkB "_law_row" "_law_row" (top 49) BT.i9:={}
theorem O0:CkB "_law_program" "_law_program" (top 50) BT.eY:={}
theorem O1:CkB "_law_asked" "_law_asked" (top 51) BT.gE:={}
theorem O2:CkB "_law_thing" "_law_thing" (top 52) BT.fT:={}
theorem O3:CkB "_law_of" "_law_of" (top 53) BT.jZ:={}
theorem O4:CkB "_law_tree" "_law_tree" (top 54) BT.iH:={}
theorem O5:CkB "_law_all" "_law_all" (top 55) BT.jh:={}
theorem O6:CkB "_law_goes_on" "_law_goes_on" (top 56) BT.fX:={}
theorem O7:CkB "law" "law" (top 57) BT.iS:={}
theorem ID:CkB "__init__" "Tape.__init__" (eB 41 0) BT.gF:={}
theorem IE:CkB "at" "Tape.at" (eB 41 1) BT.ja:={}
theorem IF:CkB "end" "Tape.end" (eB 41 2) BT.iE:={}
theorem EI:CkB "behind" "Tape.behind" (eB 41 10) BT.fR:={}
theorem EJ:CkB "is_last" "Tape.is_last" (eB 41 11) BT.eS:={}
theorem EK:CkB "keep" "Tape.keep" (eB 41 12) BT.fS:={}
theorem EL:CkB "reach" "Tape.reach" (eB 41 13) BT.gf:={}
theorem EM:CkB "has" "Tape.has" (eB 41 14) BT.iF:={}
theorem EN:CkB "check" "Tape.check" (eB 41 15) BT.gh:={}
theorem IG:CkB "__init__" "Branch.__init__" (eB 43 0) BT.fU:={}
theorem II:CkB "__init__" "Tree.__init__" (eB 44 0) BT.gG:={}
theorem IJ:CkB "part" "Tree.part" (eB 44 1) BT.gH:={}
theorem IK:CkB "at" "Tree.at" (eB 44 2) BT.jd:={}
theorem IL:CkB "end" "Tree.end" (eB 44 3) BT.iG:={}
theorem IM:CkB "parent" "Tree.parent" (eB 44 4) BT.fV:={}
theorem IP:CkB "path" "Tree.path" (eB 44 5) BT.gI:={}
theorem IQ:CkB "children" "Tree.children" (eB 44 6) BT.f7:={}
theorem EO:CkB "check_run" "Tree.check_run" (eB 44 10) BT.eV:={}
theorem ER:CkB "first" "Tree.first" (eB 44 11) BT.fk:={}
theorem ES:CkB "holder" "Tree.holder" (eB 44 12) BT.fW:={}
noncomputable def tab:List (BT.FK×BT.Fn):=[(.f "is_whole",BT.iC),(.f "is_name",BT.gT),(.f "is_cell",BT.jc),(.f "inner_sums",BT.fh),(.f "begun",BT.kX),(.f "check_thing",BT.eZ),(.f "worth_in",BT.ig),(.f "laid_out",BT.g9),(.f "of_two",BT.jX),(.f "worth_of",BT.eX),(.f "reckoned",BT.iw),(.f "cell_by",BT.i7),(.f "is_over",BT.gU),(.f "place_behind",BT.fu),(.f "with_worth",BT.gc),(.f "with_name",BT.gC),(.f "with_thing",BT.fj),(.f "brought",BT.gW),(.f "stepped",BT.i8),(.f "states",BT.iR),(.f "_law_cell",BT.gr),(.f "_law_drawn",BT.gD),(.f "_law_sum",BT.fD),(.f "_law_row",BT.i9),(.f "_law_program",BT.eY),(.f "_law_asked",BT.gE),(.f "_law_thing",BT.fT),(.f "_law_of",BT.jZ),(.f "_law_tree",BT.iH),(.f "_law_all",BT.jh),(.f "_law_goes_on",BT.fX),(.f "law",BT.iS),(.m "Tape" "__init__",BT.gF),(.m "Branch" "at",BT.ja),(.m "Branch" "end",BT.iE),(.m "Branch" "behind",BT.fR),(.m "Branch" "is_last",BT.eS),(.m "Branch" "keep",BT.fS),(.m "Branch" "reach",BT.gf),(.m "Branch" "has",BT.iF),(.m "Branch" "check",BT.gh),(.m "Branch" "__init__",BT.fU),(.m "Tree" "__init__",BT.gG),(.m "Tree" "part",BT.gH),(.m "Tree" "at",BT.jd),(.m "Tree" "end",BT.iG),(.m "Tree" "parent",BT.fV),(.m "Tree" "path",BT.gI),(.m "Tree" "children",BT.f7),(.m "Tree" "check_run",BT.eV),(.m "Tree" "first",BT.fk),(.m "Tree" "holder",BT.fW)]
noncomputable def glo:List (aB×BT.W):=[("CELL_COUNT",.p (.int 4)),("WORTH_COUNT",.p (.int 10007)),("ROW",.p (.int 0)),("NAMES",.p (.int 1)),("CELLS",.p (.int 2)),("CALLS",.p (.int 3)),("ASKED",.p (.int 4)),("SAID",.p (.int 5)),("MOST_CALLS",.p (.int 6)),("MOST_MARKS",.p (.int 8)),("LETTERS",.p (.tup ((["a","b","c","d","e","f"]:List aB).map BT.D.str))),("INNER_COUNTS",.k (.t (([("num",0),("name",0),("cell",1),("add",2),("sub",2),("mul",2),("less",2)]:List (aB×Int)).map λq=>(q.1,BT.D.int q.2))))]
noncomputable abbrev T:BT.FK->Option BT.Fn:=look tab
noncomputable abbrev G:aB->Option BT.W:=look glo
theorem prg:BT.Prg T G:=⟨rfl,rfl,rfl,rfl,rfl,rfl,rfl,rfl,rfl,rfl,rfl,rfl,rfl,rfl,rfl,rfl,rfl,rfl,rfl,rfl,rfl,rfl,rfl,rfl,rfl,rfl⟩
theorem tpp:BT.TpP "Branch" T G:=⟨prg,rfl,rfl,rfl,rfl,rfl,rfl,rfl,rfl,rfl⟩
theorem trp:BT.TrP T G:=⟨tpp,⟨rfl⟩,rfl,rfl,rfl,rfl,rfl,rfl,rfl,rfl,rfl,⟨rfl,rfl⟩,⟨rfl⟩⟩
theorem lws:BT.uY T:=⟨⟨⟨rfl,rfl,rfl,rfl,rfl⟩,rfl,rfl,rfl⟩,rfl,rfl,rfl,rfl,rfl,⟨rfl,rfl,rfl⟩⟩
theorem run (ns:List Int) (h:ns.length<=1000):∃ h',BT.runN T G 40 "law" [.p (.lst (BT.cX ns))] []=aa (.p (.bl ah),h'):=BT.yt trp lws ns h 25
theorem L3 (w:QA) (K:PP) (hq:∀ q∈qys,fy K q=fz w q):IC K tl:=by
 refine ⟨λz hz=>?_,λp hp=>?_⟩
 ·simp only[BT.g8,Vf,Ti,or_false] at hz;rcases hz with rfl|rfl|rfl|rfl|rfl|rfl|rfl|rfl|rfl|rfl|rfl|rfl|rfl|rfl|rfl
  exact .inr (dZ (w:=w) (hn hq 65 rfl));exact .inr (dZ (w:=w) (hn hq 66 rfl));exact .inr (dZ (w:=w) (hn hq 67 rfl));exact .inr (dZ (w:=w) (hn hq 68 rfl));exact .inr (dZ (w:=w) (hn hq 69 rfl));exact .inr (dZ (w:=w) (hn hq 70 rfl));exact .inr (dZ (w:=w) (hn hq 71 rfl));exact .inr (dZ (w:=w) (hn hq 72 rfl));exact .inr (dZ (w:=w) (hn hq 73 rfl));exact .inr (dZ (w:=w) (hn hq 74 rfl));exact .inr (dZ (w:=w) (hn hq 75 rfl));exact .inr (dZ (w:=w) (hn hq 76 rfl));exact .inr (dZ (w:=w) (hn hq 77 rfl));exact .inr (dZ (w:=w) (hn hq 78 rfl));exact .inr (dZ (w:=w) (hn hq 79 rfl))
 simp[tl] at hp
theorem txt (P:Qg) (w:QA) (mg:aB->Option aC) (K:PP) (h:ay) (X:K.In h) (Gh:h.Ns Qh mg) (hq:∀ q∈qys,fy K q=fz w q):Txt P w K mg T G:=by have tbf:=L3 w K hq;have all:∀ p∈tab,tV K mg p:=c6 (dd0 X Gh (hn hq 0 rfl) OA) <| c6 (dd0 X Gh (hn hq 1 rfl) OB) <| c6 (dd0 X Gh (hn hq 2 rfl) OD) <| c6 (dd0 X Gh (hn hq 3 rfl) OE) <| c6 (dd0 X Gh (hn hq 4 rfl) OF) <| c6 (dd0 X Gh (hn hq 5 rfl) OG) <| c6 (dd0 X Gh (hn hq 6 rfl) OH) <| c6 (dd0 X Gh (hn hq 7 rfl) OI) <| c6 (dd0 X Gh (hn hq 8 rfl) OJ) <| c6 (dd0 X Gh (hn hq 9 rfl) OL) <| c6 (dd0 X Gh (hn hq 10 rfl) OM) <| c6 (dd0 X Gh (hn hq 11 rfl) ON) <| c6 (dd0 X Gh (hn hq 12 rfl) OO) <| c6 (dd0 X Gh (hn hq 13 rfl) OP) <| c6 (dd0 X Gh (hn hq 14 rfl) OQ) <| c6 (dd0 X Gh (hn hq 15 rfl) OR) <| c6 (dd0 X Gh (hn hq 16 rfl) OS) <| c6 (dd0 X Gh (hn hq 17 rfl) OT) <| c6 (dd0 X Gh (hn hq 18 rfl) OU) <| c6 (dd0 X Gh (hn hq 19 rfl) OV) <| c6 (dd0 X Gh (hn hq 20 rfl) OW) <| c6 (dd0 X Gh (hn hq 21 rfl) OX) <| c6 (dd0 X Gh (hn hq 22 rfl) OY) <| c6 (dd0 X Gh (hn hq 23 rfl) OZ) <| c6 (dd0 X Gh (hn hq 24 rfl) O0) <| c6 (dd0 X Gh (hn hq 25 rfl) O1) <| c6 (dd0 X Gh (hn hq 26 rfl) O2) <| c6 (dd0 X Gh (hn hq 27 rfl) O3) <| c6 (dd0 X Gh (hn hq 28 rfl) O4) <| c6 (dd0 X Gh (hn hq 29 rfl) O5) <| c6 (dd0 X Gh (hn hq 30 rfl) O6) <| c6 (dd0 X Gh (hn hq 31 rfl) O7) <| c6 (dm0 X Gh (hn hq 80 rfl) (hn hq 81 rfl) (hn hq 86 rfl) ID) <| c6 (dm0 X Gh (hn hq 82 rfl) (hn hq 83 rfl) (hn hq 87 rfl) IE) <| c6 (dm0 X Gh (hn hq 82 rfl) (hn hq 83 rfl) (hn hq 88 rfl) IF) <| c6 (dm0 X Gh (hn hq 82 rfl) (hn hq 83 rfl) (hn hq 89 rfl) EI) <| c6 (dm0 X Gh (hn hq 82 rfl) (hn hq 83 rfl) (hn hq 90 rfl) EJ) <| c6 (dm0 X Gh (hn hq 82 rfl) (hn hq 83 rfl) (hn hq 91 rfl) EK) <| c6 (dm0 X Gh (hn hq 82 rfl) (hn hq 83 rfl) (hn hq 92 rfl) EL) <| c6 (dm0 X Gh (hn hq 82 rfl) (hn hq 83 rfl) (hn hq 93 rfl) EM) <| c6 (dm0 X Gh (hn hq 82 rfl) (hn hq 83 rfl) (hn hq 94 rfl) EN) <| c6 (dm0 X Gh (hn hq 82 rfl) (hn hq 83 rfl) (hn hq 95 rfl) IG) <| c6 (dm0 X Gh (hn hq 84 rfl) (hn hq 85 rfl) (hn hq 96 rfl) II) <| c6 (dm0 X Gh (hn hq 84 rfl) (hn hq 85 rfl) (hn hq 97 rfl) IJ) <| c6 (dm0 X Gh (hn hq 84 rfl) (hn hq 85 rfl) (hn hq 98 rfl) IK) <| c6 (dm0 X Gh (hn hq 84 rfl) (hn hq 85 rfl) (hn hq 99 rfl) IL) <| c6 (dm0 X Gh (hn hq 84 rfl) (hn hq 85 rfl) (hn hq 100 rfl) IM) <| c6 (dm0 X Gh (hn hq 84 rfl) (hn hq 85 rfl) (hn hq 101 rfl) IP) <| c6 (dm0 X Gh (hn hq 84 rfl) (hn hq 85 rfl) (hn hq 102 rfl) IQ) <| c6 (dm0 X Gh (hn hq 84 rfl) (hn hq 85 rfl) (hn hq 103 rfl) EO) <| c6 (dm0 X Gh (hn hq 84 rfl) (hn hq 85 rfl) (hn hq 104 rfl) ER) <| c6 (dm0 X Gh (hn hq 84 rfl) (hn hq 85 rfl) (hn hq 105 rfl) ES) <| BY;refine ⟨λx fn e=>?_,λc m fn e=>?_,λL fn e=>?_,λx z e=>?_,?_⟩;exact jN (Q:=λk fn=>∀ x,k=.f x->Def K mg x fn) (l:=tab) (λp hp=>(all p hp).1) e x rfl;exact jN (Q:=λk fn=>∀ c m,k=.m c m->AN K mg c m fn) (l:=tab) (λp hp=>(all p hp).2.1) e c m rfl;exact jN (Q:=λk fn=>∀ L,k=.l L->False) (l:=tab) (λp hp=>(all p hp).2.2) e L rfl;exact jN (Q:=λx z=>u0 P w K mg x z) (l:=glo) (c6 (fq X Gh (hn hq 32 rfl)) <| c6 (fq X Gh (hn hq 33 rfl)) <| c6 (fq X Gh (hn hq 34 rfl)) <| c6 (fq X Gh (hn hq 35 rfl)) <| c6 (fq X Gh (hn hq 36 rfl)) <| c6 (fq X Gh (hn hq 37 rfl)) <| c6 (fq X Gh (hn hq 38 rfl)) <| c6 (fq X Gh (hn hq 39 rfl)) <| c6 (fq X Gh (hn hq 40 rfl)) <| c6 (fq X Gh (hn hq 41 rfl)) <| c6 (BV X Gh (hn hq 42 rfl) (by decide) (by decide +kernel)) <| c6 (BW X Gh (hn hq 43 rfl) (by decide) (by decide +kernel)) <| BY) e;exact c6 (none_of X Gh (hn hq 44 rfl)) <| c6 (none_of X Gh (hn hq 45 rfl)) <| c6 (none_of X Gh (hn hq 46 rfl)) <| c6 (none_of X Gh (hn hq 47 rfl)) <| c6 (none_of X Gh (hn hq 48 rfl)) <| c6 (none_of X Gh (hn hq 49 rfl)) <| c6 (none_of X Gh (hn hq 50 rfl)) <| c6 (none_of X Gh (hn hq 51 rfl)) <| c6 (none_of X Gh (hn hq 52 rfl)) <| c6 (none_of X Gh (hn hq 53 rfl)) <| c6 (none_of X Gh (hn hq 54 rfl)) <| c6 (none_of X Gh (hn hq 55 rfl)) <| c6 (none_of X Gh (hn hq 56 rfl)) <| c6 (none_of X Gh (hn hq 57 rfl)) <| c6 (none_of X Gh (hn hq 58 rfl)) <| c6 (none_of X Gh (hn hq 59 rfl)) <| c6 (none_of X Gh (hn hq 60 rfl)) <| c6 (none_of X Gh (hn hq 61 rfl)) <| c6 (none_of X Gh (hn hq 62 rfl)) <| c6 (none_of X Gh (hn hq 63 rfl)) <| c6 (none_of X Gh (hn hq 64 rfl)) <| BY
noncomputable abbrev lw:DefRec:=⟨"law",fK (top 57),dR (top 57),dh (top 57),MW (top 57)⟩
theorem df:PySem.W.defOf qg "law"=aa (lw,[]):=by kernel_rfl
theorem th:pg.theDef "law"=aa (lw.params,lw.body,lw.scope):=by kernel_rfl
theorem walk:PySem.W.WalkO qg loo (PySem.W.XL qg []) (sees adr qys tas).says PySem.Challenge.rw_backtape_k61_whole_parting.row.toRowW lw [] (λf vs=>V4 f vs) :=
 BZ (l:=PySem.Challenge.rw_backtape_k61_whole_parting) (n:=63) (k:=40) (x:="_law_script") (d:=lw) (T:=T) (G:=G) (ts:=tas) (fn:=BT.iS) rfl (by decide) rfl ⟨rfl,by decide,by decide⟩ rfl rfl (tl:=tl) rfl (by decide +kernel) L3 txt λns hl=>run ns (by lia)
end BL
open PySem PySem.W PyProof.Rows
set_option maxRecDepth 100000 in
set_option maxHeartbeats 0 in
theorem PySem.Challenge.cw_backtape_k61_whole_parting_holds : PySem.Challenge.rw_backtape_k61_whole_parting.Holds := by
 w_on;refine PySem.W.holds_law (by decide +kernel) λsaid=>?_
 refine PySem.W.holds_open (q:=BL.qg) (loose:=BL.loo) (XP:=XL BL.qg []) (YP:=(BG.sees BL.adr BL.qys BL.tas).says) (d:=BL.lw) (kwd:=[]) BL.left (BG.sees BL.adr BL.qys BL.tas).of (BG.sees BL.adr BL.qys BL.tas).keeps (λs e=>xl_of s (Bool.and_eq_true_iff.mp e).1) XL.keeps BL.df BL.th (by kernel_rfl) (λs e=>recFacts_of (Bool.and_eq_true_iff.mp e).2) rfl (by first|assumption|decide +kernel) (by decide +kernel) ⟨rfl,rfl,rfl,rfl,rfl,by decide +kernel⟩ ?hw BL.walk
 (case hw=>w_witness2)
#print axioms PySem.Challenge.cw_backtape_k61_whole_parting_holds
end
end

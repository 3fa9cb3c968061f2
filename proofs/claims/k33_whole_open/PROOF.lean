import PyProof.Rows.All
import Wide.All
import OpenK.AllK
import Wide.FinOn
import PyProof.EqAt
import PyProof.EqKinds
import PyProof.TupleCall
import Open.Tree
import Wide.Once
import KE.KLam
import KE.KNestM
import KE.KIsAll
import OpenK.KMore
import KE.KSortTup
import PyProof.Rows.SetFrom
import PyProof.IsiH_list
import PyProof.Rows.Exc
import KE.KDictOf
import PySem.Syntax
import PySem.Builtin.Str.Common
import PyProof.SliceList
import PyProof.NeData
import PyProof.ExcAttrAll.ValueError
import PyProof.ZipIter
import KE.KRevIter
import KE.KItemsList
import KE.KDictSum
import PyProof.DictWalks
import PyProof.ListRange
import PyProof.EnumFor
import PyProof.EnumMake
import PyProof.EnumStmt
import PyProof.CompFree
import PyProof.PlainList
import Lean
import PySem.Challenge.RW_backtape_k33_whole_open
set_option autoImplicit true
set_option Elab.async false
set_option linter.all false
set_option maxRecDepth 100000
set_option maxHeartbeats 8000000
set_option genSizeOf false
set_option compiler.extract_closed false
set_option bootstrap.genMatcherCode false
noncomputable section
open Option renaming some->UA,none->UB
open Bool renaming true->UC,false->UD
open PySem.W renaming Frag->NV,findIn->OB,nsIn->OI,tabIn->OS,emptyDict->O1,keepIn->O3,fnOf->Pf,kitOne->Pi,instObj->Po,mg_of->Pr,hasDictIn->PJ,tabObj->PY,kia_one->P5,callWith_K->P6,methodCall_KW->Qi,plainGet->Qo,envX->QF,codeHdIn->QS,kla_obj->QZ,lookIn->Q8,codeIn->Q9,plainGet_of->Rh,callWith_K0->Ri,mroIn->Rm,plainOver->RE,methodObj->RG,isFn->RM,takerIn->R8,makesIn->Sa,byRow2->Sn,absHeap->SA,SharedT->SC,recOk->SD,cellsFrom_some->SO,xlAt->SZ,codeHd_of_K->Tu,specialIn->TV,wideGood->T7,ksm_same->T8,handedIn->T9,clsGoodW->Ua,openSeen->Up,takesIn->Uv
open PySem.Heap renaming get?_push_of_some->NW,lt_size->N6,get?_push_size->N8,get?_update_other->Qk,size_push->Qp,SameBut->Qt,get?_update_self->Rf
open PySem renaming Expr->NX,wpAny_bind->NZ,Value->N1,Shared->N4,Addr->Of,mainGlobals->Og,Program->Ot,model->Ow,starEach->OA,Scope->OD,sliceBounds->OF,compareOp->OQ,World->OR,Stmt->OV,wpAny_truthy_bool->O7,binaryOp->Pa,mem_of_lookup->Pc,wpAny_Call_Name_kw->Pp,wpAny_newObj_type->Px,sysModules->Py,wpAny_holding->PB,Around->PK,builtinsNs->PL,backTo->PU,wpAny_passesOwn->PZ,call_meets->P1,NameKind->Qd,FuncData->Qh,wpAny_loadPart'->Qn,keywordEach->Qz,wpAny_typeOf->QB,builtinLookup_eq_fast->QC,swapsWith->QL,rawInt->QM,codeAmong->QN,bootBuiltins->QX,DictEntry->Q7,attributeBase->Rg,wpAny_execs_nil->Rx,typeLookup_type->Ry,letOwnedTupleGo->Rz,importedModules->RB,wpAny_load->RI,sliceRange->RJ,backToKw->RK,assignEach->RL,Operator->RN,wpAny_pyIter_revIter->RO,Builtin->Se,getMethod->Sj,behindInMarks->Sk,Arguments->Su,typeLookup->Sx,spliced->Sy,getItem->Sz,Stmt->SB,Keyword->SL,IsPart->SV,wpAny_isInstance->SW,wpAny_call_entry->SX,noFill_tuple_add->SY,bindArgs->S9,stored->Ti,sizeLine_eq->Tj,assign->To,Within->Tt,wpAny_binaryOp_repeat_ref->TQ,evalArgs_none->TR,bltViewBooted->TU,wpAny_getItem_list_slice->TZ,wpAny_call->T5,Result->T6,wpAny_standAt->Ui,wpAny_callSpecial?_slot->Uj,wpAny_Call_method0_late->Uk,seq_tuple_add->Uo,evalPart_none->Uq,compEnvC->Ur,callerA->Us,call->Uu
open Bool renaming and_eq_true->NY,false_ne_true->PF,or_eq_true->PP,not_eq_true'->Qm,or_false->Tf
open List renaming size_toArray->N2,getElem?_append_left->N5,getElem?_eq_getElem->N7,mem_of_getElem?->N9,mem_cons_of_mem->Oa,getElem?_eq_none->Od,mem_cons_self->Oe,length_map->Oh,map_cons->Oi,length_append->Oj,getElem?_append_right->Ol,replicate->Oo,length_cons->Oq,getElem?_map->Ox,mem_append_right->Oz,filterMap_cons->OE,getElem?_set_ne->OH,append_nil->OM,range->OP,getElem?_of_mem->OT,map_map->OW,length_singleton->OX,append_assoc->OY,lookup_cons->OZ,getElem?_set_self->O2,length_nil->O6,all_eq_true->O8,length_dropLast->O9,replicate_succ->Pd,map_congr_left->Pe,not_mem_nil->Pj,singleton_append->Pn,mem_append_left->Pq,find?_cons->PM,mem_cons->PV,flatten_cons->PX,getLast?_eq_getElem?->P0,lookup->P4,map_nil->P8,getElem?_take_of_lt->P9,nil_append->Qe,map_append->Qf,getElem?_replicate->Qg,getElem?_dropLast->Qj,set_append_right->Qq,length_replicate->Qs,any_cons->QA,length->QG,getD_eq_getElem?_getD->QI,reverse_cons->QT,head_eq_of_cons_eq->QY,reverse_singleton->Q3,range_succ_eq_map->Q4,find?_cons_of_neg->Q5,of_mem_zip->Rc,filterMap_eq_map->Re,drop_zero->Ro,getElem?_range->Rq,length_take->Sg,getElem_mem->Sh,eq_nil_of_length_eq_zero->Si,foldl_cons->Sv,nodup_nil->SQ,getElem?_eq_none_iff->SR,drop_eq_getElem_cons->SS,foldl->S6,sum_cons->Td,all_cons->Te,set_set->TL,getElem?_reverse->TM,reverse_append->Uc,range'->Ud,mem_map_of_mem->Ue,length_reverse->Ug,drop_succ_cons->Uh,zip_cons_cons->Uy
open Nat renaming le_refl->N3,ne_of_lt->On,lt_or_ge->Os,lt_of_lt_of_le->Ou,lt_irrefl->OJ,le_trans->OO,le_of_lt->O0,zero_le->O5,lt_succ_self->Pk,ne_of_gt->PR,le_succ->P7,mul_comm->Qc,lt_trans->Qu,lt_trichotomy->QV,div_add_mod->Rk,div_le_div_right->Rn,mul_div_cancel->RT,lt_of_le_of_lt->RU,lt_succ_of_lt->Sb,not_lt_zero->SI,mod_lt->Tc,zero_add->TX
open Option.some renaming inj->Ob,injEq->QE
open PySem.Str renaming ofString->Om,ofString_eq_toList->TJ
open PyProof.Rows renaming callWith_type1->OG,slot_tuple_getitem->Ph,callWith_builtin1->Rj,plainGoodE->RX,plainGoodD->RY,expectedOf->RZ,drecsOf->So,AllBare->SM,envOfC->Tn,IntsAre->Tv,tail_any->Ul,subscriptTail->Um
open PySem.Value renaming ref->OL,int->Q6,isStrOf->RC,none->SN,str->Tq,bool->Ut
open False renaming elim->ON
open PySem.NameKind renaming free->OU,cell->Rl
open PySem.Builtin.List renaming listTooLong->O4,listExtendWith->Pw,listLengthHint->Rv,listSameRef->RV,listItems->Sd
open Ne renaming symm->Pb
open PySem.F renaming plainAttrs_list->Pu,args_tuple_add_2->QJ,entry_tuple_add->QO,slot_tuple_add->QU,slot_dict_items->SE,plain_list_iadd->SG
open Option renaming bind_some->Pv,map_some->Q2,getD_some->Uw,getD_none->Ux
open PySem.Calls renaming spliced_cons->Pz,spliced_nil->Ql,callWith_builtin->Q0,Name_function_global->Sw
open PySem.Builtin.Slice renaming slicePlaces->PD,sliceAdjust->Qw,sliceApplied->Ru
open PySem.Builtin.Tuple renaming tupleExact->PN,tupleTooMany->Rr,tupleItemsOf->Rt
open PySem.Obj renaming mapSeq->Qa
open List.cons renaming injEq->Qv,inj->Uz
open PySem.Around renaming under_plainId->Qx,under->Tg,frames_deeper->TH
open True renaming intro->QD
open PySem.Builtin.Str renaming occurrences->QH
open PySem.Builtin.ObjectAttr renaming noSuchAttribute->QK
open ForInStep renaming yield->QW
open Array renaming length_toList->Rp,eq_empty_of_size_eq_zero->R6,toList->Tz,getElem?_toList->TF
open PySem.PassesOwn renaming never->RP
open PySem.Builtin.Dict renaming updateFrom->R0
open PySem.Heap.IsSliceOf renaming new->Sq
open Classical renaming axiomOfChoice->Ss
open Prod.mk renaming injEq->SH
open List.Pairwise renaming map->SK
open Char renaming toNat->S7
open PySem.Heap.DictOf renaming new->Tw
open PySem.Code renaming isFrame->TN
open PySem.AutoSeq1 renaming idx_int->TY
open PyProof.Rows.IntsAre renaming length->Ub
section
namespace L2
open PySem PySem.Spec PyProof.Rows
def cj (s:SB):Su:=match s with
 | .FunctionDef _ a _ _ _ _ _ _ _ _=>a| _=>{ posonlyargs:=[],args:=[],vararg:=UB,kwonlyargs:=[],kw_defaults:=[],kwarg:=UB,defaults:=[] }
def aI (s:SB):List SB:=match s with
 | .FunctionDef _ _ b _ _ _ _ _ _ _=>b| _=>[]
def ak (s:SB):OD:=match s with
 | .FunctionDef _ _ _ _ _ _ sc _ _ _=>sc| _=>{ kind:=.function,names:=[],isGenerator:=UD,isCoroutine:=UD }
end L2
end
section
namespace BR
open PySem PySem.W PyProof.Rows
noncomputable def oQ:List Obj->BT->Nat->Option (BT×Nat)
 | [],T,n=>UA (T,n)
 | o::r,T,n=>match ((T.ins n o).get n).isSome with
  | true=>oQ r (T.ins n o) (n+1)| false=>UB
theorem mF (life:Life):∀ {l:List Obj}{T T':BT}{n n':Nat},oQ l T n=UA (T',n')->(SA T' n' life).objs.toList=(SA T n life).objs.toList++l
 | [],T,T',n,n',h=>by cases h;simp
 | o::r,T,T',n,n',h=>by
  unfold oQ at h;cases g:((T.ins n o).get n).isSome with
  | false=>rw[g] at h;cases h
  | true =>
   rw[g] at h;rw[mF life h,absHeap_ins g];show ((SA T n life).objs.push o).toList++r=_;simp
noncomputable def toT (s:N4):Option SC:=match oQ s.heap.objs.toList .nil 0 with
 | some (T,n)=>UA ⟨T,n,s.heap.life,s.gens,s.drawn,s.toks,s.os⟩| none=>UB
theorem Ao (h:toT s=UA t):t.abs=s:=by
 unfold toT at h;cases e:oQ s.heap.objs.toList .nil 0 with
 | none=>rw[e] at h;cases h
 | some r =>
  obtain ⟨T,n⟩:=r;rw[e] at h;cases h;have:=mF s.heap.life e;obtain ⟨⟨objs,life⟩,g,d,k,o⟩:=s;show Shared.mk (SA T n life) g d k o=Shared.mk ⟨objs,life⟩ g d k o;have e2:(SA T n life).objs.toList=objs.toList:=by rw[this];simp[SA,BT.list]
  have e3:(SA T n life).objs=objs:=Array.toList_inj.mp e2;have e4:SA T n life=⟨objs,life⟩:=by show Heap.mk _ _=Heap.mk _ _;exact congrArg (Heap.mk · life) e3
  rw[e4]
noncomputable def j8 (tb:String->Option Se) (p:Ot) (w:OR) (n₀:Nat) (ann:Option N1):Nat->SC->Thread->Option SC
 | 0,_,_=>UB
 | n+1,s,t=>match through t with
  | true=>UA s
  | false=>match stepOk n₀ ann t with
   | false=>UB
   | true=>match stepT (denote tb) p w s t with
    | some (s',t')=>j8 tb p w n₀ ann n s' t'| none=>UB
section
variable {tb:String->Option Se}{p:Ot}{w:OR}{n₀:Nat}{ann:Option N1}
theorem mG:∀ {n:Nat}{s s':SC}{t:Thread},j8 tb p w n₀ ann n s t=UA s'->topRun tb p w n₀ ann n s.abs t=UA s'.abs
 | 0,_,_,_,h=>by cases h
 | n+1,s,s',t,h=>by
  unfold j8 at h;unfold topRun;cases he:through t with
  | true=>rw[he] at h;cases h;rfl
  | false =>
   rw[he] at h;cases hk:stepOk n₀ ann t with
   | false=>rw[hk] at h;cases h
   | true =>
    rw[hk] at h;cases hs:stepT (denote tb) p w s t with
    | none=>rw[hs] at h;cases h| some r=>obtain ⟨s₂,t₂⟩:=r;rw[hs] at h;dsimp only;rw[stepT_spec hs];exact mG h
end
noncomputable def kC (tb:String->Option Se) (p:Ot) (w:OR) (N:Nat) (s₀:N4):Option SC :=
 match s₀.heap.isNs Og&&s₀.gens.size==0 with
 | true=>(toT s₀).bind λt₀=>(j8 tb p w s₀.heap.objs.size (s₀.heap.nsMap Og "__annotations__") N t₀ (topStub p)).bind λt₁ =>
  match staticsOk (RB p.main.body) s₀.heap t₁.abs.heap&&namesBound p t₁.abs.heap&&gensDone t₁.abs&&laidKept s₀.heap t₁.abs.heap with
   | true=>UA t₁| false=>UB
 | false=>UB
theorem qJ (h:kC tb p w N s₀=UA t):topFrom tb p w N s₀=UA t.abs:=by
 unfold kC at h;unfold topFrom;cases e:(s₀.heap.isNs Og&&s₀.gens.size==0) with
 | false=>rw[e] at h;cases h
 | true =>
  rw[e] at h;obtain ⟨t₀,h0,h⟩:=Option.bind_eq_some_iff.mp h;obtain ⟨t₁,h1,h⟩:=Option.bind_eq_some_iff.mp h;have h2:=mG h1;rw[Ao h0] at h2;dsimp only;rw[h2];show (match _ with|true=>UA t₁.abs|false=>UB)=_;cases e2:(staticsOk (RB p.main.body) s₀.heap t₁.abs.heap&&namesBound p t₁.abs.heap&&gensDone t₁.abs&&laidKept s₀.heap t₁.abs.heap) with
  | false=>rw[e2] at h;cases h| true=>rw[e2] at h;cases h;rfl
noncomputable def gH (tb:String->Option Se) (p:Ot) (w:OR) (N:Nat):Option SC:=(fencedOpening tb p w N).bind (kC tb p w N)
theorem Aq {tb:String->Option Se}{p:Ot}{w:OR}{N:Nat}{α:Type}{f:N4->α}{x:α} (h:(gH tb p w N).map (λt=>f t.abs)=UA x):(openEnds tb p w N).map f=UA x:=by obtain ⟨t,ht,e⟩:=Option.map_eq_some_iff.mp h;obtain ⟨s₀,h0,h1⟩:=Option.bind_eq_some_iff.mp ht;unfold openEnds;rw[h0];show (topFrom tb p w N s₀).map f=UA x;rw[qJ h1];exact congrArg UA e
theorem wu {α β γ δ:Type}{o:Option α}{f:α->β×γ}{g:α->δ}{x:β}{y:γ}{z:δ} (h1:o.map (λt=>(f t).1)=UA x) (h2:o.map (λt=>(f t).2)=UA y) (h3:o.map g=UA z):o.map (λt=>(f t,g t))=UA ((x,y),z):=by
 cases o with
 | none=>cases h2
 | some t =>
  have e1:(f t).1=x:=Ob h1;have e2:(f t).2=y:=Ob h2;have e3:g t=z:=Ob h3;show UA (f t,g t)=_;rw[← e1,← e2,← e3]
theorem good (q:Ot) (loose:List Str):openGood q loose=(RZ q,TU,UC,UC,PySem.pinGoodD (So q),RX q (PySem.W.looseW q loose),RY q loose,T7 q,Ua q loose):=rfl
def LA (tb:String->Option Se) (p q:Ot) (loose mods:List Str) (Xt:N4->Bool) (g0:Bool) (N:Nat) (w:OR):Prop :=
 (gH tb p w N).map (λt=>(Up q loose mods Xt g0 t.abs).1)=UA (RZ q)
def LB (tb:String->Option Se) (p q:Ot) (loose mods:List Str) (Xt:N4->Bool) (g0:Bool) (N:Nat) (w:OR):Prop :=
 (gH tb p w N).map (λt=>(Up q loose mods Xt g0 t.abs).2)=UA (TU,UC,UC,PySem.pinGoodD (So q),RX q (PySem.W.looseW q loose),RY q loose,T7 q,Ua q loose)
def LO (tb:String->Option Se) (p:Ot) (N:Nat) {α:Type} (Yf:N4->α) (Ya:OR->α) (w:OR):Prop:=(gH tb p w N).map (λt=>Yf t.abs)=UA (Ya w)
theorem Ar {tb:String->Option Se}{p q:Ot}{loose mods:List Str}{Xt:N4->Bool}{g0:Bool}{N:Nat}{α:Type}{Yf:N4->α}{Ya:OR->α}{w:OR} (h1:LA tb p q loose mods Xt g0 N w) (h2:LB tb p q loose mods Xt g0 N w) (h3:LO tb p N Yf Ya w) :
 (openEnds tb p w N).map (λs=>(Up q loose mods Xt g0 s,Yf s))=UA (openGood q loose,Ya w):=by
 rw[good];have h:=wu (f:=λt:SC=>Up q loose mods Xt g0 t.abs) (g:=λt:SC=>Yf t.abs) h1 h2 h3;exact Aq (f:=λs=>(Up q loose mods Xt g0 s,Yf s)) h
end BR
end
section
namespace BG
open PySem PySem.Spec PySem.Calls PyProof.Rows L2
structure FS where
 name:Str
 qual:Str
 params:Su
 body:FuncBody
 scope:OD
 globals:Of
 closure:List (Str×Of)
 defaults:N1
 builtins:Of
 code:Bool
noncomputable def As (K:NV) (f:Of):Option FS:=match K.lookup f with
 | some ⟨_,_,.func fd,_⟩=>UA ⟨fd.name,fd.qualname,fd.params,fd.body,fd.scope,fd.globals,fd.closure,fd.defaults,fd.builtins,Q9 K fd.code fd.qualname⟩| _=>UB
noncomputable def sj (x qual:Str) (st:SB):FS:=⟨x,qual,cj st,.stmts (aI st),ak st,Og,[],.none,PL,UC⟩
noncomputable def strOf:N1->Option Str
 | .str x _=>UA x| _=>UB
noncomputable def intOf:N1->Option Int
 | .int i _=>UA i| _=>UB
noncomputable def refOf:Option (Option N1)->Option Of
 | some (UA (.ref a))=>UA a| _=>UB
inductive Qy where
 | fn (x:Str) (f:Of) (st:SB)|int (x:Str) (n:Int)|tup (x:Str) (f:Of) (xs:List Str)|dct (x:Str) (f:Of) (kvs:List (Str×Int))|no (x:Str)|cls (c:Str) (C:Of)|me (C:Of) (m x qual:Str) (f:Of) (st:SB)|mk (C:Of)
 | tab (x:Str) (c P:Of)|bm (b:Of)|fv (x:Str) (f:Of)|exc (D:Of) (xs:List (Str×Of))
inductive Ov where
 | fn (a:Option Of) (o:Option FS)|int (n:Option Int)|seq (a:Option Of) (c:Option (N1×Option Of×Nat)) (xs:Option (List (Option Str)))|dct (a:Option Of) (c:Option (N1×Option Of×Nat)) (xs:Option (List (Int×Option Str×Option Int)))|b (x:Bool)
noncomputable def shp (o:Obj):N1×Option Of×Nat:=(o.cls,o.dict,o.slots.size)
noncomputable def Dt (o:Obj):Option (List (Option Str)):=match o.data with
 | .seq its _=>UA (its.toList.map strOf)| _=>UB
noncomputable def Du (o:Obj):Option (List (Int×Option Str×Option Int)):=match o.data with
 | .dict es _=>UA (es.toList.map λe=>(e.hash,strOf e.key,intOf e.val))| _=>UB
noncomputable def attrs:List Str:=["program","asked","gap","most","kept","farthest","front","now","origins","branches","tape","named"]
noncomputable def Hv (K:NV) (c:Str) (C:Of):Bool:=decide (OI K Og c=UA (UA (.ref C)))&&Qo K C Str.empty&&PJ K C&&RE K C&&decide (OB K (.ref C) "__setattr__"=UA (UA (.builtin "object.__setattr__"))) &&
 attrs.all λf=>decide (OB K (.ref C) f=UA UB)
noncomputable def meB (K:NV) (C:Of) (m:Str) (f:Of):Bool:=decide (OB K (.ref C) m=UA (UA (.ref f)))&&RM K (.ref f)
noncomputable def mkB (K:NV) (C:Of):Bool:=Sa K C&&O3 K (.ref C)
noncomputable def bmB (K:NV) (b:Of):Bool:=decide (OI K Og "__builtins__"=UA (UA (.ref b)))&&decide (b≠PL)&&(match K.lookup b with
 | some ⟨.type "module",UA d,.plain,_⟩=>d==PL
 | _=>UD)
noncomputable def Lb (K:NV) (C D:Of):Bool:=match K.lookup C with
 | some ⟨_,_,.cls cd,_⟩=>cd.mro.contains (.ref D)| _=>UD
noncomputable def Hw (K:NV) (c:Str) (C:Of):Bool:=decide (OI K Og c=UA (UA (.ref C)))&&PySem.W.excIn K C [.type "ValueError",.type "Exception",.type "BaseException",.type "object"] "ValueError.__new__"
noncomputable def Lc (K:NV) (D:Of) (xs:List (Str×Of)) (c:Str) (C:Of):Bool:=Hw K c C&&Lb K C D&&decide (OB K (.ref C) "__getattribute__"=UA (UA (.builtin "BaseException.__getattribute__")))&&decide (OB K (.ref C) "__getattr__"=UA UB) &&
 decide (Rm K C (.type "BaseException")=UA UC)&&PJ K C&&decide (OB K (.ref C) "__class__"=UA (UA (.builtin "object.__class__")))&&decide (TV K (.builtin "object.__class__") "__get__"=UA (UA (.builtin "getset_descriptor.__get__"))) &&
 decide (Uv K (.builtin "object.__class__")=UA UC)&&decide (Rm K C (.type "object")=UA UC)&&decide (Pi K (.ref C) (.type "ValueError")=UA UC)&&xs.all λq=>decide (Pi K (.ref C) (.ref q.2)=UA (q.1==c))
noncomputable def Ld (K:NV) (D:Of) (xs:List (Str×Of)):Bool:=Hw K "TapeError" D&&xs.all λq=>Lc K D xs q.1 q.2
noncomputable def bw (K:NV):Qy->Ov
 | .fn x f _=>.fn (refOf (OI K Og x)) (As K f)| .int x _=>.int (match OI K Og x with|some (UA v)=>intOf v|_=>UB)| .tup x f _=>.seq (refOf (OI K Og x)) ((K.lookup f).map shp) ((K.lookup f).bind Dt)| .dct x f _=>.dct (refOf (OI K Og x)) ((K.lookup f).map shp) ((K.lookup f).bind Du)| .no x=>.b (decide (OI K Og x=UA UB))| .cls c C=>.b (Hv K c C)| .me C m _ _ f _=>.fn (if meB K C m f then UA f else UB) (As K f)| .mk C=>.b (mkB K C)| .tab x c P=>.b (decide (OS K x=UA (c,P))&&QS K c P)| .bm b=>.b (bmB K b)| .fv x f=>.b (decide (OI K Og x=UA (UA (.ref f)))&&O3 K (.ref f))| .exc D xs=>.b (Ld K D xs)
noncomputable def bx (w:OR):Qy->Ov
 | .fn x f st=>.fn (UA f) (UA (sj x x st))| .int _ n=>.int (UA n)| .tup _ f xs=>.seq (UA f) (UA (.type "tuple",UB,0)) (UA (xs.map UA))| .dct _ f kvs=>.dct (UA f) (UA (.type "dict",UB,0)) (UA (kvs.map λq=>(PyData.keyHash w.params q.1,UA q.1,UA q.2)))| .no _=>.b UC| .cls _ _=>.b UC| .me _ _ x qual f st=>.fn (UA f) (UA (sj x qual st))| .mk _=>.b UC| .tab _ _ _=>.b UC| .bm _=>.b UC| .fv _ _=>.b UC| .exc _ _=>.b UC
noncomputable def KOf (as:List Of) (h:Heap):NV:=as.map λa=>(a,(h.get? a).getD default)
noncomputable def sees (as:List Of) (qs:List Qy) (ts:List Of):PySem.W.Hook where
 α:=Bool×List Ov×List (Option Obj)
 obs:=λs=>(as.all λa=>(s.heap.get? a).isSome,qs.map (bw (KOf as s.heap)),ts.map s.heap.get?)
 val:=λw=>(UC,qs.map (bx w),ts.map λ_=>UA (PY #[]))
 says:=λw h=>∃ K:NV,K.map (·.1)=as/\(∀ p∈K,h.get? p.1=UA p.2)/\(∀ q∈qs,bw K q=bx w q)/\∀ P∈ts,h.get? P=UA (PY #[])
 of:=λw s e=>by have e1:=congrArg Prod.fst e;have e2:=congrArg (λp=>p.2.1) e;have e3:=congrArg (λp=>p.2.2) e;refine ⟨KOf as s.heap,by simp[KOf,Function.comp_def],λp hp=>?_,λq hq=>List.map_inj_left.mp e2 q hq,λP hP=>List.map_inj_left.mp e3 P hP⟩;obtain ⟨a,ha,rfl⟩:=List.mem_map.mp hp;have h1:=List.all_eq_true.mp e1 a ha;obtain ⟨o,ho⟩:=Option.isSome_iff_exists.mp h1;show s.heap.get? a=UA ((s.heap.get? a).getD default);rw[ho];rfl
 keeps:=λw h h' ⟨K,m,n,k,t⟩ hk=>⟨K,m,λp hp=>hk _ _ (n p hp),k,λP hP=>hk _ _ (t P hP)⟩
end BG
end
section
namespace BL
open PySem PySem.Spec PyProof.Rows L2 BG
noncomputable abbrev pg:Ot:=PySem.Challenge.pw_backtape_k33_whole_open
noncomputable def qg:Ot:=PySem.W.view pg [0,2,3,4,6,7,8,9,10,11,12,13,15,16,17,18,19,20,21,22,23,24,25,26,27,28,29,30,31,32,33,34,35,37,38,39,40,41,42,44,45,47,48,49,50,51,52,53,54]
noncomputable abbrev loo:List Str:=["INNER_COUNTS"]
noncomputable def top (i:Nat):SB:=pg.main.body.getD i (.Pass ⟨0,0,0,0⟩)
noncomputable def Hx:SB->List SB
 | .ClassDef _ _ _ b _ _ _ _ _ _ _=>b| _=>[]
noncomputable def c9 (i j:Nat):SB:=(Hx (top i)).getD j (.Pass ⟨0,0,0,0⟩)
noncomputable def Lf:SB->Pos
 | .FunctionDef _ _ _ _ _ _ _ _ _ p=>p| _=>⟨0,0,0,0⟩
noncomputable abbrev adr:List Of:=[3,4,59,60,66,67,73,74,87,88,94,95,108,109,115,116,122,123,129,130,136,137,143,144,150,151,157,158,164,165,171,172,178,179,185,186,192,193,199,200,206,207,213,214,220,221,227,228,241,242,248,249,255,256,309,310,316,317,323,324,330,331,337,338,344,345,351,352,372,373,379,380,382,383,393,394,400,401,407,408,414,415,419,420,424,425,431,432,436,437]
noncomputable def qys:List Qy:=[.fn "is_whole" 67 (top 10),
 .fn "is_name" 74 (top 11),
 .fn "inner_sums" 88 (top 13),
 .fn "begun" 95 (top 22),
 .fn "worth_in" 109 (top 24),
 .fn "laid_out" 116 (top 25),
 .fn "of_two" 123 (top 26),
 .fn "worth_of" 130 (top 27),
 .fn "reckoned" 137 (top 28),
 .fn "cell_by" 144 (top 29),
 .fn "is_over" 151 (top 30),
 .fn "place_behind" 158 (top 31),
 .fn "with_worth" 165 (top 32),
 .fn "with_name" 172 (top 33),
 .fn "brought" 179 (top 34),
 .fn "stepped" 186 (top 35),
 .fn "open_in" 193 (top 37),
 .fn "depth" 200 (top 38),
 .fn "last_within" 207 (top 39),
 .fn "back_out" 214 (top 40),
 .fn "calls" 221 (top 41),
 .fn "open_calls" 228 (top 42),
 .fn "_law_cell" 394 (top 47),
 .fn "_law_drawn" 401 (top 48),
 .fn "_law_sum" 408 (top 49),
 .fn "_law_row" 415 (top 50),
 .fn "_law_program" 420 (top 51),
 .fn "_law_asked" 425 (top 52),
 .fn "_law_calling" 432 (top 53),
 .fn "law" 437 (top 54),
 .int "CELL_COUNT" 4,
 .int "WORTH_COUNT" 10007,
 .int "ROW" 0,
 .int "NAMES" 1,
 .int "CELLS" 2,
 .int "CALLS" 3,
 .int "ASKED" 4,
 .int "SAID" 5,
 .int "MOST_CALLS" 6,
 .int "MOST_MARKS" 8,
 .tup "LETTERS" 59 ["a","b","c","d","e","f"],
 .dct "INNER_COUNTS" 60 [("num",0),("name",0),("cell",1),("add",2),("sub",2),("mul",2),("less",2)],
 .no "len",
 .no "abs",
 .no "int",
 .no "list",
 .no "tuple",
 .no "isinstance",
 .no "str",
 .no "bool",
 .no "range",
 .no "reversed",
 .no "enumerate",
 .no "zip",
 .no "min",
 .no "max",
 .no "sorted",
 .no "sum",
 .no "all",
 .no "any",
 .no "set",
 .no "ValueError",
 .no "dict",
 .no "worths_of",
 .no "last_change",
 .no "next_change",
 .no "moments_so",
 .no "last_so",
 .no "next_so",
 .no "visits",
 .no "last_visit",
 .no "when_said",
 .no "next_within",
 .tab "last_within" 206 202,
 .no "first_other",
 .no "writer_of",
 .no "judged",
 .no "remade",
 .bm 4,
 .fv "open_in" 193,
 .cls "Tape" 383,
 .mk 383,
 .me 383 "__init__" "__init__" "Tape.__init__" 242 (c9 45 0),
 .me 383 "at" "at" "Tape.at" 249 (c9 45 1),
 .me 383 "end" "end" "Tape.end" 256 (c9 45 2),
 .me 383 "behind" "behind" "Tape.behind" 310 (c9 45 10),
 .me 383 "is_last" "is_last" "Tape.is_last" 317 (c9 45 11),
 .me 383 "keep" "keep" "Tape.keep" 324 (c9 45 12),
 .me 383 "reach" "reach" "Tape.reach" 331 (c9 45 13),
 .me 383 "has" "has" "Tape.has" 338 (c9 45 14),
 .me 383 "check" "check" "Tape.check" 345 (c9 45 15),
 .me 383 "readings" "readings" "Tape.readings" 352 (c9 45 16),
 .me 383 "last_to" "last_to" "Tape.last_to" 373 (c9 45 19),
 .me 383 "last_between" "last_between" "Tape.last_between" 380 (c9 45 20)]
noncomputable abbrev tl:List (Str×Of×Of):=[("last_within",206,202)]
noncomputable abbrev tas:List Of:=[202]
abbrev LA:OR->Prop:=BR.LA treeTable pg qg loo (RB pg.main.body) (λs=>SZ qg [] s&&SD [] s) UC 5682
theorem la0 (w:OR):LA (w.withFollow "special-get-raises" UD):=by unfold LA BR.LA;kernel_rfl
theorem la1 (w:OR):LA (w.withFollow "special-get-raises" UC):=by unfold LA BR.LA;kernel_rfl
abbrev LB:OR->Prop:=BR.LB treeTable pg qg loo (RB pg.main.body) (λs=>SZ qg [] s&&SD [] s) UC 5682
theorem lb0 (w:OR):LB (w.withFollow "special-get-raises" UD):=by unfold LB BR.LB;kernel_rfl
theorem lb1 (w:OR):LB (w.withFollow "special-get-raises" UC):=by unfold LB BR.LB;kernel_rfl
abbrev LO:OR->Prop:=BR.LO treeTable pg 5682 (sees adr qys tas).obs (sees adr qys tas).val
theorem lo0 (w:OR):LO (w.withFollow "special-get-raises" UD):=by unfold LO BR.LO;kernel_rfl
theorem lo1 (w:OR):LO (w.withFollow "special-get-raises" UC):=by unfold LO BR.LO;kernel_rfl
theorem left:PySem.W.LeftO pg qg loo (λs=>SZ qg [] s&&SD [] s) (sees adr qys tas).obs (sees adr qys tas).val 5682:=λw=>BR.Ar (Sn (P:=LA) "special-get-raises" la0 la1 w) (Sn (P:=LB) "special-get-raises" lb0 lb1 w) (Sn (P:=LO) "special-get-raises" lo0 lo1 w)
end BL
end
section
namespace L2
open PySem PySem.Spec PyProof.Rows
noncomputable abbrev Key:=Sum Int Str
noncomputable def jN:Key->N1->Bool
 | .inl k,v=>Value.isInt k v| .inr x,v=>RC x v
noncomputable def Lg (w:OR):Key->Int
 | .inl k=>hashInt k| .inr x=>hashStr w x
theorem aF:∀ {k:Key}{v:N1},jN k v=UC->(∃ i t,k=Sum.inl i/\v=Q6 i t)\/(∃ x t,k=Sum.inr x/\v=Tq x t)
 | .inl i,v,h=>by obtain ⟨t,e⟩:=Value.isInt_shape (k:=i) (v:=v) h;exact .inl ⟨i,t,rfl,e⟩
 | .inr x,v,h=>by obtain ⟨t,e⟩:=Value.isStrOf_shape (x:=x) (v:=v) h;exact .inr ⟨x,t,rfl,e⟩
theorem uC (i:Int) (t:Tok):jN (.inl i) (.int i t)=UC:=by simp[jN,Value.isInt]
theorem uD (x:Str) (t:Tok):jN (.inr x) (.str x t)=UC:=by simp[jN,RC]
theorem D8 (a b:Int):decide ((Sum.inl a:Key)=Sum.inl b)=(a==b):=by
 by_cases e:a=b
 subst e;simp
 ·have h:¬ (Sum.inl a:Key)=Sum.inl b:=λq=>e (Sum.inl.inj q);rw[decide_eq_false h];exact (beq_eq_false_iff_ne.mpr e).symm
theorem D9 (a b:Str):decide ((Sum.inr a:Key)=Sum.inr b)=decide (a=b):=by
 by_cases e:a=b
 subst e;simp
 ·have h:¬ (Sum.inr a:Key)=Sum.inr b:=λq=>e (Sum.inr.inj q);rw[decide_eq_false h,decide_eq_false e]
theorem Ea (a:Int) (b:Str):decide ((Sum.inl a:Key)=Sum.inr b)=UD:=decide_eq_false (λq=>nomatch q)
theorem Eb (a:Str) (b:Int):decide ((Sum.inr a:Key)=Sum.inl b)=UD:=decide_eq_false (λq=>nomatch q)
noncomputable def au (prog:Ot) (w:OR):PySem.KeyKind prog w Key where
 is:=jN
 hash:=Lg w
 inj:=λv a b ha hb=>by
  rcases aF ha with ⟨i,t,rfl,rfl⟩|⟨x,t,rfl,rfl⟩
  ·rcases aF hb with ⟨j,u,rfl,e⟩|⟨y,u,rfl,e⟩
   ·injection e with e1 _;rw[e1]
   exact nomatch e
  ·rcases aF hb with ⟨j,u,rfl,e⟩|⟨y,u,rfl,e⟩
   exact nomatch e
   ·injection e with e1 _;rw[e1]
 byValue:=λk v h=>by rcases aF h with ⟨i,t,rfl,rfl⟩|⟨x,t,rfl,rfl⟩<;>rfl
 pyHash:=λhv h=>by
  rcases aF hv with ⟨i,t,rfl,rfl⟩|⟨x,t,rfl,rfl⟩
  exact wpAny_pyHash_int h;exact wpAny_pyHash_str h
 eqBool:=λhu hv h=>by
  rcases aF hu with ⟨i,t,rfl,rfl⟩|⟨x,t,rfl,rfl⟩
  ·rcases aF hv with ⟨j,u,rfl,rfl⟩|⟨y,u,rfl,rfl⟩
   rw[D8] at h;exact wpAny_eqBool_int h;rw[Ea] at h;exact SeqAt.EqAt.int_str i t y u _ _ _ _ h
  ·rcases aF hv with ⟨j,u,rfl,rfl⟩|⟨y,u,rfl,rfl⟩
   rw[Eb] at h;exact SeqAt.EqAt.str_int x t j u _ _ _ _ h;rw[D9] at h;exact wpAny_eqBool_str h
 «strs»:=λk x t v h=>by
  rcases aF h with ⟨i,u,rfl,e⟩|⟨y,u,rfl,e⟩
  exact nomatch e
  ·injection e with e1 _
   subst e1;cases v<;>rfl
theorem oR (prog:Ot) (w:OR) (i:Int) (t:Tok):(au prog w).is (.inl i) (.int i t)=UC:=uC i t
theorem dU (prog:Ot) (w:OR) (x:Str) (t:Tok):(au prog w).is (.inr x) (.str x t)=UC:=uD x t
end L2
namespace L2
open PySem PySem.Spec PyProof.Rows
inductive V where
 | non|bl (b:Bool)|int (i:Int)|str (x:Str)|byt (b:Array UInt8)|flt (b:UInt64)|ref (a:Of)|ty (n:String)
 deriving DecidableEq
noncomputable def RelV:V->N1->Prop
 | .non,u=>u=SN| .bl b,u=>u=Ut b| .int i,u=>∃ t,u=Q6 i t| .str x,u=>∃ t,u=Tq x t| .byt b,u=>∃ t,u=Value.bytes b t| .flt b,u=>∃ t,u=Value.float b t| .ref a,u=>u=OL a| .ty n,u=>u=Value.type n
abbrev ao:List V->List N1->Prop:=Paired RelV
theorem ao.length (r:ao xs us):xs.length=us.length:=Paired.length r
theorem ao.get:∀ {xs:List V}{us:List N1}{i:Nat}{x:V},ao xs us->xs[i]?=UA x->∃ u,us[i]?=UA u/\RelV x u
 | _,_,_,_,.nil,e=>by simp at e
 | _,_,0,_,.cons r _,e=>by simp at e;subst e;exact ⟨_,rfl,r⟩
 | _,_,i+1,x,.cons _ t,e=>by obtain ⟨u,h1,h2⟩:=ao.get (i:=i) (x:=x) t (by simpa using e);exact ⟨u,by simpa using h1,h2⟩
theorem ao.set (r:RelV x u):∀ {xs:List V}{us:List N1} (i:Nat),ao xs us->ao (xs.set i x) (us.set i u)
 | _,_,_,.nil=>.nil| _,_,0,.cons _ t=>.cons r t| _,_,i+1,.cons q t=>.cons q (ao.set r i t)
theorem ao.append:∀ {xs ys:List V}{us ws:List N1},ao xs us->ao ys ws->ao (xs++ys) (us++ws)
 | _,_,_,_,.nil,s=>s| _,_,_,_,.cons r t,s=>.cons r (ao.append t s)
theorem ao.take:∀ {xs:List V}{us:List N1} (n:Nat),ao xs us->ao (xs.take n) (us.take n)
 | _,_,0,_=>.nil| _,_,_+1,.nil=>.nil| _,_,n+1,.cons r t=>.cons r (ao.take n t)
theorem ao.drop:∀ {xs:List V}{us:List N1} (n:Nat),ao xs us->ao (xs.drop n) (us.drop n)
 | _,_,0,r=>r| _,_,_+1,.nil=>.nil| _,_,n+1,.cons _ t=>ao.drop n t
noncomputable def kD:Option V->Option N1->Prop
 | some v,UA u=>RelV v u| none,UB=>True| _,_=>False
noncomputable def KV {κ:Type}:List (κ×V)->List (κ×N1)->Prop:=Paired λ(p:κ×V) (q:κ×N1)=>p.1=q.1/\RelV p.2 q.2
noncomputable def kV:Key->V
 | .inl i=>.int i| .inr x=>.str x
inductive HO where
 | lst (xs:List V)
 | tup (xs:List V)
 | dK (kvs:List (Key×V))|dT (kvs:List (List Key×V))
 | set (S:Int->Bool) (n:Nat)
 | ins (C dx:Of) (fs:List (Str×V))
 | own (x:Of)
 | xd (fs:List (Str×V))
 | met (f x:Of)
 | rng (lo hi:Int)
 | frz (o:Obj) (u:HO)
 | tbl (ps:Array N1)
 | ext (φ:Heap->Prop)
noncomputable abbrev Hp:=Of->Option HO
noncomputable def upd (H:Hp) (a:Of) (o:HO):Hp:=λb=>if b=a then UA o else H b
theorem aB:upd H a o a=UA o:=by unfold upd;rw[if_pos rfl]
theorem av (h:b≠a):upd H a o b=H b:=by unfold upd;rw[if_neg h]
theorem az {H:Hp}{a b:Of}{o:HO} (h:H a=UA o) (h':H b=UB):a≠b:=by intro e;subst e;rw[h] at h';cases h'
section
variable (P:Ot) (w:OR)
noncomputable def b7 (H:Hp) (h:Heap) (a:Of):HO->Prop
 | .lst xs=>xs.length<=sizeLine/\∃ (its:List N1) (n:Nat),ao xs its/\h.get? a=UA { cls:=.type "list",data:=.seq its.toArray n }| .tup xs=>xs.length<=sizeLine/\∃ its:List N1,ao xs its/\IsTup h a its.toArray| .dK kvs=>kvs.length<=sizeLine/\(a==Py)=UD/\∃ vs,KV kvs vs/\h.DictOf (au P w) a vs
 | .dT kvs=>kvs.length<=sizeLine/\(a==Py)=UD/\∃ xs:List (List Key×Of×N1),
  Paired (λ(p:List Key×V) (q:List Key×Of×N1)=>p.1=q.1/\H q.2.1=UA (.tup (p.1.map kV))/\RelV p.2 q.2.2) kvs xs ∧
  ∃ o es ep,h.get? a=UA o/\o.ExactDict/\o.data=.dict es ep/\es.toList=xs.map (entryOfKey (tupleKind (au P w)))/\(xs.map (·.1)).Nodup
 | .set S n=>h.SetOf (intKind P w) a S n| .ins C dx fs=>H dx=UA (.own a)/\fs.length<=1000/\dx≠a/\h.get? a=UA (Po C dx) ∧
  ∃ mA,h.Ns1 dx mA/\(∀ f,kD (fs.lookup f) (mA f))/\Tt mA (fs.map (·.1))
 | .own _=>∃ o,h.get? a=UA o| .xd fs=>∃ mA,h.Ns1 a mA/\∀ f,kD (fs.lookup f) (mA f)| .rng lo hi=>∃ t u v,h.get? a=UA { cls:=.type "range",data:=.fields #[.int lo t,.int hi u,.int 1 v] }| .frz o u=>h.get? a=UA o/\b7 H h a u| .tbl ps=>h.get? a=UA { cls:=.none,data:=.fields ps }| .met f x=>h.get? a=UA (RG (.ref f) (.ref x))| .ext φ=>φ h/\(∃ o,h.get? a=UA o)/\∀ h1 h2:Heap,φ h1->(∀ o,h1.get? a=UA o->h2.get? a=UA o)->φ h2
def HOk (H:Hp) (h:Heap):Prop:=∀ a o,H a=UA o->b7 P w H h a o
end
section
theorem b7.lt (x:b7 P w H h a o):a < h.objs.size:=by
 cases o with
 | lst xs=>obtain ⟨_,_,_,_,e⟩:=x;exact N6 e| tup xs=>obtain ⟨_,_,_,p⟩:=x;exact p.lt| set S n=>obtain ⟨o,_,_,_,e,_⟩:=x;exact N6 e| ins C dx fs=>obtain ⟨_,_,_,e,_⟩:=x;exact N6 e| own y=>obtain ⟨_,e⟩:=x;exact N6 e| xd fs=>obtain ⟨_,⟨_,_,_,e,_⟩,_⟩:=x;exact N6 e| rng lo hi=>obtain ⟨_,_,_,e⟩:=x;exact N6 e| frz ob u=>obtain ⟨e,_⟩:=x;exact N6 e| tbl ps=>exact N6 (show h.get? a=UA _ from x)| met f y=>exact N6 (show h.get? a=UA _ from x)| ext φ=>obtain ⟨_,⟨_,e⟩,_⟩:=x;exact N6 e| _=>obtain ⟨_,_,_,_,o,_,_,e,_⟩:=x;exact N6 e
theorem Paired.Hy:∀ {l₁:List α}{l₂:List β},Paired F l₁ l₂->(∀ a b,F a b->G a b)->Paired G l₁ l₂
 | _,_,.nil,_=>.nil| _,_,.cons r t,f=>.cons (f _ _ r) (Paired.Hy t f)
theorem b7.stay (x:b7 P w H h a o) (k:∀ b u,(b=a\/H b=UA (.own a))->h.get? b=UA u->h'.get? b=UA u)
 (ho:∀ b,H b=UA (.own a)->H' b=UA (.own a)) (ht:∀ b xs,H b=UA (.tup xs)->H' b=UA (.tup xs)):b7 P w H' h' a o:=by
 induction o with
 | lst xs=>obtain ⟨z,its,n,r,e⟩:=x;exact ⟨z,its,n,r,k _ _ (.inl rfl) e⟩| tup xs=>obtain ⟨z,its,r,ob,e,c⟩:=x;exact ⟨z,its,r,ob,k _ _ (.inl rfl) e,c⟩| dK kvs=>obtain ⟨z,y,vs,r,ob,es,ep,e,c⟩:=x;exact ⟨z,y,vs,r,ob,es,ep,k _ _ (.inl rfl) e,c⟩
 | dT kvs =>
  obtain ⟨z,y,xs,r,ob,es,ep,e,c⟩:=x;exact ⟨z,y,xs,Paired.Hy r λp q z=>⟨z.1,ht _ _ z.2.1,z.2.2⟩,ob,es,ep,k _ _ (.inl rfl) e,c⟩
 | set S n=>obtain ⟨ob,es,ep,t,e,c⟩:=x;exact ⟨ob,es,ep,t,k _ _ (.inl rfl) e,c⟩
 | ins C dx fs =>
  obtain ⟨d,z,ne,e,mA,⟨od,es,ep,e2,c⟩,r⟩:=x;exact ⟨ho _ d,z,ne,k _ _ (.inl rfl) e,mA,⟨od,es,ep,k _ _ (.inr d) e2,c⟩,r⟩
 | own y=>obtain ⟨ob,e⟩:=x;exact ⟨ob,k _ _ (.inl rfl) e⟩| xd fs=>obtain ⟨mA,⟨od,es,ep,e,c⟩,r⟩:=x;exact ⟨mA,⟨od,es,ep,k _ _ (.inl rfl) e,c⟩,r⟩| rng lo hi=>obtain ⟨t,u,v,e⟩:=x;exact ⟨t,u,v,k _ _ (.inl rfl) e⟩| frz ob u ih=>obtain ⟨e,q⟩:=x;exact ⟨k _ _ (.inl rfl) e,ih q⟩
 | tbl ps =>
  have e:h.get? a=UA { cls:=.none,data:=.fields ps }:=x;show h'.get? a=UA { cls:=.none,data:=.fields ps };exact k a _ (.inl rfl) e
 | met f y =>
  have e:h.get? a=UA (RG (.ref f) (.ref y)):=x;show h'.get? a=UA (RG (.ref f) (.ref y));exact k a _ (.inl rfl) e
 | ext φ=>obtain ⟨p,⟨o,e⟩,st⟩:=x;exact ⟨st _ _ p λo q=>k _ _ (.inl rfl) q,⟨o,k _ _ (.inl rfl) e⟩,st⟩
theorem HOk.lt (x:HOk P w H h) (e:H a=UA o):a < h.objs.size:=(x a o e).lt
theorem HOk.fresh (x:HOk P w H h) (e:h.objs.size<=a):H a=UB:=by
 cases q:H a with
 | none=>rfl| some u=>exact absurd (Ou (x.lt q) e) (OJ _)
theorem HOk.kept (x:HOk P w H h) (k:∀ b u,h.get? b=UA u->h'.get? b=UA u):HOk P w H h':=λa o e =>
 (x a o e).stay (λb u _ q=>k b u q) (λ_ q=>q) λ_ _ q=>q
theorem HOk.laid (x:HOk P w H h) (k:∀ b u,h.get? b=UA u->h'.get? b=UA u) (hp:h.objs.size<=a) (new:b7 P w (upd H a o) h' a o):HOk P w (upd H a o) h':=λb u e=>by
 have hn:=x.fresh hp
 by_cases hb:b=a
 subst hb;rw[aB] at e;cases e;exact new
 ·rw[av hb] at e;exact (x b u e).stay (λc v _ q=>k c v q) (λc q=>by rw[av (az q hn)];exact q) λc xs q=>by rw[av (az q hn)];exact q
end
def Rd (H:Hp) (a:Of) (u:HO):Prop:=H a=UA u\/∃ o,H a=UA (.frz o u)
theorem Rd.ok (r:Rd H a u) (x:HOk P w H h):b7 P w H h a u:=by
 rcases r with r|⟨o,r⟩
 exact x a u r
 ·obtain ⟨_,q⟩:=x a _ r;exact q
noncomputable def Mut:Option HO->Prop
 | some (.lst _)=>True| some (.dK _)=>True| some (.dT _)=>True| some (.set _ _)=>True| some (.ins _ _ _)=>True| some (.ext _)=>True| _=>False
section
theorem HOk.write (ok:HOk P w H h) (mu:Mut (H x)) (he:e=x\/H e=UA (.own x)) (k:∀ b u,b≠e->h.get? b=UA u->h'.get? b=UA u) (heo:∃ u,h'.get? e=UA u)
 (new:b7 P w (upd H x o') h' x o'):HOk P w (upd H x o') h':=λb u q=>by
 have nown:∀ c y,H c=UA (.own y)->c≠x:=λc y r z=>by subst z;rw[r] at mu;exact mu
 have ntup:∀ c xs,H c=UA (.tup xs)->c≠x:=λc xs r z=>by subst z;rw[r] at mu;exact mu
 by_cases hb:b=x
 subst hb;rw[aB] at q;cases q;exact new
 ·rw[av hb] at q
  by_cases hbe:b=e
  ·have q':H b=UA (.own x):=by
    rcases he with z|z
    exact absurd (hbe.trans z) hb;rw[hbe];exact z
   rw[q] at q';cases q';obtain ⟨v,hv⟩:=heo;exact ⟨v,by rw[hbe];exact hv⟩
  ·refine (ok b u q).stay (λc v hc r=>k c v ?_ r) (λc r=>by rw[av (nown c b r)];exact r) λc xs r=>by rw[av (ntup c xs r)];exact r
   rcases hc with rfl|hc
   exact hbe
   ·rintro rfl
    rcases he with z|z
    exact nown c b hc z;rw[hc] at z;cases z;exact hb rfl
end
structure Un (fs ex:List Of) (H H':Hp) (h h':Heap):Prop where
 keep:∀ b o,h.get? b=UA o->H b=UB->b∉fs->b∉ex->h'.get? b=UA o
 slot:∀ b o,h.get? b=UA o->H b=UB->b∈fs->b∉ex->∃ sl,h'.get? b=UA { o with slots:=sl }
 free:∀ b o,h.get? b=UA o->H b=UB->b∉ex->H' b=UB
 there:∀ b o,h.get? b=UA o->b∉ex->∃ o',h'.get? b=UA o'
 tups:∀ b xs,H b=UA (.tup xs)->H' b=UA (.tup xs)
 frzs:∀ b o u,H b=UA (.frz o u)->H' b=UA (.frz o u)
 tbls:∀ b ps,H b=UA (.tbl ps)->∃ more,H' b=UA (.tbl (ps++more))
section
theorem Un.any (u:Un fs ex H H1 h h1) (q:h.get? b=UA ob) (n:H b=UB) (hx:b∉ex):∃ sl,h1.get? b=UA { ob with slots:=sl }:=by
 by_cases hb:b∈fs
 exact u.slot b ob q n hb hx;exact ⟨ob.slots,u.keep b ob q n hb hx⟩
theorem Un.kept (k:∀ b u,h.get? b=UA u->h'.get? b=UA u):Un fs ex H H h h' :=
 ⟨λb ob q _ _ _=>k b ob q,λb ob q _ _ _=>⟨ob.slots,k b ob q⟩,λ_ _ _ n _=>n,λb ob q _=>⟨ob,k b ob q⟩,λ_ _ q=>q,λ_ _ _ q=>q,λ_ ps q=>⟨#[],by rw[q];simp⟩⟩
theorem Un.refl:Un fs ex H H h h:=Un.kept λ_ _ q=>q
theorem Un.laid (k:∀ b u,h.get? b=UA u->h'.get? b=UA u) (hp:h.objs.size<=a) (hn:H a=UB):Un fs ex H (upd H a o) h h' where
 keep:=λb u q _ _ _=>k b u q
 slot:=λb u q _ _ _=>⟨u.slots,k b u q⟩
 free:=λb u q n _=>by rw[av (On (Ou (N6 q) hp))];exact n
 there:=λb u q _=>⟨u,k b u q⟩
 tups:=λb xs q=>by rw[av (az q hn)];exact q
 frzs:=λb u xs q=>by rw[av (az q hn)];exact q
 tbls:=λb ps q=>⟨#[],by rw[av (az q hn),q];simp⟩
theorem Un.write (mu:Mut (H x)) (he:e=x\/H e=UA (.own x)) (k:∀ b u,b≠e->h.get? b=UA u->h'.get? b=UA u) (heo:∃ u,h'.get? e=UA u):Un fs ex H (upd H x o) h h':=by
 have hx:∀ b,H b=UB->b≠x:=λb n z=>by subst z;rw[n] at mu;exact mu
 have hb:∀ b,H b=UB->b≠e:=λb n z=>by
  subst z;rcases he with r|r
  exact hx b n r;rw[n] at r;cases r
 have hm:∀ b u,H b=UA u->¬ Mut (UA u)->b≠x:=λb u q nm z=>by subst z;rw[q] at mu;exact nm mu
 refine ⟨λb u q n _ _=>k b u (hb b n) q,λb u q n _ _=>⟨u.slots,k b u (hb b n) q⟩,λb u q n _=>by rw[av (hx b n)];exact n,λb u q _=>?_,
  λb xs q=>by rw[av (hm b _ q λz=>z)];exact q,λb u xs q=>by rw[av (hm b _ q λz=>z)];exact q,λb ps q=>⟨#[],by rw[av (hm b _ q λz=>z),q];simp⟩⟩
 by_cases hbe:b=e
 subst hbe;exact heo;exact ⟨u,k b u hbe q⟩
end
noncomputable def trk (h:Heap) (H:Hp):List Of:=(OP h.objs.size).filter λa=>(H a).isSome
noncomputable def oS (h:Heap) (H:Hp):Heap:=PySem.W.hideAll h (trk h H)
theorem uE (h:Heap) (H:Hp):(oS h H).objs.size=h.objs.size:=PySem.W.hideAll_size _ _
theorem oU (e:h.get? b=UA o) (n:H b=UB):(oS h H).get? b=UA o :=
 PySem.W.hideAll_get _ e λhm=>by have q:(H b).isSome=UC:=(List.mem_filter.mp hm).2;rw[n] at q;simp at q
theorem Au (e:(oS h H).get? b=UA o):h.get? b=UA o/\H b=UB:=by
 have e':h.get? b=UA o:=PySem.W.of_hideAll (trk h H) e;refine ⟨e',?_⟩;cases q:H b with
 | none=>rfl
 | some x =>
  have hm:b∈trk h H:=List.mem_filter.mpr ⟨List.mem_range.mpr (N6 e'),by simp[q]⟩;have z:(oS h H).get? b=UB:=PySem.W.hideAll_none (trk h H) hm;rw[z] at e;cases e
noncomputable def Av (g h:Heap) (L:Of):List (Of×Obj):=(OP h.objs.size).filterMap λa=>if a=L\/(g.get? a).isSome=UC then UB else (h.get? a).map λo=>(a,o)
noncomputable def rest (g h:Heap) (L d:Of):List (Of×Obj):=(Av g h L).filter λp=>decide (p.1≠d)
end L2
namespace L2
open PySem PySem.Spec PyProof.Rows
structure Mod (K:NV) (mg:Str->Option N1) (base:Heap):Prop where
 kin:K.In base
 glob:base.Ns Og mg
 blt:∃ mb,base.Ns PL mb/\∀ x:Str,x≠"__name__"->mb x=QX x
 nolimit:base.NoLimit
structure Cx where
 prog:Ot
 w:OR
 K:NV
 mg:Str->Option N1
 base:Heap
 A:PK
 N:List Str
 s₀:N4
 H₀:Hp
 env:Env
 outer:List Env
 stack:List Env
 ex:List Of
 fn:Str->Bool
 calm:Bool
 pn:List (Of×Obj)
 xe:N1->N4->Prop
noncomputable def frs (l:List Env):List Of:=l.filterMap (·.frame)
noncomputable abbrev Cx.fs (X:Cx):List Of:=frs X.outer
def Vis (sc:OD) (x:Str):Prop:=sc.names.lookup x=UA .local\/sc.names.lookup x=UA .cell\/sc.names.lookup x=UA .free
def Loc (sc:OD) (x:Str):Prop:=sc.names.lookup x=UA .local\/sc.names.lookup x=UA .cell
def Look (env:Env) (h:Heap) (m:Str->Option N1) (x:Str) (u:N1):Prop :=
 (env.kindOf x=UA .local/\m x=UA u)\/((env.kindOf x=UA .cell\/env.kindOf x=UA .free)/\∃ c,env.cells.lookup x=UA c/\h.IsCell c (UA u))
structure Cx.Ok (X:Cx):Prop where
 mod:Mod X.K X.mg X.base
 kind:X.env.scope.kind=.function
 glob:X.env.globals=Og
 blt:X.env.builtins=PL
 above:X.s₀.heap.objs.size<=X.env.locals
 inj:∀ x y c,X.env.cells.lookup x=UA c->X.env.cells.lookup y=UA c->x=y
 has:∀ x,(X.env.kindOf x=UA .cell\/X.env.kindOf x=UA .free)->∃ c,X.env.cells.lookup x=UA c
 cab:∀ x c,X.fn x=UC->X.env.cells.lookup x=UA c->X.s₀.heap.objs.size<=c
 hd:X.calm=UC->X.A.handled=UB
 frames:X.A.frames=UA X.stack
 stk:X.stack=X.outer\/(X.stack=X.env::X.outer/\X.env.frame=UA X.env.locals)
 exf:∀ b∈X.ex,b≠X.env.locals/\∀ x c,X.env.cells.lookup x=UA c->c≠b
 bs:∀ b o,X.base.get? b=UA o->X.s₀.heap.get? b=UA o/\X.H₀ b=UB
 bsz:X.base.objs.size<=X.s₀.heap.objs.size
 noex:∀ b o,X.base.get? b=UA o->b∉X.ex
 exfs:∀ b∈X.ex,b∉X.fs
 g9:X.s₀.heap.FunFrames X.base X.outer
 frf:∀ b∈X.fs,X.H₀ b=UB
structure Inv (X:Cx) (zt:List (Of×Obj)) (σ:List (Option V)) (H:Hp) (s:N4):Prop where
 ok:X.Ok
 os:s.os=X.s₀.os
 bare:SM s.gens
 base:Un X.fs X.ex X.H₀ H X.s₀.heap s.heap
 loc:∃ m,s.heap.Ns X.env.locals m/\∀ (i:Nat) (x:Str) (v:V),X.N[i]?=UA x->σ[i]?=UA (UA v)->Vis X.env.scope x->∃ u,RelV v u/\Look X.env s.heap m x u
 cell:∀ x c,X.env.cells.lookup x=UA c->∃ v,s.heap.IsCell c v
 free:H X.env.locals=UB
 freeC:∀ x c,X.env.cells.lookup x=UA c->H c=UB
 pin:∀ p∈X.pn++zt,s.heap.get? p.1=UA p.2/\H p.1=UB/\p.1≠X.env.locals/\p.1∉X.fs/\∀ v,p.2.data≠.cell v
 hok:HOk X.prog X.w H s.heap
 len:σ.length=X.N.length
section
variable {X:Cx}{zt:List (Of×Obj)}{σ:List (Option V)}{H H':Hp}{s:N4}{h':Heap}
theorem Cx.Ok.Lh (ok:X.Ok) (e:X.base.get? b=UA o):b∉X.fs:=λhb=>by have:=(ok.g9.mem hb).1;rw[e] at this;cases this
theorem Inv.bs (I:Inv X zt σ H s):∀ b o,X.base.get? b=UA o->s.heap.get? b=UA o/\H b=UB:=λb o e =>
 ⟨I.base.keep b o (I.ok.bs b o e).1 (I.ok.bs b o e).2 (I.ok.Lh e) (I.ok.noex b o e),I.base.free b o (I.ok.bs b o e).1 (I.ok.bs b o e).2 (I.ok.noex b o e)⟩
theorem Inv.bk (I:Inv X zt σ H s):∀ b o,X.base.get? b=UA o->s.heap.get? b=UA o:=λb o e=>(I.bs b o e).1
theorem Inv.mod (I:Inv X zt σ H s):Mod X.K X.mg X.base:=I.ok.mod
theorem Inv.kIn (I:Inv X zt σ H s):X.K.In s.heap:=I.ok.mod.kin.keeps I.bk
theorem Inv.lt (I:Inv X zt σ H s):X.env.locals < s.heap.objs.size:=let ⟨_,hn,_⟩:=I.loc;hn.lt
theorem Inv.sz (I:Inv X zt σ H s):X.s₀.heap.objs.size<=s.heap.objs.size:=OO I.ok.above (O0 I.lt)
theorem Inv.Li (I:Inv X zt σ H s) (h:s.heap.objs.size<=a):a∉X.fs:=λhb=>by obtain ⟨_,o,ho,_⟩:=I.ok.g9.mem hb;exact absurd (Ou (N6 ho) (OO I.sz h)) (OJ _)
theorem Inv.cne (I:Inv X zt σ H s):∀ x c,X.env.cells.lookup x=UA c->c≠X.env.locals:=λx c e z=>by obtain ⟨v,o,ho,hd⟩:=I.cell x c e;obtain ⟨m,⟨o',es,ep,ho',hd',_⟩,_⟩:=I.loc;rw[z,ho'] at ho;cases ho;rw[hd'] at hd;cases hd
theorem Inv.g9 (I:Inv X zt σ H s):s.heap.FunFrames X.base X.outer:=by
 have all:∀ (l:List Env),(∀ b∈frs l,b∈X.fs)->X.s₀.heap.FunFrames X.base l->s.heap.FunFrames X.base l:=by
  intro l
  induction l with
  | nil=>intro _ _;trivial
  | cons env r ih =>
   intro hs hl;obtain ⟨hk,⟨L,o,hf,hn,ho,hd⟩,hr⟩:=hl;have hL:L∈X.fs:=hs L (by unfold frs;rw[OE,hf];exact Oe);obtain ⟨sl,e⟩:=I.base.slot L o ho (I.ok.frf L hL) hL λz=>I.ok.exfs L z hL;exact ⟨hk,⟨L,_,hf,hn,e,hd⟩,ih (λb hb=>hs b (by unfold frs;rw[OE,hf];exact Oa _ hb)) hr⟩
 exact all X.outer (λ_ hb=>hb) I.ok.g9
theorem Inv.stack (I:Inv X zt σ H s):s.heap.FunFrames X.base X.stack:=by
 rcases I.ok.stk with e|⟨e,hf⟩
 rw[e];exact I.g9
 ·rw[e];obtain ⟨m,hn,_⟩:=I.loc;refine .cons (by rw[I.ok.kind];decide) hf hn ?_ I.g9;exact Heap.get?_none_of_le (OO I.ok.bsz I.ok.above)
theorem Inv.kE (I:Inv X zt σ H s):∀ b∈frs X.stack,b∈X.env.locals::X.fs:=λb hb=>by
 rcases I.ok.stk with e|⟨e,hf⟩
 rw[e] at hb;exact Oa _ hb
 ·rw[e] at hb;unfold frs at hb;rw[OE,hf] at hb;exact hb
theorem Inv.nk (I:Inv X zt σ H s):∀ b∈frs X.stack,H b=UB:=λb hb=>by
 rcases List.mem_cons.mp (I.kE b hb) with e|hb
 rw[e];exact I.free
 ·obtain ⟨_,o,ho,_⟩:=I.ok.g9.mem hb;exact I.base.free b o ho (I.ok.frf b hb) λz=>I.ok.exfs b z hb
theorem Inv.step {g':Array GenState}{t':Nat}{d':Drawn}{ch:List Of} (I:Inv X zt σ H s)
 (hch:∀ b∈ch,(b∈X.ex\/X.s₀.heap.objs.size<=b)/\b≠X.env.locals/\(∀ x c,X.env.cells.lookup x=UA c->c≠b)/\∀ p∈X.pn++zt,p.1≠b)
 (keep:∀ b o,b≠X.env.locals->b∉X.fs->b∉ch->s.heap.get? b=UA o->H b=UB->h'.get? b=UA o)
 (slot:∀ b o,b≠X.env.locals->b∈X.fs->b∉ch->s.heap.get? b=UA o->H b=UB->∃ sl,h'.get? b=UA { o with slots:=sl }) (free:∀ b o,b∉ch->s.heap.get? b=UA o->H b=UB->H' b=UB)
 (there:∀ b o,b∉ch->s.heap.get? b=UA o->∃ o',h'.get? b=UA o')
 (tups:∀ b xs,H b=UA (.tup xs)->H' b=UA (.tup xs)) (frzs:∀ b o u,H b=UA (.frz o u)->H' b=UA (.frz o u)) (tbls:∀ b ps,H b=UA (.tbl ps)->∃ more,H' b=UA (.tbl (ps++more)))
 (ns:∀ m,s.heap.Ns X.env.locals m->h'.Ns X.env.locals m) (hok:HOk X.prog X.w H' h') (hg:SM g') :
 Inv X zt σ H' { s with heap:=h',gens:=g',drawn:=d',toks:=t' }:=by
 have neL:∀ b o,X.s₀.heap.get? b=UA o->b≠X.env.locals:=λb o e=>On (Ou (N6 e) I.ok.above);have neC:∀ b o,X.s₀.heap.get? b=UA o->b∉X.ex->b∉ch:=λb o e hx hb=>by
  rcases (hch b hb).1 with z|z
  exact hx z;exact absurd (Ou (N6 e) z) (OJ _)
 have cellK:∀ x c,X.env.cells.lookup x=UA c->∀ v,s.heap.IsCell c v->h'.IsCell c v:=λx c e v ⟨o,ho,hd⟩=>by
  have nch:c∉ch:=λz=>(hch c z).2.2.1 x c e rfl
  by_cases hc:c∈X.fs
  ·obtain ⟨sl,q⟩:=slot c o (I.cne x c e) hc nch ho (I.freeC x c e);exact ⟨_,q,hd⟩
  exact ⟨o,keep c o (I.cne x c e) hc nch ho (I.freeC x c e),hd⟩
 refine ⟨I.ok,I.os,hg,⟨λb o e n hb hx=>?_,λb o e n hb hx=>?_,λb o e n hx=>?_,λb o e hx=>?_,λb xs e=>tups b xs (I.base.tups b xs e),λb o xs e=>frzs b o xs (I.base.frzs b o xs e),λb ps e=>?_⟩,?_,λx c e=>?_,?_,λx c e=>?_,λp hp=>?_,hok,I.len⟩;exact keep b o (neL b o e) hb (neC b o e hx) (I.base.keep b o e n hb hx) (I.base.free b o e n hx)
 ·obtain ⟨sl,e1⟩:=I.base.slot b o e n hb hx;obtain ⟨sl',e2⟩:=slot b _ (neL b o e) hb (neC b o e hx) e1 (I.base.free b o e n hx);exact ⟨sl',e2⟩
 ·obtain ⟨o',e1⟩:=I.base.there b o e hx;exact free b o' (neC b o e hx) e1 (I.base.free b o e n hx)
 ·obtain ⟨o',e1⟩:=I.base.there b o e hx;exact there b o' (neC b o e hx) e1
 ·obtain ⟨m1,e1⟩:=I.base.tbls b ps e;obtain ⟨m2,e2⟩:=tbls b _ e1;exact ⟨m1++m2,by rw[e2,Array.append_assoc]⟩
 ·obtain ⟨m,hn,hl⟩:=I.loc;refine ⟨m,ns m hn,λi x v e1 e2 e3=>?_⟩;obtain ⟨u,r,l⟩:=hl i x v e1 e2 e3;refine ⟨u,r,?_⟩;rcases l with l|⟨k,c,e,z⟩
  exact .inl l;exact .inr ⟨k,c,e,cellK x c e _ z⟩
 ·obtain ⟨v,z⟩:=I.cell x c e;exact ⟨v,cellK x c e v z⟩
 ·obtain ⟨m,⟨o,_,_,ho,_⟩,_⟩:=I.loc;exact free _ o (λz=>(hch _ z).2.1 rfl) ho I.free
 ·obtain ⟨v,o,ho,hd⟩:=I.cell x c e;exact free c o (λz=>(hch c z).2.2.1 x c e rfl) ho (I.freeC x c e)
 ·obtain ⟨e,n,ne,nf,d⟩:=I.pin p hp;have nch:p.1∉ch:=λz=>(hch p.1 z).2.2.2 p hp rfl;exact ⟨keep p.1 p.2 ne nf nch e n,free p.1 p.2 nch e n,ne,nf,d⟩
theorem Inv.un {t':Nat} (I:Inv X zt σ H s) (u:Un X.fs [] H H' s.heap h') (hok:HOk X.prog X.w H' h'):Inv X zt σ H' { s with heap:=h',toks:=t' }:=by
 obtain ⟨m,⟨o,es,ep,ho,r⟩,_⟩:=id I.loc;obtain ⟨sl,hL⟩:=u.any ho I.free (by simp);exact I.step (g':=s.gens) (d':=s.drawn) (ch:=[]) (λ_ z=>nomatch z) (λb o _ hb _ e n=>u.keep b o e n hb (by simp)) (λb o _ hb _ e n=>u.slot b o e n hb (by simp)) (λb o _ e n=>u.free b o e n (by simp)) (λb o _ e=>u.there b o e (by simp)) u.tups u.frzs u.tbls (λm' hm=>by obtain ⟨o',es',ep',ho',r'⟩:=hm;rw[ho] at ho';cases ho';exact ⟨_,es',ep',hL,r'⟩) hok I.bare
theorem Inv.call {g':Array GenState}{t':Nat}{d':Drawn}{ch:List Of} (I:Inv X zt σ H s) (u:Un (frs X.stack) ch H H' s.heap h') (hok:HOk X.prog X.w H' h') (hg:SM g')
 (hch:∀ b∈ch,(b∈X.ex\/X.s₀.heap.objs.size<=b)/\b≠X.env.locals/\(∀ x c,X.env.cells.lookup x=UA c->c≠b)/\∀ p∈X.pn++zt,p.1≠b) :
 Inv X zt σ H' { s with heap:=h',gens:=g',drawn:=d',toks:=t' }:=by
 obtain ⟨m,⟨o,es,ep,ho,r⟩,_⟩:=id I.loc;obtain ⟨sl,hL⟩:=u.any ho I.free λz=>(hch _ z).2.1 rfl;exact I.step (ch:=ch) hch (λb o hL hb hc e n=>u.keep b o e n (λz=>(List.mem_cons.mp (I.kE b z)).elim hL hb) hc) (λb o _ _ hc e n=>u.any e n hc) (λb o hc e n=>u.free b o e n hc) (λb o hc e=>u.there b o e hc) u.tups u.frzs u.tbls (λm' hm=>by obtain ⟨o',es',ep',ho',r'⟩:=hm;rw[ho] at ho';cases ho';exact ⟨_,es',ep',hL,r'⟩) hok hg
theorem Inv.turned {t':Nat}{it:Of} (I:Inv X zt σ H s) (k:∀ b o,b≠it->s.heap.get? b=UA o->h'.get? b=UA o) (hn:H it=UB) (hL:it≠X.env.locals)
 (h1:it∈X.ex\/X.s₀.heap.objs.size<=it) (h2:∀ x c,X.env.cells.lookup x=UA c->c≠it) (h3:∀ p∈X.pn++zt,p.1≠it):Inv X zt σ H { s with heap:=h',toks:=t' }:=by
 have nit:∀ b u,H b=UA u->b≠it:=λb u e z=>by rw[z,hn] at e;cases e
 refine I.step (g':=s.gens) (d':=s.drawn) (ch:=[it]) (λb hb=>?_) (λb o _ _ hc e _=>k b o (λz=>hc (by simp[z])) e) (λb o _ _ hc e _=>⟨o.slots,k b o (λz=>hc (by simp[z])) e⟩) (λ_ _ _ _ n=>n)
  (λb o hc e=>⟨o,k b o (λz=>hc (by simp[z])) e⟩) (λ_ _ e=>e) (λ_ _ _ e=>e) (λb ps e=>⟨#[],by rw[e];simp⟩) (λm hm=>?_) (λb u e=>?_) I.bare
 ·have e:b=it:=by simpa using hb
  subst e;exact ⟨h1,hL,h2,h3⟩
 ·obtain ⟨o,es,ep,ho,r⟩:=hm;exact ⟨o,es,ep,k _ o (Pb hL) ho,r⟩
 ·refine (I.hok b u e).stay (λc v hc q=>k c v ?_ q) (λ_ q=>q) λ_ _ q=>q;rcases hc with z|z
  rw[z];exact nit b u e;exact nit c _ z
theorem Inv.tok (I:Inv X zt σ H s) (t:Nat):Inv X zt σ H { s with toks:=t }:=I.un (h':=s.heap) (t':=t) Un.refl I.hok
theorem Inv.kept (I:Inv X zt σ H s) (k:∀ b u,s.heap.get? b=UA u->h'.get? b=UA u):Inv X zt σ H { s with heap:=h',toks:=t' }:=I.un (Un.kept k) (I.hok.kept k)
theorem Inv.laid (I:Inv X zt σ H s) (k:∀ b u,s.heap.get? b=UA u->h'.get? b=UA u) (hp:s.heap.objs.size<=a) (new:b7 X.prog X.w (upd H a o) h' a o) :
 Inv X zt σ (upd H a o) { s with heap:=h',toks:=t' }:=I.un (Un.laid k hp (I.hok.fresh hp)) (I.hok.laid k hp new)
theorem Inv.write (I:Inv X zt σ H s) (mu:Mut (H x)) (he:e=x\/H e=UA (.own x)) (k:∀ b u,b≠e->s.heap.get? b=UA u->h'.get? b=UA u) (heo:∃ u,h'.get? e=UA u)
 (new:b7 X.prog X.w (upd H x o) h' x o):Inv X zt σ (upd H x o) { s with heap:=h',toks:=t' }:=I.un (Un.write mu he k heo) (I.hok.write mu he k heo new)
theorem Inv.j9 (I:Inv X zt σ H s) (h:∀ p∈pins',s.heap.get? p.1=UA p.2/\H p.1=UB/\p.1≠X.env.locals/\p.1∉X.fs/\∀ v,p.2.data≠.cell v):Inv X pins' σ H s :=
 ⟨I.ok,I.os,I.bare,I.base,I.loc,I.cell,I.free,I.freeC,λp hp=>(List.mem_append.mp hp).elim (λz=>I.pin p (Pq _ z)) (h p),I.hok,I.len⟩
theorem oV {N:List Str} (hN:N.Nodup) {i j:Nat}{x:Str} (a:N[i]?=UA x) (b:N[j]?=UA x):i=j:=by obtain ⟨h1,e1⟩:=List.getElem?_eq_some_iff.mp a;obtain ⟨h2,e2⟩:=List.getElem?_eq_some_iff.mp b;exact (List.getElem_inj hN).mp (e1.trans e2.symm)
theorem mH {M:Model}{A:PK}{E:N1->N4->Prop}{i:Nat}{x:Str}{v:V}{u:N1}{Q:Unit->N4->Prop} (I:Inv X zt σ H s) (hN:X.N.Nodup) (hi:X.N[i]?=UA x) (hx:Loc X.env.scope x) (r:RelV v u)
 (h:∀ s',Inv X zt (σ.set i (UA v)) H s'->(∃ a,Qt a s.heap s'.heap/\(a=X.env.locals\/X.env.cells.lookup x=UA a))->Q () s') (hf:X.fn x=UC\/X.env.scope.names.lookup x=UA .local:=by first|exact .inl rfl|exact .inr rfl|assumption):wpAny M A (storeName X.env x u) Q E s:=by
 obtain ⟨m,hn,hl⟩:=id I.loc;have hcls:(X.env.scope.kind==.class||(X.env.scope.kind==.module&&X.env.locals != X.env.globals))=UD:=by rw[I.ok.kind];rfl
 have hiσ:i < σ.length:=by rw[I.len];exact (List.getElem?_eq_some_iff.mp hi).1
 have cne:=I.cne;have tracked:∀ {a:Of}{h':Heap},(∃ o,s.heap.get? a=UA o/\H a=UB)->Qt a s.heap h'->HOk X.prog X.w H h':=λ{a h'} ha hs b ob e=>by
  obtain ⟨_,_,hfree⟩:=ha;refine (I.hok b ob e).stay (λc w' hc q=>(hs.2 c ?_).trans q) (λ_ q=>q) λ_ _ q=>q
  rintro rfl
  rcases hc with rfl|hc
  rw[hfree] at e;cases e;rw[hfree] at hc;cases hc
 rcases hx with hk|hk
 ·refine wpAny_storeName_local hk hn (λh' hn' hs=>?_) hcls;obtain ⟨oL,_,_,hoL,_⟩:=id hn;refine h _ ⟨I.ok,I.os,I.bare,⟨λb o e n hb hx=>?_,λb o e n hb hx=>?_,I.base.free,λb o e hx=>?_,I.base.tups,I.base.frzs,I.base.tbls⟩,⟨_,hn',λj y v' e1 e2 e3=>?_⟩,λy c e=>?_,I.free,I.freeC,λp hp=>?_,tracked ⟨oL,hoL,I.free⟩ hs,by simpa using I.len⟩ ⟨_,hs,.inl rfl⟩;exact (hs.2 b (On (Ou (N6 e) I.ok.above))).trans (I.base.keep b o e n hb hx)
  ·obtain ⟨sl,e1⟩:=I.base.slot b o e n hb hx;exact ⟨sl,(hs.2 b (On (Ou (N6 e) I.ok.above))).trans e1⟩
  ·obtain ⟨o',e1⟩:=I.base.there b o e hx;exact ⟨o',(hs.2 b (On (Ou (N6 e) I.ok.above))).trans e1⟩
  ·by_cases hj:j=i
   ·subst hj;rw[hi] at e1;cases e1;rw[O2 hiσ] at e2;cases e2;exact ⟨u,r,.inl ⟨hk,by simp⟩⟩
   ·rw[OH (Pb hj)] at e2;obtain ⟨u',r',q⟩:=hl j y v' e1 e2 e3;refine ⟨u',r',?_⟩;rcases q with ⟨k,e⟩|⟨k,c,e,z⟩
    ·refine .inl ⟨k,?_⟩;have:y≠x:=λe=>hj (oV hN e1 (e ▸ hi));simp[this,e]
    exact .inr ⟨k,c,e,z.sameBut hs (cne y c e)⟩
  ·obtain ⟨w',z⟩:=I.cell y c e;exact ⟨w',z.sameBut hs (cne y c e)⟩
  ·obtain ⟨e,n,ne,nf,d⟩:=I.pin p hp;exact ⟨(hs.2 p.1 ne).trans e,n,ne,nf,d⟩
 ·have hfn:X.fn x=UC:=by
   rcases hf with z|z
   exact z;rw[z] at hk;cases hk
  obtain ⟨c,hc⟩:=I.ok.has x (.inl hk);obtain ⟨w',z⟩:=I.cell x c hc;refine wpAny_storeName_cell I.ok.kind hk hc z (λh' hc' hs=>?_);obtain ⟨oc,hoc,hocd⟩:=id z;refine h { s with heap:=h' } ⟨I.ok,I.os,I.bare,⟨λb o e n hb hx=>?_,λb o e n hb hx=>?_,I.base.free,λb o e hx=>?_,I.base.tups,I.base.frzs,I.base.tbls⟩,⟨m,hn.sameBut hs (Pb (cne x c hc)),λj y v' e1 e2 e3=>?_⟩,λy c' e=>?_,I.free,I.freeC,λp hp=>?_,tracked ⟨oc,hoc,I.freeC x c hc⟩ hs,by simpa using I.len⟩ ⟨c,hs,.inr hc⟩;exact (hs.2 b (On (Ou (N6 e) (I.ok.cab x c hfn hc)))).trans (I.base.keep b o e n hb hx)
  ·obtain ⟨sl,e1⟩:=I.base.slot b o e n hb hx;exact ⟨sl,(hs.2 b (On (Ou (N6 e) (I.ok.cab x c hfn hc)))).trans e1⟩
  ·obtain ⟨o',e1⟩:=I.base.there b o e hx;exact ⟨o',(hs.2 b (On (Ou (N6 e) (I.ok.cab x c hfn hc)))).trans e1⟩
  ·by_cases hj:j=i
   ·subst hj;rw[hi] at e1;cases e1;rw[O2 hiσ] at e2;cases e2;exact ⟨u,r,.inr ⟨.inl hk,c,hc,hc'⟩⟩
   ·rw[OH (Pb hj)] at e2;obtain ⟨u',r',q⟩:=hl j y v' e1 e2 e3;refine ⟨u',r',?_⟩;rcases q with q|⟨k,c',e,z'⟩
    exact .inl q
    ·refine .inr ⟨k,c',e,z'.sameBut hs ?_⟩
     rintro rfl
     exact hj (oV hN e1 (I.ok.inj _ _ _ e hc ▸ hi))
  ·by_cases hcc:c'=c
   subst hcc;exact ⟨_,hc'⟩
   ·obtain ⟨w2,z2⟩:=I.cell y c' e;exact ⟨w2,z2.sameBut hs hcc⟩
  ·obtain ⟨e,n,ne,nf,d⟩:=I.pin p hp;refine ⟨(hs.2 p.1 ?_).trans e,n,ne,nf,d⟩;intro q;rw[q,hoc] at e;have q':oc=p.2:=Ob e;exact d w' (by rw[← q'];exact hocd)
theorem kF {E:N1->N4->Prop} (I:Inv X zt σ H s) (hN:X.N.Nodup) (hi:X.N[i]?=UA x) (hx:Loc X.env.scope x) (r:RelV v u)
 (h:∀ s',Inv X zt (σ.set i (UA v)) H s'->Q () s') (hf:X.fn x=UC\/X.env.scope.names.lookup x=UA .local:=by first|exact .inl rfl|exact .inr rfl|assumption):wpAny M A (storeName X.env x u) Q E s :=
 mH I hN hi hx r (λs' I' _=>h s' I') hf
theorem Inv.Hz (I:Inv X zt σ H s) (ho:s'.os=s.os) (u:Un (frs X.stack) ch H H' s.heap s'.heap) (hok:HOk X.prog X.w H' s'.heap) (hg:SM s'.gens)
 (hch:∀ b∈ch,(b∈X.ex\/X.s₀.heap.objs.size<=b)/\b≠X.env.locals/\(∀ x c,X.env.cells.lookup x=UA c->c≠b)/\∀ p∈X.pn++zt,p.1≠b):Inv X zt σ H' s':=by
 obtain ⟨h',g',d',t',o'⟩:=s';have e:o'=s.os:=ho;subst e;exact I.call (g':=g') (t':=t') (d':=d') u hok hg hch
end
abbrev XK:=N1->Option Of->Hp->Prop
noncomputable abbrev St:=List (Option V)
abbrev VK:=V->Hp->Prop
abbrev TE:=St->Hp->VK->Prop
abbrev TT:=St->Hp->(Bool->Hp->Prop)->Prop
abbrev TA:=St->Hp->(List V->Hp->Prop)->Prop
structure Ends where
 nx:St->Hp->Prop
 rt:VK
 bk:St->Hp->Prop:=λ_ _=>False
 ct:St->Hp->Prop:=λ_ _=>False
abbrev TS:=Ends->St->Hp->Prop
inductive EP (X:Cx) (zt:List (Of×Obj)) (σ:St) (Q:VK) (u:N1) (s':N4):Prop where
 | mk (v:V) (H':Hp) (I:Inv X zt σ H' s') (r:RelV v u) (q:Q v H'):EP X zt σ Q u s'
inductive TP (X:Cx) (zt:List (Of×Obj)) (σ:St) (Q:Bool->Hp->Prop) (b:Bool) (s':N4):Prop where
 | mk (H':Hp) (I:Inv X zt σ H' s') (q:Q b H'):TP X zt σ Q b s'
inductive AP (X:Cx) (zt:List (Of×Obj)) (σ:St) (Q:List V->Hp->Prop) (us:List N1) (s':N4):Prop where
 | mk (vs:List V) (H':Hp) (I:Inv X zt σ H' s') (r:ao vs us) (q:Q vs H'):AP X zt σ Q us s'
def SP (X:Cx) (zt:List (Of×Obj)) (D:Ends) (f:Flow) (s':N4):Prop :=
 match f with
 | .next=>∃ σ' H',Inv X zt σ' H' s'/\D.nx σ' H'| .brk=>∃ σ' H',Inv X zt σ' H' s'/\D.bk σ' H'| .cont=>∃ σ' H',Inv X zt σ' H' s'/\D.ct σ' H'| .ret u=>∃ v σ' H',Inv X zt σ' H' s'/\RelV v u/\D.rt v H'
def PE (X:Cx) (e:Expr) (t:TE):Prop :=
 ∀ (zt:List (Of×Obj)) (s:N4) (σ:St) (H:Hp) (Q:VK),Inv X zt σ H s->t σ H Q->wpAny (Ow X.prog X.w) X.A (eval e X.env) (EP X zt σ Q) X.xe s
def PT (X:Cx) (e:Expr) (t:TT):Prop :=
 ∀ (zt:List (Of×Obj)) (s:N4) (σ:St) (H:Hp) (Q:Bool->Hp->Prop),Inv X zt σ H s->t σ H Q->wpAny (Ow X.prog X.w) X.A (isTrue e X.env (eval e X.env)) (TP X zt σ Q) X.xe s
def PW (X:Cx) (e:Expr) (t:TT):Prop :=
 ∀ (whole:Sem N1) (zt:List (Of×Obj)) (s:N4) (σ:St) (H:Hp) (Q:Bool->Hp->Prop),Inv X zt σ H s->t σ H Q->wpAny (Ow X.prog X.w) X.A (isTrue e X.env whole) (TP X zt σ Q) X.xe s
theorem PW.pt (h:PW X e t):PT X e t:=h _
def PA (X:Cx) (es:List Expr) (t:TA):Prop :=
 ∀ (pos:Pos) (zt:List (Of×Obj)) (s:N4) (σ:St) (H:Hp) (Q:List V->Hp->Prop),Inv X zt σ H s->t σ H Q->wpAny (Ow X.prog X.w) X.A (Sy (PU pos (OA es X.env))) (AP X zt σ Q) X.xe s
def PS (X:Cx) (st:SB) (t:TS):Prop :=
 ∀ (zt:List (Of×Obj)) (s:N4) (σ:St) (H:Hp) (D:Ends),Inv X zt σ H s->t D σ H->wpAny (Ow X.prog X.w) X.A (exec st X.env) (SP X zt D) X.xe s
def PSs (X:Cx) (st:List SB) (t:TS):Prop :=
 ∀ (zt:List (Of×Obj)) (s:N4) (σ:St) (H:Hp) (D:Ends),Inv X zt σ H s->t D σ H->wpAny (Ow X.prog X.w) X.A (execs st X.env) (SP X zt D) X.xe s
theorem thn {α:Type}{t:Sem α}{Q Q':α->N4->Prop}{E:N1->N4->Prop} (h:wpAny M A t Q E s) (hQ:∀ a s,Q a s->Q' a s):wpAny M A t Q' E s:=wpAny_mono h hQ λ_ _ x=>x
end L2
namespace L2
open PySem PySem.Spec PyProof.Rows
section
theorem bin {a b:Expr}{ta tb:TE} (ha:PE X a ta) (hb:PE X b tb) {zt:List (Of×Obj)}{s:N4}{σ:St}{H:Hp}{R:V->V->Hp->Prop} (I:Inv X zt σ H s) (h:ta σ H λx H1=>tb σ H1 λy H2=>R x y H2)
 {α:Type}{Q:α->N4->Prop}{f:N1->N1->Sem α}
 (hf:∀ v u s2 x y H2,Inv X zt σ H2 s2->RelV x v->RelV y u->R x y H2->wpAny (Ow X.prog X.w) X.A (f v u) Q X.xe s2) :
 wpAny (Ow X.prog X.w) X.A (eval a X.env) (λv s₁=>wpAny (Ow X.prog X.w) X.A (eval b X.env) (λu s₂=>wpAny (Ow X.prog X.w) X.A (f v u) Q X.xe s₂) X.xe s₁) X.xe s:=by
 refine thn (ha zt s σ H _ I h) λv s1 zq=>?_;obtain ⟨x,H1,I1,r1,q1⟩:=zq;refine thn (hb zt s1 σ H1 _ I1 q1) λu s2 zq=>?_;obtain ⟨y,H2,I2,r2,q2⟩:=zq;exact hf v u s2 x y H2 I2 r1 r2 q2
def Lj (i:Nat):TE:=fun σ H Q=>∃ v,σ[i]?=UA (UA v)/\Q v H
def tC (v:V):TE:=λ_ H Q=>Q v H
theorem wA (hN:X.N[i]?=UA x) (hv:Vis X.env.scope x) (hd:(x==("__debug__":Str))=UD:=by decide) (hcd:(x==("__classdict__":Str))=UD:=by decide):PE X (.Name x pos) (Lj i):=by
 intro zt s σ H Q I h;obtain ⟨v,e,h⟩:=h;obtain ⟨m,hn,hl⟩:=I.loc;obtain ⟨u,r,l⟩:=hl i x v hN e hv;have fin:EP X zt σ Q u s:=⟨v,H,I,r,h⟩;rcases l with ⟨hk,hm⟩|⟨hk,c,hc,hcell⟩
 exact wpAny_Name (wpAny_loadName_local I.ok.kind hk hn hm fin) hd
 ·rcases hk with hk|hk
  exact wpAny_Name (wpAny_loadName_cell I.ok.kind hk hc hcell fin) hd;exact wpAny_Name (wpAny_loadName_free I.ok.kind hk hc hcell fin hcd) hd
theorem qK {i j pos}:PE X (.Constant (.int i) j pos) (tC (.int i)):=λ_ _ _ H _ I h=>wpAny_Constant_int ⟨.int i,H,I.tok _,⟨_,rfl⟩,h⟩
theorem HA {b j pos}:PE X (.Constant (.bool b) j pos) (tC (.bl b)):=λ_ _ _ H _ I h=>Constant_bool ⟨.bl b,H,I,rfl,h⟩
theorem Ec {j pos}:PE X (.Constant .none j pos) (tC .non):=λ_ _ _ H _ I h=>Constant_none ⟨.non,H,I,rfl,h⟩
theorem Ed {x j pos}:PE X (.Constant (.str x) j pos) (tC (.str x)):=λ_ _ _ H _ I h=>Calls.Constant_str ⟨.str x,H,I.tok _,⟨_,rfl⟩,h⟩
def Gl (X:Cx) (x:Str):Prop:=X.env.kindOf x=UA .globalImplicit
theorem iL {E:N1->N4->Prop} (I:Inv X zt σ H s) (hg:Gl X x) (hm:X.mg x=UA u) (h:Q u s)
 (hd:(x==("__debug__":Str))=UD:=by decide):wpAny (Ow X.prog X.w) X.A (eval (.Name x pos) X.env) Q E s :=
 Sw I.ok.kind hg (Calls.loadGlobal_global (by rw[I.ok.glob];exact I.mod.glob.keeps I.bk) hm h) hd
theorem dH {E:N1->N4->Prop} (I:Inv X zt σ H s) (hg:Gl X x) (hm:X.mg x=UB) (hv:QX x=UA u) (h:Q u s)
 (hn:x≠"__name__":=by decide) (hd:(x==("__debug__":Str))=UD:=by decide):wpAny (Ow X.prog X.w) X.A (eval (.Name x pos) X.env) Q E s:=by
 obtain ⟨mb,h1,h2⟩:=I.mod.blt;exact Sw I.ok.kind hg (Calls.loadGlobal_builtin (by rw[I.ok.glob];exact I.mod.glob.keeps I.bk) hm (by rw[I.ok.blt];exact h1.keeps I.bk) ((h2 x hn).trans hv) h) hd
theorem su (hg:Gl X x) (hm:X.mg x=UA u) (r:RelV v u) (hd:(x==("__debug__":Str))=UD:=by decide):PE X (.Name x pos) (tC v) :=
 λ_ _ _ H _ I h=>iL I hg hm ⟨v,H,I,r,h⟩ hd
theorem iM (hg:Gl X x) (hm:X.mg x=UB) (hv:QX x=UA u) (r:RelV v u) (hn:x≠"__name__":=by decide) (hd:(x==("__debug__":Str))=UD:=by decide):PE X (.Name x pos) (tC v) :=
 λ_ _ _ H _ I h=>dH I hg hm hv ⟨v,H,I,r,h⟩ hn hd
def PC (X:Cx) (op:CmpOp) (a b:Expr) (t:TE):Prop :=
 ∀ (zt:List (Of×Obj)) (s:N4) (σ:St) (H:Hp) (Q:VK),Inv X zt σ H s->t σ H Q →
  wpAny (Ow X.prog X.w) X.A (eval a X.env) (λv s₁=>wpAny (Ow X.prog X.w) X.A (eval b X.env) (λu s₂=>wpAny (Ow X.prog X.w) X.A (OQ op v u) (EP X zt σ Q) X.xe s₂) X.xe s₁) X.xe s
def tB (t:TE):TT:=fun σ H Q=>t σ H λx H1=>∃ c,x=.bl c/\Q c H1
theorem Lk (h:PC X op a b t) (h1:Sk op b=UD:=by first|exact nobehind _ (by decide) (by decide)|rfl):PT X (.Compare a [op] [b] pos) (tB t):=by intro zt s σ H Q I hw;refine wpAny_isTrue_Compare1 (thn (h zt s σ H _ I hw) λv s1 h1=>thn h1 λu s2 h2=>thn h2 λc s3 ⟨x,H1,I1,r1,q1⟩=>?_) h1;obtain ⟨d,rfl,q⟩:=q1;cases r1;exact O7 ⟨H1,I1,q⟩
theorem Ef (h:PE X e t) (he:∀ whole,isTrue e X.env whole=(do let v ← whole;standAt e.pos;holding [v] (truthy v)):=by intro _;rfl):PT X e (tB t):=by intro zt s σ H Q I hw;refine isTrue_plain (thn (h zt s σ H _ I hw) λv s1 ⟨x,H1,I1,r1,q1⟩=>?_) (he _);obtain ⟨d,rfl,q⟩:=q1;cases r1;exact O7 ⟨H1,I1,q⟩
variable {rest:List Expr}
def HB (t u:TT):TT:=fun σ H Q=>t σ H λc H1=>if c=UC then u σ H1 Q else Q UD H1
def tOr (t u:TT):TT:=fun σ H Q=>t σ H λc H1=>if c=UC then Q UC H1 else u σ H1 Q
def HC (t:TT):TT:=fun σ H Q=>t σ H λc H1=>Q (!c) H1
theorem Aw (ha:PT X a tA):PW X (.BoolOp .And [a] pos) tA:=by
 intro wh zt s σ H Q I h;refine isTrue_and (thn (ha zt s σ H Q I h) λc s1 e=>?_);cases c with
 | true=>exact isTrue_and_nil e| false=>exact e
theorem Eg (ha:PT X a tA):PW X (.BoolOp .Or [a] pos) tA:=by
 intro wh zt s σ H Q I h;refine isTrue_or (thn (ha zt s σ H Q I h) λc s1 e=>?_);cases c with
 | false=>exact isTrue_or_nil e| true=>exact e
theorem wB (ha:PT X a tA) (hb:PW X (.BoolOp .And (b::rest) pos) tB'):PW X (.BoolOp .And (a::b::rest) pos) (HB tA tB'):=by
 intro wh zt s σ H Q I h;refine isTrue_and (thn (ha zt s σ H _ I h) λc s1 zq=>?_);obtain ⟨H1,I1,q1⟩:=zq;cases c with
 | true=>exact hb wh zt s1 σ H1 Q I1 q1| false=>exact ⟨H1,I1,q1⟩
theorem Dv (ha:PT X a tA) (hb:PW X (.BoolOp .Or (b::rest) pos) tB'):PW X (.BoolOp .Or (a::b::rest) pos) (tOr tA tB'):=by
 intro wh zt s σ H Q I h;refine isTrue_or (thn (ha zt s σ H _ I h) λc s1 zq=>?_);obtain ⟨H1,I1,q1⟩:=zq;cases c with
 | true=>exact ⟨H1,I1,q1⟩| false=>exact hb wh zt s1 σ H1 Q I1 q1
theorem Eh (ha:PT X a tA):PT X (.UnaryOp .Not a pos) (HC tA):=by intro zt s σ H Q I h;exact isTrue_not (thn (ha zt s σ H (λc H1=>Q (!c) H1) I h) λc s' z=>by obtain ⟨H1,I1,q⟩:=z;exact ⟨H1,I1,q⟩)
def Dw (ta tb:TE):TE:=fun σ H Q=>ta σ H λx H1=>∃ c,x=.bl c/\if c=UC then tb σ H1 Q else Q (.bl UD) H1
def HD (ta tb:TE):TE:=fun σ H Q=>ta σ H λx H1=>∃ c,x=.bl c/\if c=UC then Q (.bl UC) H1 else tb σ H1 Q
def Dy (ta:TE):TE:=fun σ H Q=>ta σ H λx H1=>∃ c,x=.bl c/\Q (.bl (!c)) H1
theorem wC {op} (h:PE X a t):PE X (.BoolOp op [a] pos) t:=λzt s σ H Q I hw=>BoolOp_one (h zt s σ H Q I hw)
theorem wD (ha:PE X a ta) (hb:PE X (.BoolOp .And (b::rest) pos) tb):PE X (.BoolOp .And (a::b::rest) pos) (Dw ta tb):=by
 intro zt s σ H Q I h;refine BoolOp_and (thn (ha zt s σ H _ I h) λv s1 zq=>?_);obtain ⟨x,H1,I1,r1,q1⟩:=zq;obtain ⟨c,rfl,q1⟩:=q1;cases r1;refine O7 ?_;cases c with
 | true=>exact hb zt s1 σ H1 Q I1 q1| false=>exact ⟨.bl UD,H1,I1,rfl,q1⟩
theorem Dz (ha:PE X a ta) (hb:PE X (.BoolOp .Or (b::rest) pos) tb):PE X (.BoolOp .Or (a::b::rest) pos) (HD ta tb):=by
 intro zt s σ H Q I h;refine BoolOp_or (thn (ha zt s σ H _ I h) λv s1 zq=>?_);obtain ⟨x,H1,I1,r1,q1⟩:=zq;obtain ⟨c,rfl,q1⟩:=q1;cases r1;refine O7 ?_;cases c with
 | false=>exact hb zt s1 σ H1 Q I1 q1| true=>exact ⟨.bl UC,H1,I1,rfl,q1⟩
theorem Ei (ha:PE X a ta):PE X (.UnaryOp .Not a pos) (Dy ta):=by intro zt s σ H Q I h;refine UnaryOp_ (thn (ha zt s σ H _ I h) λv s1 zq=>?_);obtain ⟨x,H1,I1,r1,q1⟩:=zq;obtain ⟨c,rfl,q1⟩:=q1;cases r1;exact not_of (O7 ⟨.bl (!c),H1,I1,rfl,q1⟩)
def tIf (t:TT) (ta tb:TE):TE:=fun σ H Q=>t σ H λc H1=>if c=UC then ta σ H1 Q else tb σ H1 Q
theorem wF (hc:PT X c tA) (ha:PE X a ta) (hb:PE X b tb):PE X (.IfExp c a b pos) (tIf tA ta tb):=by
 intro zt s σ H Q I h;refine wpAny_IfExp (thn (hc zt s σ H _ I h) λd s1 zq=>?_);obtain ⟨H1,I1,q1⟩:=zq;cases d with
 | true=>exact ha zt s1 σ H1 Q I1 q1| false=>exact hb zt s1 σ H1 Q I1 q1
end
end L2
namespace L2
open PySem PySem.Spec PyProof.Rows
def SqL (K:NV) (H:Hp) (a:Of) (xs:List V):Prop :=
 Rd H a (.lst xs) ∨
  ∃ (o:Obj) (its:Array N1) (n:Nat),K.lookup a=UA o/\o.cls=.type "list"/\o.dict=UB/\o.data=.seq its n/\its.size<=sizeLine/\ao xs its.toList
def SqT (K:NV) (H:Hp) (a:Of) (xs:List V):Prop :=
 Rd H a (.tup xs) ∨
  ∃ (o:Obj) (its:Array N1) (n:Nat),K.lookup a=UA o/\o.cls=.type "tuple"/\o.data=.seq its n/\its.size<=sizeLine/\ao xs its.toList
noncomputable def Ll:N1->Option V
 | .none=>UA .non| .bool b=>UA (.bl b)| .int i _=>UA (.int i)| .str x _=>UA (.str x)| .bytes b _=>UA (.byt b)| .float b _=>UA (.flt b)| .ref a=>UA (.ref a)| .type n=>UA (.ty n)| _=>UB
theorem RelV.abs (r:RelV x u):Ll u=UA x:=by
 cases x with
 | non=>cases r;rfl| bl _=>cases r;rfl| ref _=>cases r;rfl| ty _=>cases r;rfl| _=>obtain ⟨t,rfl⟩:=r;rfl
theorem RelV.inj (r:RelV x u) (q:RelV y u):x=y:=Ob (r.abs.symm.trans q.abs)
theorem ao.inj:∀ {xs ys:List V}{us:List N1},ao xs us->ao ys us->xs=ys
 | _,_,_,.nil,.nil=>rfl
 | _,_,_,.cons r t,.cons r' t'=>by rw[r.inj r',ao.inj t t']
section
theorem Inv.list (I:Inv X zt σ H s) (h:SqL X.K H a xs):∃ its:List N1,ao xs its/\PlainL s.heap a its.toArray/\xs.length<=sizeLine:=by
 rcases h with h|⟨o,its,n,hk,hc,hd,hs,hz,r⟩
 ·obtain ⟨z,its,n,r,e⟩:=h.ok I.hok;exact ⟨its,r,⟨_,n,e,rfl,rfl,rfl⟩,z⟩
 ·refine ⟨its.toList,r,⟨o,n,I.kIn a o hk,hc,hd,by simpa using hs⟩,?_⟩;have e:=r.length;simp only[Rp] at e;lia
theorem Inv.tuple (I:Inv X zt σ H s) (h:SqT X.K H a xs):∃ its:List N1,ao xs its/\IsTup s.heap a its.toArray/\xs.length<=sizeLine:=by
 rcases h with h|⟨o,its,n,hk,hc,hs,hz,r⟩
 ·obtain ⟨z,its,r,p⟩:=h.ok I.hok;exact ⟨its,r,p,z⟩
 ·refine ⟨its.toList,r,⟨o,I.kIn a o hk,hc,n,by simpa using hs⟩,?_⟩;have e:=r.length;simp only[Rp] at e;lia
theorem Inv.oW (I:Inv X zt σ H s) (h:SqL X.K H a xs) (h':SqL X.K H a ys):xs=ys:=by
 obtain ⟨its,r,⟨o,n,e,_,_,d⟩,_⟩:=I.list h;obtain ⟨its',r',⟨o',n',e',_,_,d'⟩,_⟩:=I.list h';rw[e] at e';cases e';rw[d] at d'
 injection d' with d1 _
 have:its=its':=by simpa using congrArg Tz d1
 subst this;exact r.inj r'
theorem Inv.uF (I:Inv X zt σ H s) (h:SqT X.K H a xs) (h':SqT X.K H a ys):xs=ys:=by
 obtain ⟨its,r,⟨o,e,_,n,d⟩,_⟩:=I.tuple h;obtain ⟨its',r',⟨o',e',_,n',d'⟩,_⟩:=I.tuple h';rw[e] at e';cases e';rw[d] at d'
 injection d' with d1 _
 have:its=its':=by simpa using congrArg Tz d1
 subst this;exact r.inj r'
end
noncomputable abbrev Cx.lR (X:Cx) (E:N1->N4->Prop):Cx:={ X with xe:=E }
noncomputable abbrev Cx.nox (X:Cx):Cx:=X.lR λ_ _=>False
theorem Cx.Ok.lR {X:Cx} (ok:X.Ok) (E:N1->N4->Prop):(X.lR E).Ok :=
 ⟨ok.mod,ok.kind,ok.glob,ok.blt,ok.above,ok.inj,ok.has,ok.cab,ok.hd,ok.frames,ok.stk,ok.exf,ok.bs,ok.bsz,ok.noex,ok.exfs,ok.g9,ok.frf⟩
theorem Cx.Ok.fV {X:Cx}{E:N1->N4->Prop} (ok:(X.lR E).Ok):X.Ok :=
 ⟨ok.mod,ok.kind,ok.glob,ok.blt,ok.above,ok.inj,ok.has,ok.cab,ok.hd,ok.frames,ok.stk,ok.exf,ok.bs,ok.bsz,ok.noex,ok.exfs,ok.g9,ok.frf⟩
section
variable {E:N1->N4->Prop}
theorem Inv.lR (I:Inv X zt σ H s) (E:N1->N4->Prop):Inv (X.lR E) zt σ H s:=⟨I.ok.lR E,I.os,I.bare,I.base,I.loc,I.cell,I.free,I.freeC,I.pin,I.hok,I.len⟩
theorem Inv.fV (I:Inv (X.lR E) zt σ H s):Inv X zt σ H s:=⟨I.ok.fV,I.os,I.bare,I.base,I.loc,I.cell,I.free,I.freeC,I.pin,I.hok,I.len⟩
theorem SP.fV {D:Ends} (h:SP (X.lR E) zt D f s'):SP X zt D f s':=by
 cases f with
 | ret u=>obtain ⟨v,σ',H',I,r,q⟩:=h;exact ⟨v,σ',H',I.fV,r,q⟩| _=>obtain ⟨σ',H',I,q⟩:=h;exact ⟨σ',H',I.fV,q⟩
theorem PSs.nox {st:List SB} (h:PSs X.nox st t):PSs X st t:=λzt s σ H D I hw =>
 wpAny_mono (h zt s σ H D (I.lR _) hw) (λ_ _ q=>q.fV) λ_ _ z=>ON z
end
section
variable {st:SB}{rest:List SB}
def HE:TS:=λD σ H=>D.nx σ H
def HF (t u:TS):TS:=λD σ H=>t { D with nx:=u D } σ H
theorem Ax:PSs X [] HE:=λ_ _ σ H _ I h=>Rx ⟨σ,H,I,h⟩
theorem oX (h1:PS X st t) (h2:PSs X rest u):PSs X (st::rest) (HF t u):=by
 intro zt s σ H D I h;refine wpAny_execs_cons (thn (h1 zt s σ H { D with nx:=u D } I h) λf s1 q=>?_);cases f with
 | next =>
  obtain ⟨σ',H',I',q⟩:=q;exact h2 zt s1 σ' H' D I' q
 | _=>exact q
theorem sy (h1:PS X st t):PSs X [st] t:=by
 intro zt s σ H D I h;refine wpAny_execs_cons (thn (h1 zt s σ H D I h) λf s1 q=>?_);cases f with
 | next=>exact Rx q| _=>exact q
def Ej:TS:=λD σ H=>D.bk σ H
def HG:TS:=λD σ H=>D.ct σ H
theorem wG:PS X (.Break pos) Ej:=λ_ _ σ H _ I h=>wpAny_Break ⟨σ,H,I,h⟩
theorem oY:PS X (.Continue pos) HG:=λ_ _ σ H _ I h=>wpAny_Continue ⟨σ,H,I,h⟩
theorem Inv.quiet (I:Inv X zt σ H s):interactive X.env=UD:=by simp[interactive,I.ok.kind]
def HJ (te:TE):TS:=λD σ H=>te σ H λ_ H1=>D.nx σ H1
theorem Ay (he:PE X e te) (hs:QL e UB pos.line X.env=pure UD:=by rfl):PS X (.Expr e pos) (HJ te):=by intro zt s σ H D I h;exact wpAny_Expr_any (thn (he zt s σ H _ I h) λv s1 ⟨x,H1,I1,r1,q1⟩=>⟨σ,H1,I1,q1⟩) I.quiet hs
def Lm (te:TE):TS:=λD σ H=>te σ H D.rt
theorem wH (he:PE X e te):PS X (.Return (UA e) pos) (Lm te):=by intro zt s σ H D I h;exact wpAny_Return_some (thn (he zt s σ H _ I h) λv s1 ⟨x,H1,I1,r1,q1⟩=>⟨x,σ,H1,I1,r1,q1⟩)
def Ln (c:TT) (t u:TS):TS:=λD σ H=>c σ H λb H1=>if b=UC then t D σ H1 else u D σ H1
theorem HK (hc:PT X c tc) (ha:PSs X a t) (hb:PSs X b u):PS X (.If c a b pos) (Ln tc t u):=by
 intro zt s σ H D I h;refine wpAny_If (thn (hc zt s σ H _ I h) λd s1 zq=>?_);obtain ⟨H1,I1,q1⟩:=zq;cases d with
 | true=>exact ha zt s1 σ H1 D I1 q1| false=>exact hb zt s1 σ H1 D I1 q1
end
abbrev TG:=V->St->Hp->(St->Hp->Prop)->Prop
abbrev TGs:=List V->St->Hp->(St->Hp->Prop)->Prop
def PG (X:Cx) (target:Expr) (t:TG):Prop :=
 ∀ (zt:List (Of×Obj)) (s:N4) (σ:St) (H:Hp) (v:V) (u:N1) (Q:St->Hp->Prop),Inv X zt σ H s->RelV v u->t v σ H Q →
  wpAny (Ow X.prog X.w) X.A (To target X.env u) (λ_ s'=>∃ σ' H',Inv X zt σ' H' s'/\Q σ' H') X.xe s
def PGs (X:Cx) (ts:List Expr) (t:TGs):Prop :=
 ∀ (zt:List (Of×Obj)) (s:N4) (σ:St) (H:Hp) (vs:List V) (us:List N1) (Q:St->Hp->Prop),Inv X zt σ H s->ao vs us->t vs σ H Q →
  wpAny (Ow X.prog X.w) X.A (assignInOrder ((RL ts X.env).map (·.2)) us) (λ_ s'=>∃ σ' H',Inv X zt σ' H' s'/\Q σ' H') X.xe s
abbrev HL:=V->V->V->Hp->(Hp->Prop)->Prop
def Ek (X:Cx) (t:HL):Prop :=
 ∀ (zt:List (Of×Obj)) (s:N4) (σ:St) (H:Hp) (o i v:V) (ov iv u:N1) (Q:Hp->Prop),Inv X zt σ H s->RelV o ov->RelV i iv->RelV v u->t o i v H Q →
  wpAny (Ow X.prog X.w) X.A (setItem ov iv u) (λ_ s'=>∃ H',Inv X zt σ H' s'/\Q H') X.xe s
abbrev TIp:=V->V->Hp->VK->Prop
def PIp (X:Cx) (op:RN) (t:TIp):Prop :=
 ∀ (zt:List (Of×Obj)) (s:N4) (σ:St) (H:Hp) (x y:V) (v u:N1) (Q:VK),Inv X zt σ H s->RelV x v->RelV y u->t x y H Q →
  wpAny (Ow X.prog X.w) X.A (inplaceOp op v u) (EP X zt σ Q) X.xe s
section
def oZ (i:Nat):TG:=λv σ H Q=>Q (σ.set i (UA v)) H
theorem nq (hN:X.N.Nodup) (hi:X.N[i]?=UA x) (hx:Loc X.env.scope x) (hf:X.fn x=UC\/X.env.scope.names.lookup x=UA .local:=by first|exact .inl rfl|exact .inr rfl|assumption):PG X (.Name x pos) (oZ i):=by intro zt s σ H v u Q I r h;exact wpAny_assign_Name (kF I hN hi hx r (λs' I'=>⟨_,H,I',h⟩) hf)
def El:TGs:=λvs σ H Q=>vs=[]/\Q σ H
def DA (t:TG) (u:TGs):TGs:=λvs σ H Q=>∃ v r,vs=v::r/\t v σ H fun σ' H'=>u r σ' H' Q
theorem Az:PGs X [] El:=by intro zt s σ H vs us Q I r h;obtain ⟨e,h⟩:=h;subst e;cases r;exact assignInOrder_nil ⟨σ,H,I,h⟩
theorem o5 (h1:PG X e t) (h2:PGs X es u)
 (hs:(RL (e::es) X.env).map (·.2)=To e X.env::(RL es X.env).map (·.2):=by rfl):PGs X (e::es) (DA t u):=by
 intro zt s σ H vs us Q I r h;obtain ⟨v,vr,e1,h⟩:=h;subst e1;cases r with
 | cons r rr =>
  rw[hs];refine assignInOrder_cons (thn (h1 zt s σ H _ _ _ I r h) λ_ s1 zq=>?_);obtain ⟨σ1,H1,I1,q1⟩:=zq;exact h2 zt s1 σ1 H1 _ _ Q I1 rr q1
def Lo (K:NV) (n:Nat) (t:TGs):TG:=λv σ H Q=>∃ a xs,v=.ref a/\SqT K H a xs/\xs.length=n/\t xs σ H Q
theorem Em (hc:X.calm=UC) (h:PGs X es t)
 (hn:(RL es X.env).length=n:=by rfl) (hst:(RL es X.env).findIdx? (·.1)=UB:=by rfl):PG X (.Tuple es k pos) (Lo X.K n t):=by
 intro zt s σ H v u Q I r hw;obtain ⟨a,xs,e1,hq,hl,hw⟩:=hw;subst e1;cases r;obtain ⟨its,rv,ht,hz⟩:=I.tuple hq;refine assign_Tuple_tuple (I.ok.hd hc) ht (by simp[hn,← hl,rv.length]) hst λh' hx=>?_;have I1:Inv X zt σ H { s with heap:=h' }:=I.kept (t':=s.toks) λb o e=>hx b o (On (N6 e)) e;exact h zt _ σ H xs _ Q I1 (by simpa using rv) hw
def En (to ti:TE) (t:HL):TG:=λv σ H Q=>to σ H λo H1=>ti σ H1 λi H2=>t o i v H2 λH3=>Q σ H3
theorem wI (ho:PE X o to) (hi:PE X i ti) (hs:Ek X t)
 (ha:∀ v,To (.Subscript o i pos) X.env v=(do
  let ov ← holding [v] (eval o X.env)
  let iv ← holding [v,ov] (eval i X.env)
  standAt pos
  holding [v,ov,iv] (setItem ov iv v)
  release [v,ov,iv] []):=by intro _;rfl):PG X (.Subscript o i pos) (En to ti t):=by
 intro zt s σ H v u Q I r h;rw[ha];refine NZ (PB (thn (ho zt s σ H _ I h) λov s1 zq=>?_));obtain ⟨x,H1,I1,r1,q1⟩:=zq;refine NZ (PB (thn (hi zt s1 σ H1 _ I1 q1) λiv s2 zq=>?_));obtain ⟨y,H2,I2,r2,q2⟩:=zq;refine NZ (Ui (NZ (PB (thn (hs zt s2 σ H2 x y v ov iv u _ I2 r1 r2 r q2) λ_ s3 zq=>?_))));obtain ⟨H3,I3,q3⟩:=zq;exact wpAny_release ⟨σ,H3,I3,q3⟩
def uG (te:TE) (g:TG):TS:=λD σ H=>te σ H λx H1=>g x σ H1 D.nx
theorem wJ (he:PE X e te) (hg:PG X tg g) (hs:swapsWithSole [tg] e pos.line X.env=pure UD:=by rfl) (hw:swappedStores [tg] e X.env=pure UB:=by rfl)
 (h1:(RL [tg] X.env).map (·.2)=[To tg X.env]:=by rfl):PS X (.Assign [tg] e pos) (uG te g):=by
 intro zt s σ H D I h;refine wpAny_Assign_stores (thn (he zt s σ H _ I h) λv s1 ⟨x,H1,I1,r1,q1⟩=>?_) hs hw;rw[h1];exact thn (hg zt s1 σ H1 x v _ I1 r1 q1) λ_ s2 q=>q
theorem qL (hN:X.N.Nodup) (hi:X.N[i]?=UA x) (hx:Loc X.env.scope x) (he:PE X e te) (hs:QL e (UA (.Name x pos')) pos.line X.env=pure UD:=by rfl) (hf:X.fn x=UC\/X.env.scope.names.lookup x=UA .local:=by first|exact .inl rfl|exact .inr rfl|assumption) :
 PS X (.Assign [.Name x pos'] e pos) (uG te (oZ i)):=by
 intro zt s σ H D I h;refine wpAny_Assign_Name (thn (he zt s σ H _ I h) λv s1 ⟨y,H1,I1,r1,q1⟩=>?_) hs;exact kF I1 hN hi hx r1 (λs2 I2=>⟨_,H1,I2,q1⟩) hf
def HM (i:Nat) (te:TE) (ti:TIp):TS:=λD σ H=>∃ x,σ[i]?=UA (UA x)/\te σ H λy H1=>ti x y H1 λz H2=>D.nx (σ.set i (UA z)) H2
theorem Eo (hN:X.N.Nodup) (hi:X.N[i]?=UA x) (hx:Loc X.env.scope x) (he:PE X e te) (ho:PIp X op ti) (hf:X.fn x=UC\/X.env.scope.names.lookup x=UA .local:=by first|exact .inl rfl|exact .inr rfl|assumption) :
 PS X (.AugAssign (.Name x pos') op e pos) (HM i te ti):=by
 intro zt s σ H D I h;obtain ⟨v,e1,h⟩:=h;obtain ⟨m,hn,hl⟩:=I.loc;have vis:Vis X.env.scope x:=by rcases hx with k|k;exact .inl k;exact .inr (.inl k)
 obtain ⟨u,r,l⟩:=hl i x v hi e1 vis;refine wpAny_AugAssign_Name ?_;have go:wpAny (Ow X.prog X.w) X.A (eval e X.env) (λw s₂=>wpAny (Ow X.prog X.w) X.A (inplaceOp op u w) (λr s₃=>wpAny (Ow X.prog X.w) X.A (storeName X.env x r) (λ_=>SP X zt D .next) X.xe s₃) X.xe s₂) X.xe s:=by refine thn (he zt s σ H _ I h) λw s1 zq=>?_;obtain ⟨y,H1,I1,r1,q1⟩:=zq;refine thn (ho zt s1 σ H1 v y u w _ I1 r r1 q1) λz s2 zq=>?_;obtain ⟨zv,H2,I2,r2,q2⟩:=zq;exact kF I2 hN hi hx r2 (λs3 I3=>⟨_,H2,I3,q2⟩) hf
 rcases l with ⟨hk,hm⟩|⟨hk,c,hc,hcell⟩
 exact wpAny_loadName_local I.ok.kind hk hn hm go
 ·rcases hk with hk|hk
  exact wpAny_loadName_cell I.ok.kind hk hc hcell go
  ·rcases hx with k|k
   ·have:X.env.scope.names.lookup x=UA .free:=hk;rw[k] at this;cases this
   ·have:X.env.scope.names.lookup x=UA .free:=hk;rw[k] at this;cases this
end
section
def wK (c:TT) (tb:TS):TS:=λD σ H=>∃ W:Nat->St->Hp->Prop,(∃ m,W m σ H)/\∀ m σ H,W m σ H →
 c σ H λb H1=>if b=UC then ∃ N:St->Hp->Prop,(∀ σ' H',N σ' H'->∃ m',m' < m/\W m' σ' H')/\tb { D with nx:=N,ct:=N,bk:=D.nx } σ H1 else D.nx σ H1
theorem wL (hp:PassesOwn (Ow X.prog X.w) X.A X.env X.xe) (hc:PT X c tc) (hb:PSs X body tb):PS X (.While c body [] pos) (wK tc tb):=by
 intro zt s σ H D I h;obtain ⟨W,⟨m0,w0⟩,turn⟩:=h;refine wpAny_While (codeAny_whileLoop (λn s'=>∃ σ' H',Inv X zt σ' H' s'/\W n σ' H') ?_ m0 ⟨σ,H,I,w0⟩)
 rintro n s1 ⟨σ1,H1,I1,w1⟩
 refine PZ hp (thn (hc zt s1 σ1 H1 _ I1 (turn n σ1 H1 w1)) λb s2 zq=>?_);obtain ⟨H2,I2,q2⟩:=zq;cases b with
 | true =>
  obtain ⟨N,hN,q2⟩:=q2;rw[if_pos rfl];refine PZ hp (thn (hb zt s2 σ1 H2 _ I2 q2) λf s3 q3=>?_);cases f with
  | next =>
   obtain ⟨σ3,H3,I3,n3⟩:=q3;obtain ⟨m',hm,w3⟩:=hN σ3 H3 n3;exact ⟨m',hm,σ3,H3,I3,w3⟩
  | cont =>
   obtain ⟨σ3,H3,I3,n3⟩:=q3;obtain ⟨m',hm,w3⟩:=hN σ3 H3 n3;exact ⟨m',hm,σ3,H3,I3,w3⟩
  | _=>exact q3
 | false =>
  rw[if_neg PF];exact Rx ⟨σ1,H2,I2,q2⟩
end
structure It where
 go:Nat->Hp->Prop
 yld:Nat->Hp->V->Hp->Prop
 stop:Nat->Hp->Prop
def lS (X:Cx) (zt:List (Of×Obj)) (H:Hp) (b:Of):Prop :=
 H b=UB/\b≠X.env.locals/\b∉X.fs/\(b∈X.ex\/X.s₀.heap.objs.size<=b)/\(∀ x c,X.env.cells.lookup x=UA c->c≠b)/\∀ p∈X.pn++zt,p.1≠b
theorem Inv.wM (I:Inv X zt σ H s) (hb:s.heap.objs.size<=b) (hn:H' b=UB):lS X zt H' b:=by
 refine ⟨hn,PR (Ou I.lt hb),I.Li hb,.inr (OO I.sz hb),λx c e z=>?_,λp hp z=>?_⟩
 ·obtain ⟨v,q⟩:=I.cell x c e;exact absurd (Ou q.lt (by rw[z];exact hb)) (OJ _)
 exact absurd (Ou (N6 (I.pin p hp).1) (by rw[z];exact hb)) (OJ _)
structure Turn (P:Ot) (w:OR) (K:NV) (tg:Expr) (J:It) (fp:List Of) (it:Of) (tn:Nat->Heap->Prop):Prop where
 mem:it∈fp
 obj:∀ i h,tn i h->∀ b∈fp,∃ o,h.get? b=UA o/\∀ v,o.data≠.cell v
 keep:∀ i h h',tn i h->(∀ b∈fp,∀ o,h.get? b=UA o->h'.get? b=UA o)->tn i h'
 item:∀ (X:Cx),X.prog=P->X.w=w->X.K=K->X.calm=UC->∀ (i:Nat) (zt:List (Of×Obj)) (s:N4) (σ:St) (H:Hp) (E:N1->N4->Prop),Inv X zt σ H s->(∀ b∈fp,lS X zt H b)->tn i s.heap->J.go i H →
  wpAny (Ow P w) X.A (pyNext (.ref it)) (λr s1=>∃ u,r=UA u ∧
   wpAny (Ow P w) X.A (Rz tg (.ref it) u) (λ_ s2=>∃ x H',Inv X zt σ H' s2/\RelV x u/\J.yld i H x H'/\tn (i+1) s2.heap/\∀ b∈fp,H' b=UB) E s1) E s
 done:∀ (X:Cx),X.prog=P->X.w=w->X.K=K->X.calm=UC->∀ (i:Nat) (zt:List (Of×Obj)) (s:N4) (σ:St) (H:Hp) (E:N1->N4->Prop),Inv X zt σ H s->(∀ b∈fp,lS X zt H b)->tn i s.heap->J.stop i H →
  wpAny (Ow P w) X.A (pyNext (.ref it)) (λr s1=>r=UB/\Inv X zt σ H s1) E s
 self:∀ (A:PK) (i:Nat) (s:N4) (Q:N1->N4->Prop) (E:N1->N4->Prop),tn i s.heap->Q (.ref it) s->wpAny (Ow P w) A (pyIter (.ref it)) Q E s
abbrev TI:=St->Hp->(It->Hp->Prop)->Prop
def PIE (X:Cx) (zt:List (Of×Obj)) (σ:St) (tg:Expr) (R:It->Hp->Prop) (itv:N1) (s2:N4):Prop :=
 ∃ (it:Of) (fp:List Of) (tn:Nat->Heap->Prop) (J:It) (H':Hp),itv=.ref it/\Inv X zt σ H' s2/\Turn X.prog X.w X.K tg J fp it tn/\tn 0 s2.heap/\(∀ b∈fp,lS X zt H' b)/\R J H'
def PI (X:Cx) (tg iter:Expr) (wi:TI):Prop :=
 ∀ (zt:List (Of×Obj)) (s:N4) (σ:St) (H:Hp) (R:It->Hp->Prop),Inv X zt σ H s->wi σ H R →
  wpAny (Ow X.prog X.w) X.A (eval iter X.env) (λv s1=>wpAny (Ow X.prog X.w) X.A (pyIter v) (PIE X zt σ tg R) X.xe s1) X.xe s
theorem o6 {E:N1->N4->Prop} (ho:s.heap.get? it=UA o) (hc:o.cls=.type n) (hd:o.data=.fields vs)
 (hn:["enumerate","zip","dict_itemiterator","dict_reverseitemiterator","odict_iterator","itertools.zip_longest","itertools.pairwise"].contains n=UD) (hQ:Q () s):wpAny M A (Rz tg (.ref it) u) Q E s:=by
 unfold Rz;cases tg<;>first
  | exact wpAny_pure hQ
  | (cases u<;>first
   | exact wpAny_pure hQ
   | (refine NZ (RI ho ?_)
      rw[hc,hd];show wpAny M A (if (["enumerate","zip","dict_itemiterator","dict_reverseitemiterator","odict_iterator","itertools.zip_longest","itertools.pairwise"].contains n&&vs[0]?==UA (QM _))=UC then _ else _) Q E s;rw[if_neg (by intro h;rw[hn,Bool.false_and] at h;cases h)];exact wpAny_pure hQ))
noncomputable def Itl (K:NV) (a:Of):It :=
 ⟨λi H=>∃ xs x,SqL K H a xs/\xs[i]?=UA x,λi H x H'=>H'=H/\∀ xs,SqL K H a xs->xs[i]?=UA x,λi H=>∃ xs,SqL K H a xs/\xs.length<=i⟩
noncomputable def Itt (K:NV) (a:Of):It :=
 ⟨λi H=>∃ xs x,SqT K H a xs/\xs[i]?=UA x,λi H x H'=>H'=H/\∀ xs,SqT K H a xs->xs[i]?=UA x,λi H=>∃ xs,SqT K H a xs/\xs.length<=i⟩
noncomputable def Itr (lo:Int) (n:Nat):It:=⟨λi _=>i < n,λi H x H'=>H'=H/\x=.int (lo+i),λi _=>n<=i⟩
theorem uH {K:NV} (a it:Of):Turn P w K tg (Itl K a) [it] it (λi h=>h.IsListIter it a i) where
 mem:=by simp
 obj:=λi h st b hb=>by
  have e:b=it:=by simpa using hb
  subst e;obtain ⟨o,e,c,d⟩:=st;exact ⟨o,e,λv z=>by rw[d] at z;cases z⟩
 keep:=λi h h' st k=>st.at λo e=>k it (by simp) o e
 item:=by intro X hP hw hK hc i zt s σ H E I hf st hg;subst hP hw hK;obtain ⟨xs,x,hq,hx⟩:=hg;obtain ⟨its,rv,p,hz⟩:=I.list hq;obtain ⟨u,hu,ru⟩:=rv.get hx;obtain ⟨f0,f1,f2,f3,f4,f5⟩:=hf it (by simp);refine wpAny_pyNext_list_item st p.isList (x:=u) (by simpa using hu) λh' st' sb=>?_;have I1:Inv X zt σ H { s with heap:=h' }:=I.turned (t':=s.toks) (λb o hb e=>(sb.2 b hb).trans e) f0 f1 f3 f4 f5;obtain ⟨o,e,c,d⟩:=id st';exact ⟨u,rfl,o6 (s:={ s with heap:=h' }) e c d (by decide) ⟨x,H,I1,ru,⟨rfl,λys hy=>by rw[I.oW hy hq];exact hx⟩,st',λb hb=>(hf b hb).1⟩⟩
 done:=by intro X hP hw hK hc i zt s σ H E I hf st hg;subst hP hw hK;obtain ⟨xs,hq,hx⟩:=hg;obtain ⟨its,rv,p,hz⟩:=I.list hq;obtain ⟨f0,f1,f2,f3,f4,f5⟩:=hf it (by simp);have hl:=rv.length;exact wpAny_pyNext_list_end (I.ok.hd hc) st p.isList (by simp;lia) λh' eb=>⟨rfl,I.turned (t':=s.toks) (λb o hb e=>eb b o hb e) f0 f1 f3 f4 f5⟩
 self:=λ_ _ _ _ _ st h=>wpAny_pyIter_listiter st h
theorem qM {K:NV} (a it:Of):Turn P w K tg (Itt K a) [it] it (λi h=>h.IsTupleIter it a i) where
 mem:=by simp
 obj:=λi h st b hb=>by
  have e:b=it:=by simpa using hb
  subst e;obtain ⟨o,e,c,d⟩:=st;exact ⟨o,e,λv z=>by rw[d] at z;cases z⟩
 keep:=λi h h' st k=>st.at λo e=>k it (by simp) o e
 item:=by intro X hP hw hK hc i zt s σ H E I hf st hg;subst hP hw hK;obtain ⟨xs,x,hq,hx⟩:=hg;obtain ⟨its,rv,p,hz⟩:=I.tuple hq;obtain ⟨u,hu,ru⟩:=rv.get hx;obtain ⟨f0,f1,f2,f3,f4,f5⟩:=hf it (by simp);refine wpAny_pyNext_tuple_item st (show s.heap.IsTuple a its.toArray from p) (x:=u) (by simpa using hu) λh' st' sb=>?_;have I1:Inv X zt σ H { s with heap:=h' }:=I.turned (t':=s.toks) (λb o hb e=>(sb.2 b hb).trans e) f0 f1 f3 f4 f5;obtain ⟨o,e,c,d⟩:=id st';exact ⟨u,rfl,o6 (s:={ s with heap:=h' }) e c d (by decide) ⟨x,H,I1,ru,⟨rfl,λys hy=>by rw[I.uF hy hq];exact hx⟩,st',λb hb=>(hf b hb).1⟩⟩
 done:=by intro X hP hw hK hc i zt s σ H E I hf st hg;subst hP hw hK;obtain ⟨xs,hq,hx⟩:=hg;obtain ⟨its,rv,p,hz⟩:=I.tuple hq;obtain ⟨f0,f1,f2,f3,f4,f5⟩:=hf it (by simp);have hl:=rv.length;exact wpAny_pyNext_tuple_end (I.ok.hd hc) st (show s.heap.IsTuple a its.toArray from p) (by simp;lia) λh' eb=>⟨rfl,I.turned (t':=s.toks) (λb o hb e=>eb b o hb e) f0 f1 f3 f4 f5⟩
 self:=λ_ _ _ _ _ st h=>wpAny_pyIter_tupleiter st h
theorem qN {K:NV} (it:Of) (lo:Int) (n:Nat):Turn P w K tg (Itr lo n) [it] it (λi h=>IsRangeIter h it (lo+(i:Nat)*1) ((n:Int) - (i:Nat)) 1) where
 mem:=by simp
 obj:=λi h st b hb=>by
  have e:b=it:=by simpa using hb
  subst e;exact ⟨_,st,λv z=>by have z':Data.fields _=Data.cell v:=z;cases z'⟩
 keep:=λi h h' st k=>k it (by simp) _ st
 item:=by intro X hP hw hK hc i zt s σ H E I hf st hg;subst hP hw hK;obtain ⟨f0,f1,f2,f3,f4,f5⟩:=hf it (by simp);have W:=Walks.range (prog:=X.prog) (w:=X.w) (I.ok.hd hc) it lo 1 n;refine W.item i s _ _ hg st λv h' tk hv st' kk=>?_;obtain ⟨t,rfl⟩:=hv;have I1:Inv X zt σ H { s with heap:=h',toks:=tk }:=I.turned (λb o hb e=>kk b o (by simpa using hb) e) f0 f1 f3 f4 f5;refine ⟨_,rfl,o6 (s:={ s with heap:=h',toks:=tk }) (n:="range_iterator") st' rfl rfl (by decide) ⟨.int (lo+i),H,I1,⟨t,?_⟩,⟨rfl,rfl⟩,st',λb hb=>(hf b hb).1⟩⟩;rw[Int.mul_one]
 done:=by intro X hP hw hK hc i zt s σ H E I hf st hg;subst hP hw hK;obtain ⟨f0,f1,f2,f3,f4,f5⟩:=hf it (by simp);exact wpAny_pyNext_range_end (I.ok.hd hc) st (by have:n<=i:=hg;lia) λh' eb=>⟨rfl,I.turned (t':=s.toks) (λb o hb e=>eb b o hb e) f0 f1 f3 f4 f5⟩
 self:=λ_ _ _ _ _ st h=>wpAny_pyIter_rangeiter st h
end L2
namespace L2
open PySem PySem.Spec PyProof.Rows
section
def HN (K:NV) (tl:TE):TI:=fun σ H R=>tl σ H λx H1=>∃ a,x=.ref a/\(∃ xs,SqL K H1 a xs)/\R (Itl K a) H1
def Lp (K:NV) (tl:TE):TI:=fun σ H R=>tl σ H λx H1=>∃ a,x=.ref a/\(∃ xs,SqT K H1 a xs)/\R (Itt K a) H1
theorem sA (hl:PE X l tl):PI X tg l (HN X.K tl):=by
 intro zt s σ H R I h;refine thn (hl zt s σ H _ I h) λv s1 zq=>?_;obtain ⟨x,H1,I1,r1,q1⟩:=zq;obtain ⟨a,e,⟨xs,hq⟩,q⟩:=q1;subst e;cases r1;obtain ⟨its,rv,p,hz⟩:=I1.list hq;refine wpAny_pyIter_list p.isList ?_;refine ⟨s1.heap.objs.size,[s1.heap.objs.size],_,_,H1,rfl,I1.kept (t':=s1.toks) λb o e=>NW _ e,uH a _,⟨_,N8 _ rfl,rfl,rfl⟩,λb hb=>?_,q⟩;have e:b=s1.heap.objs.size:=by simpa using hb
 subst e;exact I1.wM (N3 _) (I1.hok.fresh (N3 _))
theorem Ep (hl:PE X l tl):PI X tg l (Lp X.K tl):=by
 intro zt s σ H R I h;refine thn (hl zt s σ H _ I h) λv s1 zq=>?_;obtain ⟨x,H1,I1,r1,q1⟩:=zq;obtain ⟨a,e,⟨xs,hq⟩,q⟩:=q1;subst e;cases r1;obtain ⟨its,rv,p,hz⟩:=I1.tuple hq;refine wpAny_pyIter_tuple (show s1.heap.IsTuple a its.toArray from p) ?_;refine ⟨s1.heap.objs.size,[s1.heap.objs.size],_,_,H1,rfl,I1.kept (t':=s1.toks) λb o e=>NW _ e,qM a _,⟨_,N8 _ rfl,rfl,rfl⟩,λb hb=>?_,q⟩;have e:b=s1.heap.objs.size:=by simpa using hb
 subst e;exact I1.wM (N3 _) (I1.hok.fresh (N3 _))
theorem o7 {E:N1->N4->Prop}{lo:Int} (I:Inv X zt σ H s) (h1:-(2 ^ 62)<=lo) (h2:lo < 2 ^ 62) (h3:-(2 ^ 62)<=hi) (h4:hi < 2 ^ 62)
 (q:R (Itr lo (hi - lo).toNat) H):wpAny (Ow X.prog X.w) X.A (pyIter (.ref s.heap.objs.size)) (PIE X zt σ tg R) E { s with heap:=s.heap.push { cls:=.type "range",data:=.fields #[.int lo t,.int hi u,.int 1 v] },toks:=tk }:=by
 refine wpAny_pyIter_range (IsRange.new ..) (small_one h1 h2 h3 h4) ?_;have I1:Inv X zt σ H { s with heap:=s.heap.push { cls:=.type "range",data:=.fields #[.int lo t,.int hi u,.int 1 v] },toks:=tk }:=I.kept λb o e=>NW _ e;refine ⟨(s.heap.push { cls:=.type "range",data:=.fields #[.int lo t,.int hi u,.int 1 v] }).objs.size,[(s.heap.push { cls:=.type "range",data:=.fields #[.int lo t,.int hi u,.int 1 v] }).objs.size],_,_,H,rfl,
  I1.kept (t':=tk) λb o e=>NW _ e,qN _ lo (hi - lo).toNat,?_,λb hb=>?_,q⟩
 ·have e1:lo+((0:Nat):Int)*1=lo:=by simp
  have e2:(((hi - lo).toNat:Nat):Int) - ((0:Nat):Int)=Builtin.Range.rangeSize lo hi 1:=by rw[rangeSize_one];split<;>lia
  show IsRangeIter _ _ (lo+((0:Nat):Int)*1) ((((hi - lo).toNat:Nat):Int) - ((0:Nat):Int)) 1;rw[e1,e2];exact N8 _ rfl
 ·have e:b=(s.heap.push { cls:=.type "range",data:=.fields #[.int lo t,.int hi u,.int 1 v] }).objs.size:=by simpa using hb
  subst e;exact I1.wM (N3 _) (I1.hok.fresh (N3 _))
def HP (ta:TA):TI:=fun σ H R=>ta σ H λvs H1=>∃ j:Int,vs=[.int j]/\-(2 ^ 62)<=j/\j < 2 ^ 62/\R (Itr 0 j.toNat) H1
def HQ (ta:TA):TI:=fun σ H R=>ta σ H λvs H1=>∃ i j:Int,vs=[.int i,.int j]/\(-(2 ^ 62)<=i/\i < 2 ^ 62/\-(2 ^ 62)<=j/\j < 2 ^ 62)/\R (Itr i (j - i).toNat) H1
theorem uI (hg:Gl X "range") (hm:X.mg "range"=UB) (ha:PA X [a] ta) (hs:OA [a] X.env=[(UD,eval a X.env)]:=by rfl):PI X tg (.Call (.Name "range" p) [a] [] pos) (HP ta):=by
 intro zt s σ H R I h;refine Call_ (dH I hg hm boot_range (OG (thn (ha pos zt s σ H _ I h) λus s1 ⟨vs,H1,I1,r1,q1⟩=>?_) hs rfl));obtain ⟨j,e,q1,q2,q⟩:=q1;subst e;cases r1 with
 | cons r rr =>
  cases rr;obtain ⟨t,rfl⟩:=r;exact call_range_1 (o7 I1 (by lia) (by lia) q1 q2 (by simpa using q))
theorem uJ (hg:Gl X "range") (hm:X.mg "range"=UB) (ha:PA X [a,b] ta) (hs:OA [a,b] X.env=[(UD,eval a X.env),(UD,eval b X.env)]:=by rfl) (hs2:OA [b] X.env=[(UD,eval b X.env)]:=by rfl) :
 PI X tg (.Call (.Name "range" p) [a,b] [] pos) (HQ ta):=by
 intro zt s σ H R I h;refine Call_ (dH I hg hm boot_range (OG (thn (ha pos zt s σ H _ I h) λus s1 ⟨vs,H1,I1,r1,q1⟩=>?_) (by rw[hs,hs2]) (by rw[hs2];rfl)));obtain ⟨i,j,e,⟨q1,q2,q3,q4⟩,q⟩:=q1;subst e;cases r1 with
 | cons r rr =>
  cases rr with
  | cons r' rr =>
   cases rr;obtain ⟨t,rfl⟩:=r;obtain ⟨t',rfl⟩:=r';exact call_range_2 (o7 I1 q1 q2 q3 q4 q)
def HR (wi:TI) (g:TG) (tb:TS):TS:=λD σ H=>wi σ H λJ H1=>∃ W:Nat->Nat->St->Hp->Prop,(∃ m,W 0 m σ H1)/\∀ i m σ H,W i m σ H →
 (J.stop i H/\D.nx σ H)\/(J.go i H/\∃ N:St->Hp->Prop,(∀ σ' H',N σ' H'->∃ m',m' < m/\W (i+1) m' σ' H')/\∀ x H',J.yld i H x H'->g x σ H' fun σ2 H2=>tb { D with nx:=N,ct:=N,bk:=D.nx } σ2 H2)
noncomputable def jq (fp:List Of) (h:Heap):List (Of×Obj):=fp.filterMap λb=>(h.get? b).map λo=>(b,o)
theorem fB (hb:b∈fp) (e:h.get? b=UA o):(b,o)∈jq fp h:=List.mem_filterMap.mpr ⟨b,hb,by rw[e];rfl⟩
theorem uK (hp:p∈jq fp h):p.1∈fp/\h.get? p.1=UA p.2:=by
 obtain ⟨b,hb,e⟩:=List.mem_filterMap.mp hp;cases q:h.get? b with
 | none=>rw[q] at e;cases e
 | some o =>
  rw[q] at e;have e':(b,o)=p:=Ob e;subst e';exact ⟨hb,q⟩
theorem Inv.pinned (I:Inv X zt σ H s) (hf:∀ b∈fp,lS X zt H b) (ho:∀ b∈fp,∃ o,s.heap.get? b=UA o/\∀ v,o.data≠.cell v):Inv X (zt++jq fp s.heap) σ H s :=
 I.j9 λp hp=>(List.mem_append.mp hp).elim (λz=>I.pin p (Oz _ z)) λz=>by obtain ⟨hb,e⟩:=uK z;obtain ⟨f0,f1,f2,_⟩:=hf p.1 hb;obtain ⟨o,e',d⟩:=ho p.1 hb;rw[e] at e';cases e';exact ⟨e,f0,f1,f2,d⟩
theorem Inv.iN (I:Inv X (zt++pl) σ H s):Inv X zt σ H s:=I.j9 λp hp=>I.pin p (Oz _ (Pq _ hp))
theorem Er {wi:TI} (hp:PassesOwn (Ow X.prog X.w) X.A X.env X.xe) (hc:X.calm=UC) (hi:PI X tg iter wi) (hg:PG X tg g) (hb:PSs X body tb)
 (hs:∀ x,foldedSetIterable iter X.env x=pure x:=by intro _;rfl):PS X (.For tg iter body [] pos) (HR wi g tb):=by
 intro zt s σ H D I h;refine wpAny_For (thn (hi zt s σ H _ I h) λv s1 h1=>thn h1 λitv s2 h2=>?_) hs;obtain ⟨it,fp,tn,J,H2,e,I2,T,st2,f2,W,⟨m0,w0⟩,turn⟩:=h2;subst e;have stat:∀ {H':Hp},(∀ b∈fp,H' b=UB)->∀ b∈fp,lS X zt H' b:=λhn b hb=>⟨hn b hb,(f2 b hb).2⟩;refine codeAny_forLoop_any (λn s'=>∃ i σ' H',Inv X zt σ' H' s'/\tn i s'.heap/\(∀ b∈fp,H' b=UB)/\W i n σ' H') ?_ m0 ⟨0,σ,H2,I2,st2,λb hb=>(f2 b hb).1,w0⟩
 rintro n s3 ⟨i,σ3,H3,I3,st3,fr3,w3⟩
 rcases turn i n σ3 H3 w3 with ⟨stop,qn⟩|⟨go,N,hN,step⟩
 ·refine PZ hp (thn (T.done X rfl rfl rfl hc i zt s3 σ3 H3 X.xe I3 (stat fr3) st3 stop) λr s4 zq=>?_);obtain ⟨hr,I4⟩:=zq;subst hr;exact Rx ⟨σ3,H3,I4,qn⟩
 ·refine PZ hp (thn (T.item X rfl rfl rfl hc i zt s3 σ3 H3 X.xe I3 (stat fr3) st3 go) λr s4 zq=>?_);obtain ⟨u,hr,h4⟩:=zq;subst hr;refine PZ hp (thn h4 λ_ s5 zq=>?_);obtain ⟨x,H5,I5,r5,y5,st5,fr5⟩:=zq;have I5':=I5.pinned (stat fr5) (T.obj _ _ st5);refine PZ hp (thn (hg _ s5 σ3 H5 x u _ I5' r5 (step x H5 y5)) λ_ s6 zq=>?_);obtain ⟨σ6,H6,I6,q6⟩:=zq;refine PZ hp (thn (hb _ s6 σ6 H6 _ I6 q6) λf s7 q7=>?_);have again:∀ {σ7:St}{H7:Hp},Inv X (zt++jq fp s5.heap) σ7 H7 s7->N σ7 H7->∃ m,m < n/\∃ i σ' H',Inv X zt σ' H' s7/\tn i s7.heap/\(∀ b∈fp,H' b=UB)/\W i m σ' H':=λ{σ7 H7} I7 n7=>by obtain ⟨m',hm,w7⟩:=hN σ7 H7 n7;refine ⟨m',hm,i+1,σ7,H7,I7.iN,T.keep _ _ _ st5 λb hb o e=>(I7.pin (b,o) (Oz _ (Oz _ (fB hb e)))).1,λb hb=>?_,w7⟩;obtain ⟨o,e,d⟩:=T.obj _ _ st5 b hb;exact (I7.pin (b,o) (Oz _ (Oz _ (fB hb e)))).2.1
  cases f with
  | brk=>obtain ⟨σ7,H7,I7,q7⟩:=q7;exact ⟨σ7,H7,I7.iN,q7⟩| ret v=>obtain ⟨x7,σ7,H7,I7,r7,q7⟩:=q7;exact ⟨x7,σ7,H7,I7.iN,r7,q7⟩| _=>obtain ⟨σ7,H7,I7,n7⟩:=q7;exact again I7 n7
end
end L2
namespace L2
open PySem PySem.Spec PyProof.Rows
abbrev R2:=V->V->Hp->VK->Prop
def OpR (X:Cx) (f:N1->N1->Sem N1) (r:R2):Prop :=
 ∀ (zt:List (Of×Obj)) (s:N4) (σ:St) (H:Hp) (x y:V) (v u:N1) (Q:VK),Inv X zt σ H s->RelV x v->RelV y u->r x y H Q →
  wpAny (Ow X.prog X.w) X.A (f v u) (EP X zt σ Q) X.xe s
def UnR (X:Cx) (f:N1->Sem N1) (r:V->Hp->VK->Prop):Prop :=
 ∀ (zt:List (Of×Obj)) (s:N4) (σ:St) (H:Hp) (x:V) (v:N1) (Q:VK),Inv X zt σ H s->RelV x v->r x H Q →
  wpAny (Ow X.prog X.w) X.A (f v) (EP X zt σ Q) X.xe s
def cF (X:Cx) (f:N1) (r:List V->Hp->VK->Prop):Prop :=
 ∀ (zt:List (Of×Obj)) (s:N4) (σ:St) (H:Hp) (xs:List V) (us:List N1) (Q:VK),Inv X zt σ H s->ao xs us->r xs H Q →
  wpAny (Ow X.prog X.w) X.A (call f us) (EP X zt σ Q) X.xe s
def tOp (r:R2) (ta tb:TE):TE:=fun σ H Q=>ta σ H λx H1=>tb σ H1 λy H2=>r x y H2 Q
def tUn (r:V->Hp->VK->Prop) (ta:TE):TE:=fun σ H Q=>ta σ H λx H1=>r x H1 Q
def rI (C:Int->Int->Prop) (g:Int->Int->V):R2:=λx y H Q=>∃ i j,x=.int i/\y=.int j/\C i j/\Q (g i j) H
def rI0 (g:Int->Int->V):R2:=λx y H Q=>∃ i j,x=.int i/\y=.int j/\Q (g i j) H
def rU (g:Int->V):V->Hp->VK->Prop:=λx H Q=>∃ i,x=.int i/\Q (g i) H
section
theorem Et (ha:PE X a ta) (hb:PE X b tb) {zt:List (Of×Obj)}{s:N4}{σ:St}{H:Hp}{R:V->V->Hp->Prop} (I:Inv X zt σ H s)
 (h:ta σ H λx H1=>tb σ H1 λy H2=>R x y H2) {Q:N1->N4->Prop}{f:N1->N1->Sem N1}
 (hf:∀ v u s2 x y H2,Inv X zt σ H2 s2->RelV x v->RelV y u->R x y H2->wpAny (Ow X.prog X.w) X.A (f v u) Q X.xe s2) :
 wpAny (Ow X.prog X.w) X.A (eval a X.env) (λv s₁=>wpAny (Ow X.prog X.w) X.A (eval b X.env) (λu s₂=>wpAny (Ow X.prog X.w) X.A (f v u) Q X.xe s₂) X.xe s₁) X.xe s:=by
 refine thn (ha zt s σ H _ I h) λv s1 zq=>?_;obtain ⟨x,H1,I1,r1,q1⟩:=zq;refine thn (hb zt s1 σ H1 _ I1 q1) λu s2 zq=>?_;obtain ⟨y,H2,I2,r2,q2⟩:=zq;exact hf v u s2 x y H2 I2 r1 r2 q2
theorem HS {op:RN}{r:R2} (ho:OpR X (Pa op) r) (ha:PE X a ta) (hb:PE X b tb):PE X (.BinOp a op b pos) (tOp r ta tb):=by intro zt s σ H Q I h;exact wpAny_BinOp (Et ha hb I h λv u s2 x y H2 I2 rx ry q=>ho zt s2 σ H2 x y v u Q I2 rx ry q)
theorem DB (ho:UnR X (unaryOp op) r) (ha:PE X a ta):PE X (.UnaryOp op a pos) (tUn r ta):=by intro zt s σ H Q I h;exact UnaryOp_ (thn (ha zt s σ H _ I h) λv s1 ⟨x,H1,I1,r1,q1⟩=>ho zt s1 σ H1 x v Q I1 r1 q1)
theorem opI {f:N1->N1->Sem N1}{C:Int->Int->Prop}{g:Int->Int->Int}
 (rule:∀ (i j:Int) (t u:Tok) (s:N4) (Q:N1->N4->Prop) (E:N1->N4->Prop),C i j->Q (.int (g i j) s.toks) { s with toks:=s.toks+1 }->wpAny (Ow X.prog X.w) X.A (f (.int i t) (.int j u)) Q E s) :
 OpR X f (rI C λi j=>.int (g i j)):=by
 intro zt s σ H x y v u Q I rx ry h;obtain ⟨i,j,rfl,rfl,hc,q⟩:=h;obtain ⟨t,rfl⟩:=rx;obtain ⟨t',rfl⟩:=ry;exact rule i j t t' s _ _ hc ⟨.int (g i j),H,I.tok _,⟨_,rfl⟩,q⟩
theorem HU {f:N1->N1->Sem N1}{g:Int->Int->Int}
 (rule:∀ (i j:Int) (t u:Tok) (s:N4) (Q:N1->N4->Prop) (E:N1->N4->Prop),Q (.int (g i j) s.toks) { s with toks:=s.toks+1 }->wpAny (Ow X.prog X.w) X.A (f (.int i t) (.int j u)) Q E s) :
 OpR X f (rI0 λi j=>.int (g i j)):=by
 intro zt s σ H x y v u Q I rx ry h;obtain ⟨i,j,rfl,rfl,q⟩:=h;obtain ⟨t,rfl⟩:=rx;obtain ⟨t',rfl⟩:=ry;exact rule i j t t' s _ _ ⟨.int (g i j),H,I.tok _,⟨_,rfl⟩,q⟩
theorem AA {f:N1->N1->Sem N1}{g:Int->Int->Bool}
 (rule:∀ (i j:Int) (t u:Tok) (s:N4) (Q:N1->N4->Prop) (E:N1->N4->Prop),Q (.bool (g i j)) s->wpAny (Ow X.prog X.w) X.A (f (.int i t) (.int j u)) Q E s) :
 OpR X f (rI0 λi j=>.bl (g i j)):=by
 intro zt s σ H x y v u Q I rx ry h;obtain ⟨i,j,rfl,rfl,q⟩:=h;obtain ⟨t,rfl⟩:=rx;obtain ⟨t',rfl⟩:=ry;exact rule i j t t' s _ _ ⟨.bl (g i j),H,I,rfl,q⟩
def Lq (i j:Int):Prop:=0 < j/\j < 1073741824
def Lr (i j:Int):Prop:=0<=j/\j<=1000000/\i.natAbs < 2 ^ 64
def AB (i j:Int):Prop:=(-(2 ^ 64) < i/\i < 2 ^ 64)\/(-(2 ^ 64) < j/\j < 2 ^ 64)
theorem AB.ok (h:AB i j):IntMulOk i j:=by
 rcases h with ⟨h1,h2⟩|⟨h1,h2⟩
 exact .of_left (intBits_le_64 h1 h2);exact .of_right (intBits_le_64 h1 h2)
theorem Eu:OpR X (Pa .Add) (rI0 λi j=>.int (i+j)):=HU λ_ _ _ _ _ _ _ q=>add_int q
theorem Ew:OpR X (Pa .Sub) (rI0 λi j=>.int (i - j)):=HU λ_ _ _ _ _ _ _ q=>sub_int q
theorem Ex:OpR X (Pa .Mult) (rI AB λi j=>.int (i*j)):=opI λ_ _ _ _ _ _ _ hc q=>mul_int q hc.ok
theorem AC:OpR X (Pa .FloorDiv) (rI Lq λi j=>.int (i / j)):=opI λi j _ _ _ _ _ hc q=>by have h1:(0:Int) < j:=hc.1;have h2:j < 1073741824:=hc.2;exact floordiv_int (by lia) (by rw[Int.fdiv_eq_ediv_of_nonneg i (by lia)];exact q) (.inl (PyProof.noPylong_small (by lia)))
theorem Ey:OpR X (Pa .Mod) (rI (λ_ j=>0 < j) λi j=>.int (i % j)):=opI λi j _ _ _ _ _ hc q=>by have h1:(0:Int) < j:=hc;exact mod_int' (by lia) (by rw[Int.fmod_eq_emod_of_nonneg i (by lia)];exact q)
theorem Ez:OpR X (Pa .Pow) (rI Lr λi j=>.int (i ^ j.toNat)):=opI λ_ _ _ _ _ _ _ hc q=>pow_int_small hc.1 hc.2.1 hc.2.2 q
theorem unI {f:N1->Sem N1}{g:Int->Int}
 (rule:∀ (i:Int) (t:Tok) (s:N4) (Q:N1->N4->Prop) (E:N1->N4->Prop),Q (.int (g i) s.toks) { s with toks:=s.toks+1 }->wpAny (Ow X.prog X.w) X.A (f (.int i t)) Q E s) :
 UnR X f (rU λi=>.int (g i)):=by
 intro zt s σ H x v Q I rx h;obtain ⟨i,rfl,q⟩:=h;obtain ⟨t,rfl⟩:=rx;exact rule i t s _ _ ⟨.int (g i),H,I.tok _,⟨_,rfl⟩,q⟩
theorem wN:UnR X (unaryOp .USub) (rU λi=>.int (-i)):=unI λ_ _ _ _ _ q=>neg_int q
end
section
theorem wO (I:Inv X zt σ H s) (q:Q (.bl k) H) (e:k=k'):EP X zt σ Q (.bool k') s:=by subst e;exact ⟨.bl k,H,I,rfl,q⟩
theorem HV:OpR X (OQ .Lt) (rI0 λi j=>.bl (decide (i < j))):=AA λ_ _ _ _ _ _ _ q=>lt_int q
theorem HW:OpR X (OQ .LtE) (rI0 λi j=>.bl (decide (i<=j))):=AA λ_ _ _ _ _ _ _ q=>le_int q
theorem HX:OpR X (OQ .Gt) (rI0 λi j=>.bl (decide (j < i))):=AA λ_ _ _ _ _ _ _ q=>gt_int q
theorem HY:OpR X (OQ .GtE) (rI0 λi j=>.bl (decide (j<=i))):=AA λ_ _ _ _ _ _ _ q=>ge_int q
theorem EA:OpR X (OQ .Is) (λx y H Q=>y=.non/\Q (.bl (decide (x=.non))) H):=by
 intro zt s σ H x y v u Q I rx ry h;obtain ⟨rfl,q⟩:=h;cases ry;refine is_none_gen (wO I q ?_);cases x<;>first
  | (cases rx;rfl)
  | (obtain ⟨t,rfl⟩:=rx;rfl)
theorem AD:OpR X (OQ .IsNot) (λx y H Q=>y=.non/\Q (.bl (!decide (x=.non))) H):=by
 intro zt s σ H x y v u Q I rx ry h;obtain ⟨rfl,q⟩:=h;cases ry;refine isnot_none_gen (wO I q ?_);cases x<;>first
  | (cases rx;rfl)
  | (obtain ⟨t,rfl⟩:=rx;rfl)
theorem AE {op:CmpOp}{r:R2} (ho:OpR X (OQ op) r) (ha:PE X a ta) (hb:PE X b tb) (hm:Sk op b=UD):PE X (.Compare a [op] [b] pos) (tOp r ta tb):=by intro zt s σ H Q I h;exact wpAny_Compare1 (Et ha hb I h λv u s2 x y H2 I2 rx ry q=>ho zt s2 σ H2 x y v u Q I2 rx ry q) hm
def wQ (t:TE):TT:=fun σ H Q=>t σ H λx H'=>∃ k,x=.bl k/\Q k H'
theorem AF (ho:OpR X (OQ op) r) (ha:PE X a ta) (hb:PE X b tb) (hm:Sk op b=UD):PT X (.Compare a [op] [b] pos) (wQ (tOp r ta tb)):=by
 intro zt s σ H Q I h;refine wpAny_isTrue_Compare1 (thn (ha zt s σ H _ I h) λv s1 ⟨x,H1,I1,r1,q1⟩=>thn (hb zt s1 σ H1 _ I1 q1) λu s2 ⟨y,H2,I2,r2,q2⟩ =>
  thn (ho zt s2 σ H2 x y v u _ I2 r1 r2 q2) λc s3 ⟨z,H3,I3,r3,k,e,q3⟩=>?_) hm
 subst e;cases r3;exact O7 ⟨H3,I3,q3⟩
def qO (r r':R2) (ta tb tc:TE):TE:=fun σ H Q=>ta σ H λx H1=>tb σ H1 λy H2=>r x y H2 λz H3=>∃ k,z=.bl k ∧
 (if k=UC then tc σ H3 λw' H4=>r' y w' H4 Q else Q (.bl UD) H3)
theorem wR (ho:OpR X (OQ op) r) (ho':OpR X (OQ op') r') (ha:PE X a ta) (hb:PE X b tb) (hc:PE X c tc)
 (hm:lastMarks [op,op'] [b,c]=UD:=by with_unfolding_all rfl):PE X (.Compare a [op,op'] [b,c] pos) (qO r r' ta tb tc):=by
 intro zt s σ H Q I h;refine Compare_chain (thn (ha zt s σ H _ I h) λv s1 ⟨x,H1,I1,r1,q1⟩=>chain_link (thn (hb zt s1 σ H1 _ I1 q1) λu s2 ⟨y,H2,I2,r2,q2⟩ =>
  thn (ho zt s2 σ H2 x y v u _ I2 r1 r2 q2) λd s3 ⟨z,H3,I3,r3,k,e,q3⟩=>?_)) hm
 subst e;cases r3;refine O7 ?_;cases k with
 | false=>exact ite_ff ⟨.bl UD,H3,I3,rfl,q3⟩| true=>exact ite_tt (chain_last (thn (hc zt s3 σ H3 _ I3 q3) λw' s4 ⟨z',H4,I4,r4,q4⟩=>ho' zt s4 σ H4 y z' u w' Q I4 r2 r4 q4))
theorem wU (ho:OpR X (OQ op) r) (ho':OpR X (OQ op') r') (ha:PE X a ta) (hb:PE X b tb) (hc:PE X c tc)
 (hm:lastMarks [op,op'] [b,c]=UD:=by with_unfolding_all rfl):PT X (.Compare a [op,op'] [b,c] pos) (wQ (qO r r' ta tb tc)):=by
 intro zt s σ H Q I h;refine isTrue_chain (thn (ha zt s σ H _ I h) λv s1 ⟨x,H1,I1,r1,q1⟩=>test_link (thn (hb zt s1 σ H1 _ I1 q1) λu s2 ⟨y,H2,I2,r2,q2⟩ =>
  thn (ho zt s2 σ H2 x y v u _ I2 r1 r2 q2) λd s3 ⟨z,H3,I3,r3,k,e,q3⟩=>?_)) hm
 subst e;cases r3;refine O7 ?_;cases k with
 | false =>
  obtain ⟨k',e',q'⟩:=q3;cases e';exact ite_ff ⟨H3,I3,q'⟩
 | true =>
  refine ite_tt (test_last (thn (hc zt s3 σ H3 _ I3 q3) λw' s4 ⟨z',H4,I4,r4,q4⟩=>thn (ho' zt s4 σ H4 y z' u w' _ I4 r2 r4 q4) λd' s5 zq=>?_));obtain ⟨z2,H5,I5,r5,k2,e2,q5⟩:=zq;subst e2;cases r5;exact O7 ⟨H5,I5,q5⟩
theorem jr:(sizeLine:Nat) < 2 ^ 63:=by rw[Tj];decide
theorem qP:OpR X (Pa .Add) (λx y H Q=>∃ i j,x=.str i/\y=.str j/\i.length+j.length<=sizeLine/\Q (.str (i++j)) H):=by intro zt s σ H x y v u Q I rx ry h;obtain ⟨i,j,rfl,rfl,hz,q⟩:=h;obtain ⟨t,rfl⟩:=rx;obtain ⟨t',rfl⟩:=ry;exact add_str (λt' tk=>⟨.str (i++j),H,I.tok _,⟨_,rfl⟩,q⟩) hz
theorem vals1 (r:ao [x] us):∃ u,us=[u]/\RelV x u:=by
 cases r with
 | cons r1 r2=>cases r2;exact ⟨_,rfl,r1⟩
theorem vals2 (r:ao [x,y] us):∃ u w',us=[u,w']/\RelV x u/\RelV y w':=by
 cases r with
 | cons r1 r2 =>
  cases r2 with
  | cons r3 r4=>cases r4;exact ⟨_,_,rfl,r1,r3⟩
theorem wV:cF X (.builtin "abs") (λxs H Q=>∃ i,xs=[.int i]/\Q (.int (if i < 0 then -i else i)) H):=by intro zt s σ H xs us Q I r h;obtain ⟨i,rfl,q⟩:=h;obtain ⟨u,rfl,t,rfl⟩:=vals1 r;exact call_abs_int λu tk=>⟨.int (if i < 0 then -i else i),H,I.tok _,⟨_,rfl⟩,q⟩
theorem uL (hc:X.calm=UC):cF X (.builtin "max") (λxs H Q=>∃ i j,xs=[.int i,.int j]/\Q (.int (if j > i then j else i)) H):=by
 intro zt s σ H xs us Q I r h;obtain ⟨i,j,rfl,q⟩:=h;obtain ⟨u,w',rfl,⟨t,rfl⟩,⟨t',rfl⟩⟩:=vals2 r;refine max_two_ints (I.ok.hd hc) λh' tk k=>⟨_,H,I.kept k,?_,q⟩
 by_cases hj:j > i
 rw[if_pos hj,if_pos hj];exact ⟨_,rfl⟩;rw[if_neg hj,if_neg hj];exact ⟨_,rfl⟩
theorem uM (hc:X.calm=UC):cF X (.builtin "min") (λxs H Q=>∃ i j,xs=[.int i,.int j]/\Q (.int (if j < i then j else i)) H):=by
 intro zt s σ H xs us Q I r h;obtain ⟨i,j,rfl,q⟩:=h;obtain ⟨u,w',rfl,⟨t,rfl⟩,⟨t',rfl⟩⟩:=vals2 r;refine min_two_ints (I.ok.hd hc) λh' tk k=>⟨_,H,I.kept k,?_,q⟩
 by_cases hj:j < i
 rw[if_pos hj,if_pos hj];exact ⟨_,rfl⟩;rw[if_neg hj,if_neg hj];exact ⟨_,rfl⟩
theorem mJ:cF X (.type "int") (λxs H Q=>(∃ i,xs=[.int i]/\Q (.int i) H)\/∃ k,xs=[.bl k]/\Q (.int (if k then 1 else 0)) H):=by
 intro zt s σ H xs us Q I r h;rcases h with ⟨i,rfl,q⟩|⟨k,rfl,q⟩
 ·obtain ⟨u,rfl,t,rfl⟩:=vals1 r;exact call_int_int ⟨.int i,H,I,⟨_,rfl⟩,q⟩
 ·obtain ⟨u,rfl,r1⟩:=vals1 r;cases r1;exact call_int_bool ⟨.int (if k then 1 else 0),H,I.tok _,⟨_,rfl⟩,q⟩
end
end L2
namespace L2
open PySem PySem.Spec PyProof.Rows
structure qQ (h:Heap) (x dx C:Of) (mA:Str->Option N1):Prop where
 obj:h.get? x=UA (Po C dx)
 ns:h.Ns1 dx mA
 ne:dx≠x
theorem uN {h:Heap}{dx:Of}{mA:Str->Option N1} (n:h.Ns1 dx mA):∃ od,h.get? dx=UA od/\∀ name,Q8 name od=UA (mA name):=by
 obtain ⟨o,es,ep,ho,hd,hk,_,hm⟩:=n;refine ⟨o,ho,λname=>?_⟩;have e:=hm name;unfold nsFind findBy at e;rw[← Array.find?_toList] at e;unfold Q8;rw[hd];dsimp only;split
 ·rename_i y q;rw[q] at e;exact congrArg UA e
 ·rename_i q;rw[q] at e;have a:es.toList.any (·.refKey)=UD:=by rw[List.any_eq_false];intro y hy;obtain ⟨z,t,hkey⟩:=hk y (Array.mem_toList_iff.mp hy);simp[DictEntry.refKey,hkey]
  have a':¬ es.toList.any (·.refKey)=UC:=by rw[a];exact PF
  rw[if_neg a'];exact congrArg UA e
theorem qQ.look (I:qQ h x dx C mA):∃ od,PySem.W.InstAt h x (Po C dx) C (UA od)/\∀ name,Q8 name od=UA (mA name) :=
 let ⟨od,ho,hl⟩:=uN I.ns
 ⟨od,⟨I.obj,rfl,rfl,ho⟩,hl⟩
section
variable {E:N1->N4->Prop}{K:NV}
theorem get_map (X:K.In s.heap) (I:qQ s.heap x dx C mA) (hg:Qo K C name=UC) (hh:PJ K C=UC)
 (ha:OB K (.ref C) name=UA UB) (hv:mA name=UA v) (hv':T9 v=UC) (h:Q v { s with toks:=s.toks+1 }) :
 wpAny (Ow prog w) A (getAttr (.ref x) name expr) Q E s:=by
 obtain ⟨od,J,hl⟩:=I.look;exact PySem.W.get_value X J (Rh hg).1 (PySem.W.findObj_own hh ha rfl (by rw[hl,hv])) hv' h
theorem wW (X:K.In s.heap) (I:qQ s.heap x dx C mA) (hg:Qo K C name=UC)
 (hf:OB K (.ref C) name=UA (UA (.ref f))) (ht:RM K (.ref f)=UC) (hv:mA name=UB) (h:Q (.ref f,[.ref x]) s) :
 wpAny (Ow prog w) A (Sj (.ref x) name pl) Q E s:=by
 obtain ⟨od,J,hl⟩:=I.look;exact PySem.W.method_fn X J (Rh hg).1 (Rh hg).2 hf (beq_iff_eq.mp ht) (by show (Q8 name od).map (·.isSome)=UA UD;rw[hl,hv];rfl) h
theorem AG (X:K.In s.heap) (I:qQ s.heap x dx C mA)
 (hs:OB K (.ref C) "__setattr__"=UA (UA (.builtin "object.__setattr__"))) (hp:RE K C=UC) (ht:R8 K C name=UA UB) (hh:PJ K C=UC)
 (hw:Tt mA ns) (hsz:ns.length<=sizeLine)
 (h:∀ h',qQ h' x dx C (λy=>if y=name then UA v else mA y)->Qt dx s.heap h'->Q () { s with heap:=h',toks:=s.toks+2 }) :
 wpAny (Ow prog w) A (setAttr (.ref x) name v) Q E s:=by
 obtain ⟨od,J,hl⟩:=I.look;refine PySem.W.set_plain X J hs (PySem.W.osa_open (s:={ s with toks:=s.toks+1 }) (r:=UB) X J hp ht λb=>?_);obtain ⟨cd,hc,hd'⟩:=PySem.W.any_some hh;have hx:s.heap.get? x=UA ⟨.ref C,UA dx,.plain,#[]⟩:=I.obj;refine NZ (wpAny_pure (NZ (NZ (wpAny_loadPart hx (NZ (PySem.W.Looks.here (s:={ s with toks:=s.toks+1 }) (PySem.W.looks_clsIn X hc) ?_))))));rw[hd'];refine wpAny_pure (a:=UA dx) (NZ (wpAny_pure (NZ ?_)));refine wpAny_nsSet1 (s:={ s with toks:=s.toks+1 }) I.ns λh' hn2 hs2=>?_;obtain ⟨oD,esD,epD,hoD,hdD,hcD⟩:=hn2.count (PySem.Within.cons name v hw);refine NZ (wpAny_lookBehind hoD (by rw[hdD];exact pastItsLine_dict (OO hcD (by rw[Oq];lia))) ?_);exact wpAny_pure (h _ ⟨(hs2.2 _ (Pb I.ne)).trans I.obj,hn2,I.ne⟩ hs2)
theorem wX (X:K.In s.heap) (hm:Sa K C=UC)
 (hi:OB K (.ref C) "__init__"=UA (UA (.ref f))) (hf:PySem.W.typeIn K (.ref f)=UA (.type "function"))
 (h:codeAny (Ow prog w) (A.under (.builtin "type.__call__" ⟨.ref C::vs,kw⟩)) (.call (.ref f) ⟨.ref (s.heap.objs.size+1)::vs,kw⟩) (PySem.W.InitBack (s.heap.objs.size+1) R)
  { s with heap:=(s.heap.push O1).push (Po C s.heap.objs.size) }) :
 codeAny (Ow prog w) A (.call (.ref C) ⟨vs,kw⟩) R s:=by
 obtain ⟨hh,g,d,t,os⟩:=s;exact PySem.W.make_core (PySem.W.makes_of X hm) (PySem.W.looks_findIn X hi) (λself=>PySem.W.bind_fn X self hf) (.inl rfl) h
end
noncomputable def bf (f:Str) (v:V):List (Str×V)->List (Str×V)
 | []=>[(f,v)]
 | (g,x)::r=>if g=f then (g,v)::r else (g,x)::bf f v r
theorem jO (f g:Str) (v:V):∀ fs:List (Str×V),(bf f v fs).lookup g=if g=f then UA v else fs.lookup g
 | []=>by
  show P4 g [(f,v)]=_
  by_cases h:g=f
  ·have hb:(g==f)=UC:=beq_iff_eq.mpr h;simp only[P4,hb,if_pos h]
  ·have hb:(g==f)=UD:=beq_eq_false_iff_ne.mpr h;simp only[P4,hb,if_neg h]
 | (k,x)::r=>by
  have ih:=jO f g v r;rw[show bf f v ((k,x)::r)=(if k=f then (k,v)::r else (k,x)::bf f v r) from rfl]
  by_cases hk:k=f
  ·rw[if_pos hk]
   by_cases h:g=k
   ·have hb:(g==k)=UC:=beq_iff_eq.mpr h;simp only[P4,hb,if_pos (h.trans hk)]
   ·have hb:(g==k)=UD:=beq_eq_false_iff_ne.mpr h;simp only[P4,hb,if_neg (λe:g=f=>h (e.trans hk.symm))]
  ·rw[if_neg hk]
   by_cases h:g=k
   ·have hb:(g==k)=UC:=beq_iff_eq.mpr h;simp only[P4,hb,if_neg (λe:g=f=>hk (h.symm.trans e))]
   ·have hb:(g==k)=UD:=beq_eq_false_iff_ne.mpr h;simp only[P4,hb];exact ih
theorem jt (f:Str) (v:V):∀ fs:List (Str×V),f∈(bf f v fs).map (·.1)/\∀ g,g∈fs.map (·.1)->g∈(bf f v fs).map (·.1)
 | []=>⟨by simp[bf],λg h=>by simp at h⟩
 | (k,x)::r=>by
  obtain ⟨i1,i2⟩:=jt f v r;rw[show bf f v ((k,x)::r)=(if k=f then (k,v)::r else (k,x)::bf f v r) from rfl]
  by_cases hk:k=f
  ·rw[if_pos hk];subst hk;exact ⟨by simp,λg h=>by simpa using h⟩
  ·rw[if_neg hk];refine ⟨?_,λg h=>?_⟩
   ·rw[Oi];exact Oa _ i1
   ·rw[Oi] at h ⊢;rcases List.mem_cons.mp h with e|e
    exact List.mem_cons.mpr (.inl e);exact Oa _ (i2 g e)
theorem jP (f:Str) (v:V):∀ fs:List (Str×V),(bf f v fs).length<=fs.length+1
 | []=>by simp[bf]
 | (k,x)::r=>by
  have ih:=jP f v r;rw[show bf f v ((k,x)::r)=(if k=f then (k,v)::r else (k,x)::bf f v r) from rfl]
  by_cases hk:k=f
  rw[if_pos hk,Oq,Oq];lia;rw[if_neg hk,Oq,Oq];lia
theorem kD.some_of (r:kD (UA v) o):∃ u,o=UA u/\RelV v u:=by
 cases o with
 | none=>exact (show False from r).elim| some u=>exact ⟨u,rfl,r⟩
theorem kD.none_of (r:kD UB o):o=UB:=by
 cases o with
 | none=>rfl| some u=>exact (show False from r).elim
theorem uO (r:RelV v u):T9 u=UC:=by
 cases v with
 | non=>cases (show u=SN from r);rfl| bl b=>cases (show u=Ut b from r);rfl| int i=>obtain ⟨t,e⟩:=(show ∃ t,u=Q6 i t from r);cases e;rfl| str x=>obtain ⟨t,e⟩:=(show ∃ t,u=Tq x t from r);cases e;rfl| byt b=>obtain ⟨t,e⟩:=(show ∃ t,u=Value.bytes b t from r);cases e;rfl| flt b=>obtain ⟨t,e⟩:=(show ∃ t,u=Value.float b t from r);cases e;rfl| ref a=>cases (show u=OL a from r);rfl| ty n=>cases (show u=Value.type n from r);rfl
section
theorem nu (hok:HOk P w H h) (e:H a=UA (.ins C dx fs)):∃ mA,qQ h a dx C mA/\(∀ f,kD (fs.lookup f) (mA f))/\Tt mA (fs.map (·.1))/\fs.length<=1000/\H dx=UA (.own a):=by obtain ⟨d,z,ne,ob,mA,n,r,q⟩:=(show b7 P w H h a (.ins C dx fs) from hok a _ e);exact ⟨mA,⟨ob,n,ne⟩,r,q,z,d⟩
end
structure Cls (K:NV) (C:Of):Prop where
 pg:Qo K C Str.empty=UC
 hd:PJ K C=UC
 po:RE K C=UC
 sa:OB K (.ref C) "__setattr__"=UA (UA (.builtin "object.__setattr__"))
theorem Cls.get {K:NV} (c:Cls K C) (f:Str):Qo K C f=UC:=c.pg
def fW (K:NV) (C:Of) (f:Str):Prop:=OB K (.ref C) f=UA UB
theorem fW.HZ {K:NV} (n:fW K C f):R8 K C f=UA UB:=by unfold R8;rw[show OB K (.ref C) f=UA UB from n];rfl
structure qR (K:NV) (C:Of) (m:Str) (f:Of):Prop where
 at_:OB K (.ref C) m=UA (UA (.ref f))
 fn:RM K (.ref f)=UC
 kp:O3 K (.ref f)=UC
section
variable {E:N1->N4->Prop}
theorem kG (I:Inv X zt σ H s) (e:H a=UA (.ins C dx fs)) (c:Cls X.K C) (n:fW X.K C f) (l:fs.lookup f=UA v)
 (h:∀ u s',Inv X zt σ H s'->RelV v u->Q u s'):wpAny (Ow X.prog X.w) A (getAttr (.ref a) f b) Q E s:=by
 obtain ⟨mA,O,r,_,_,_⟩:=nu I.hok e;obtain ⟨u,hu,ru⟩:=kD.some_of (v:=v) (o:=mA f) (by rw[← l];exact r f);exact get_map I.kIn O (c.get f) c.hd n hu (uO ru) (h u _ (I.tok _) ru)
theorem fC (I:Inv X zt σ H s) (e:H a=UA (.ins C dx fs)) (c:Cls X.K C) (k:qR X.K C m g) (l:fs.lookup m=UB)
 (h:Q (.ref g,[.ref a]) s):wpAny (Ow X.prog X.w) A (Sj (.ref a) m pl) Q E s:=by
 obtain ⟨mA,O,r,_,_,_⟩:=nu I.hok e;have hn:mA m=UB:=kD.none_of (by rw[← l];exact r m);exact wW I.kIn O (c.get m) k.at_ k.fn hn h
theorem kH (I:Inv X zt σ H s) (e:H a=UA (.ins C dx fs)) (c:Cls X.K C) (n:fW X.K C f) (hl:fs.length < 1000) (ry:RelV y u)
 (h:∀ s',Inv X zt σ (upd H a (.ins C dx (bf f y fs))) s'->Q () s'):wpAny (Ow X.prog X.w) A (setAttr (.ref a) f u) Q E s:=by
 obtain ⟨mA,O,r,wi,_,ho⟩:=nu I.hok e;have hz:(fs.map (·.1)).length<=sizeLine:=by rw[Oh,Tj];lia
 refine AG I.kIn O c.sa c.po n.HZ c.hd wi hz λh' O' sb=>h _ ?_;have hd:∃ o,h'.get? dx=UA o:=let ⟨o,_,_,e',_⟩:=O'.ns;⟨o,e'⟩;refine I.write (x:=a) (e:=dx) (by rw[e];exact QD) (.inr ho) (λb q hb z=>(sb.2 b hb).trans z) hd ?_;refine ⟨by rw[av O.ne];exact ho,?_,O.ne,O'.obj,_,O'.ns,λg=>?_,λg hg=>?_⟩;have:=jP f y fs;lia
 ·show kD ((bf f y fs).lookup g) (if g=f then UA u else mA g);rw[jO]
  by_cases q:g=f
  rw[if_pos q,if_pos q];exact ry;rw[if_neg q,if_neg q];exact r g
 ·by_cases q:g=f
  rw[q];exact (jt f y fs).1
  ·refine (jt f y fs).2 g (wi g λz=>hg ?_);show (if g=f then UA u else mA g)=UB;rw[if_neg q];exact z
theorem Inv.made (I:Inv X zt σ H s):Inv X zt σ (upd (upd H s.heap.objs.size (.own (s.heap.objs.size+1))) (s.heap.objs.size+1) (.ins C s.heap.objs.size []))
 { s with heap:=(s.heap.push O1).push (Po C s.heap.objs.size) }:=by
 have e1:(s.heap.push O1).get? s.heap.objs.size=UA O1:=N8 s.heap rfl;have e2:((s.heap.push O1).push (Po C s.heap.objs.size)).get? (s.heap.objs.size+1)=UA (Po C s.heap.objs.size):=by
  have:=N8 (s.heap.push O1) (o:=Po C s.heap.objs.size) rfl
  rwa [Qp] at this
 have e3:(s.heap.push O1).Ns s.heap.objs.size (λ_=>UB):=⟨O1,#[],_,e1,rfl,(λe he=>absurd he (by simp)),λ_=>rfl⟩;have I1:=I.laid (a:=s.heap.objs.size) (o:=.own (s.heap.objs.size+1)) (h':=s.heap.push O1) (t':=s.toks) (λb u q=>NW _ q) (N3 _) ⟨_,e1⟩;refine I1.laid (a:=s.heap.objs.size+1) (o:=.ins C s.heap.objs.size []) (t':=s.toks) (λb u q=>NW _ q) (Nat.le_of_eq (Qp _ _)) ?_;have ne:s.heap.objs.size≠s.heap.objs.size+1:=On (Pk _);refine ⟨by rw[av ne,aB],O5 _,ne,e2,λ_=>UB,(Heap.Ns1.of_empty e3).at λo q=>NW _ q,λ_=>QD,λy hy=>absurd rfl hy⟩
theorem AH (hb:Rg e f env (eval e env)=eval e env)
 (h:wpAny (Ow prog w) A (eval e env) (λo s₁=>wpAny (Ow prog w) A (getAttr o f UC) Q E s₁) E s):wpAny (Ow prog w) A (eval (.Attribute e f pos) env) Q E s :=
 Attribute_any_ h (by rw[arm_eval_Attribute,hb])
end
def Ls (K:NV) (ta:TE) (f:Str):TE:=fun σ H Q=>ta σ H λx H1=>∃ a C dx fs v,x=.ref a/\H1 a=UA (.ins C dx fs)/\Cls K C/\fW K C f/\fs.lookup f=UA v/\Q v H1
def Ia (K:NV) (ta tv:TE) (f:Str):TS:=λD σ H=>tv σ H λy H1=>ta σ H1 λx H2=>∃ a C dx fs,x=.ref a/\H2 a=UA (.ins C dx fs)/\Cls K C/\fW K C f/\fs.length < 1000 ∧
 D.nx σ (upd H2 a (.ins C dx (bf f y fs)))
def Lu (X:Cx) (op:RN) (rd:V->V->Hp->VK->Prop):Prop :=
 ∀ (zt:List (Of×Obj)) (s:N4) (σ:St) (H:Hp) (x y:V) (u v:N1) (Q:VK),Inv X zt σ H s->RelV x u->RelV y v->rd x y H Q->wpAny (Ow X.prog X.w) X.A (inplaceOp op u v) (EP X zt σ Q) X.xe s
def sC (K:NV) (ta tv:TE) (rd:V->V->Hp->VK->Prop) (f:Str):TS:=λD σ H=>ta σ H λx H1=>∃ a C dx fs v,x=.ref a/\H1 a=UA (.ins C dx fs)/\Cls K C/\fW K C f/\fs.lookup f=UA v ∧
 tv σ H1 λy H2=>rd v y H2 λz H3=>∃ dx' fs',H3 a=UA (.ins C dx' fs')/\fs'.length < 1000/\D.nx σ (upd H3 a (.ins C dx' (bf f z fs')))
section
theorem EB (he:PE X e ta) (hb:Rg e f X.env (eval e X.env)=eval e X.env):PE X (.Attribute e f pos) (Ls X.K ta f):=by intro zt s σ H Q I h;refine AH hb (thn (he zt s σ H _ I h) λu s1 zq=>?_);obtain ⟨x,H1,I1,rx,a,C,dx,fs,v,ex,ea,c,n,l,q⟩:=zq;subst ex;obtain rfl:u=OL a:=rx;exact kG I1 ea c n l λu' s2 I2 ru=>⟨v,H1,I2,ru,q⟩
theorem EC (ha:PE X o ta) (hv:PE X value tv) (hs:QL value (UA (.Attribute o f pos')) pos.line X.env=pure UD):PS X (.Assign [.Attribute o f pos'] value pos) (Ia X.K ta tv f):=by intro zt s σ H D I h;refine plainObj_wpAny_Assign_Attribute (thn (hv zt s σ H _ I h) λu s1 ⟨y,H1,I1,ry,q⟩=>thn (ha zt s1 σ H1 _ I1 q) λov s2 ⟨x,H2,I2,rx,a,C,dx,fs,ex,ea,c,n,l,q2⟩=>?_) hs;subst ex;obtain rfl:ov=OL a:=rx;exact kH I2 ea c n l ry λs3 I3=>⟨σ,_,I3,q2⟩
theorem uP {rd:V->V->Hp->VK->Prop} (ha:PE X o ta) (hv:PE X value tv) (hop:Lu X op rd):PS X (.AugAssign (.Attribute o f tpos) op value pos) (sC X.K ta tv rd f):=by intro zt s σ H D I h;refine wpAny_AugAssign_AttributeAny (thn (ha zt s σ H _ I h) λov s1 zq=>?_);obtain ⟨x,H1,I1,rx,a,C,dx,fs,v,ex,ea,c,n,l,q⟩:=zq;subst ex;obtain rfl:ov=OL a:=rx;refine kG I1 ea c n l λu s2 I2 ru=>thn (hv zt s2 σ H1 _ I2 q) λw3 s3 ⟨y,H2,I3,ry,q3⟩=>thn (hop zt s3 σ H2 v y u w3 _ I3 ru ry q3) λw4 s4 zq=>?_;obtain ⟨z,H3,I4,rz,dx',fs',ea',l',q4⟩:=zq;exact kH I4 ea' c n l' rz λs5 I5=>⟨σ,_,I5,q4⟩
theorem DC (he:PE X e te) (I:Inv X zt σ H s)
 (h:te σ H λx H1=>∃ a C dx fs g,x=.ref a/\H1 a=UA (.ins C dx fs)/\Cls X.K C/\qR X.K C m g/\fs.lookup m=UB ∧
  ∀ s1,Inv X zt σ H1 s1->wpAny (Ow X.prog X.w) X.A (callWith pos (.ref g) [.ref a] (PU pos (OA args X.env)) (RK pos (Qz [] X.env))) Q X.xe s1)
 (ht:eval (.Call (.Attribute e m apos) args [] pos) X.env=(do
  let ov ← eval e X.env
  standAt apos.atName
  let (f,first) ← holding [ov] (Sj ov m pl)
  callWith pos f first (PU pos (OA args X.env)) (RK pos (Qz [] X.env)))) :
 wpAny (Ow X.prog X.w) X.A (eval (.Call (.Attribute e m apos) args [] pos) X.env) Q X.xe s:=by
 refine Qi (pl:=pl) (thn (he zt s σ H _ I h) λu s1 ⟨x,H1,I1,rx,a,C,dx,fs,g,ex,ea,c,k,l,q⟩=>?_) ht;subst ex;obtain rfl:u=OL a:=rx;exact fC I1 ea c k l (q s1 I1)
end
section
variable {E:N1->N4->Prop}{b:Bool}
end
end L2
namespace L2
open PySem PySem.Spec PyProof.Rows
structure bO (k:Nat) (A:PK):Prop where
 hd:A.handled=UB
 dp:A.depth+3*k+5 < recursionLimit
 un:A.units+16*k+200 < cLine
theorem bO.mono (r:bO k A) (h:j<=k):bO j A:=⟨r.hd,by have:=r.dp;lia,by have:=r.un;lia⟩
theorem bO.deeper (r:bO (k+1) A) (env:Env):bO k (A.deeper env) :=
 ⟨r.hd,by have:=r.dp;show A.depth+1+3*k+5 < _;lia,by have:=r.un;show A.units+3+16*k+200 < _;lia⟩
theorem qS {A:PK}{C:Of}{us:List N1}{kw:List (Str×N1)}:(A.under (.builtin "type.__call__" ⟨.ref C::us,kw⟩)).depth=A.depth+1:=by first|rfl|simp[Tg,Code.weight,Code.isCreation,Code.isGuard,Code.isCaller,Code.frames,TN,guardIds]
theorem qT {A:PK}{C:Of}{us:List N1}{kw:List (Str×N1)}:(A.under (.builtin "type.__call__" ⟨.ref C::us,kw⟩)).units=A.units+1:=by first|rfl|simp[Tg,Code.cUnits,Code.frames,TN]
theorem bO.make (r:bO (k+1) A) (C:Of) (us:List N1) (kw:List (Str×N1)):bO k (A.under (.builtin "type.__call__" ⟨.ref C::us,kw⟩)) :=
 ⟨r.hd,by have:=r.dp;rw[qS];lia,by have:=r.un;rw[qT];lia⟩
theorem bO.depth (r:bO k A):A.depth < recursionLimit:=by have:=r.dp;lia
def wY:TA:=λ_ H Q=>Q [] H
def DE (ta:TE) (tr:TA):TA:=fun σ H Q=>ta σ H λx H1=>tr σ H1 λxs H2=>Q (x::xs) H2
section
theorem ju:PA X [] wY:=λ_ _ _ _ H Q I h=>Ql ⟨[],H,I,.nil,h⟩
theorem dW (ha:PE X e te) (hr:PA X es t) (hs:OA (e::es) X.env=(UD,eval e X.env)::OA es X.env:=by rfl):PA X (e::es) (DE te t):=by intro pos zt s σ H Q I h;rw[hs];show wpAny _ _ (Sy ((UD,eval e X.env)::PU pos (OA es X.env))) _ _ s;refine Pz (thn (ha zt s σ H _ I h) λu s1 zq=>?_);obtain ⟨x,H1,I1,r1,q1⟩:=zq;exact thn (hr pos zt s1 σ H1 _ I1 q1) λus s2 ⟨xs,H2,I2,r2,q2⟩=>⟨x::xs,H2,I2,.cons r1 r2,q2⟩
def Ib (t:TA):TE:=fun σ H Q=>t σ H λxs H1=>xs.length<=sizeLine/\∀ p,H1 p=UB->Q (.ref p) (upd H1 p (.tup xs))
def Ic (t:TA):TE:=fun σ H Q=>t σ H λxs H1=>xs.length<=sizeLine/\∀ p,H1 p=UB->Q (.ref p) (upd H1 p (.lst xs))
theorem ED {x1} (h:PA X es t):PE X (.Tuple es x1 pos) (Ib t):=by intro zt s σ H Q I hq;refine wpAny_Tuple_spliced (thn (h pos zt s σ H _ I hq) λus s1 ⟨xs,H1,I1,r,z,q⟩=>⟨by rw[← r.length];exact z,?_⟩);have hf:H1 s1.heap.objs.size=UB:=I1.hok.fresh (N3 _);refine ⟨.ref s1.heap.objs.size,upd H1 s1.heap.objs.size (.tup xs),I1.laid (t':=s1.toks) (λb u e=>NW _ e) (N3 _) ?_,rfl,q _ hf⟩;exact ⟨z,us,r,⟨_,N8 _ rfl,rfl,_,rfl⟩⟩
theorem EF (h:PA X es t):PE X (.List es pos) (Ic t):=by intro zt s σ H Q I hq;refine wpAny_List_spliced (thn (h pos zt s σ H _ I hq) λus s1 ⟨xs,H1,I1,r,z,q⟩=>⟨by rw[← r.length];exact z,?_⟩);have hf:H1 s1.heap.objs.size=UB:=I1.hok.fresh (N3 _);refine ⟨.ref s1.heap.objs.size,upd H1 s1.heap.objs.size (.lst xs),I1.laid (t':=s1.toks) (λb u e=>NW _ e) (N3 _) ?_,rfl,q _ hf⟩;exact ⟨z,us,0,r,N8 _ rfl⟩
end
abbrev Sp:=List V->Hp->VK->XK->Prop
abbrev CXT:=List Env->Hp->N4->XK->N1->N4->Prop
structure kI (P:Ot) (w:OR) (K:NV) (mg:Str->Option N1) (base:Heap) (A:PK) (outer:List Env) (s:N4) (H:Hp):Prop where
 frames:A.frames=UA outer
 mod:Mod K mg base
 bs:∀ b o,base.get? b=UA o->s.heap.get? b=UA o/\H b=UB
 bsz:base.objs.size<=s.heap.objs.size
 g9:s.heap.FunFrames base outer
 frf:∀ b∈frs outer,H b=UB
 hok:HOk P w H s.heap
 bare:SM s.gens
inductive CE (outer:List Env) (P:Ot) (w:OR) (H:Hp) (s:N4) (Q:VK) (u:N1) (s':N4):Prop where
 | mk (v:V) (H':Hp) (os:s'.os=s.os) (b:SM s'.gens) (un:Un (frs outer) [] H H' s.heap s'.heap) (hk:HOk P w H' s'.heap) (r:RelV v u) (q:Q v H'):CE outer P w H s Q u s'
def CR (CX:CXT) (outer:List Env) (P:Ot) (w:OR) (H:Hp) (s:N4) (Q:VK) (E:XK) (r:T6) (s':N4):Prop :=
 match r with
 | .ok (.ret u)=>CE outer P w H s Q u s'| .ok _=>False| .error e=>CX outer H s E e s'
structure fD (P:Ot) (w:OR) (K:NV) (mg:Str->Option N1) (base:Heap) (CX:CXT) (k:Nat) (f:Of) (fd:Qh) (ps:List Str) (sp:Sp):Prop where
 len:∀ vs H Q E,sp vs H Q E->vs.length=ps.length
 run:∀ (A:PK) (outer:List Env) (s:N4) (H:Hp) (args:Args) (us:List N1) (vs:List V) (Q:VK) (E:XK),bO k A->kI P w K mg base A outer s H->BindsTo s fd args (ps.zip us)->ao vs us->sp vs H Q E →
  codeAny (Ow P w) A (.call (.ref f) args) (CR CX outer P w H s Q E) s
theorem kI.make {K:NV} (e:kI P w K mg base A outer s H) (C:Of) (us:List N1) (kw:List (Str×N1)) :
 kI P w K mg base (A.under (.builtin "type.__call__" ⟨.ref C::us,kw⟩)) outer s H:=⟨by first | exact e.frames | (simpa [Tg,Code.envs,TN,pushEnvs] using e.frames),e.mod,e.bs,e.bsz,e.g9,e.frf,e.hok,e.bare⟩
section
theorem Inv.EG (I:Inv X zt σ H s):kI X.prog X.w X.K X.mg X.base X.A X.stack s H :=
 ⟨I.ok.frames,I.ok.mod,I.bs,OO I.ok.bsz I.sz,I.stack,I.nk,I.hok,I.bare⟩
theorem Inv.after (I:Inv X zt σ H s) (h:CE X.stack X.prog X.w H s Q u s'):EP X zt σ Q u s':=by obtain ⟨v,H',os,bare,un,hok,r,q⟩:=h;obtain ⟨hh,g,d,t,os'⟩:=s';obtain rfl:os'=s.os:=os;exact ⟨v,H',I.call (h':=hh) (g':=g) (d':=d) (t':=t) (ch:=[]) un hok bare (λb z=>absurd z (by simp)),r,q⟩
end
def wZ (sp:Sp) (dvs:List V) (E:XK) (t:TA):TE:=fun σ H Q=>t σ H λvs H1=>sp (vs++dvs) H1 Q E
def w6 (C:Of) (m:Str) (sp:Sp) (dvs:List V) (E:XK) (ta:TE) (t:TA):TE:=fun σ H Q=>ta σ H λx H1=>∃ a dx fs,x=.ref a/\H1 a=UA (.ins C dx fs)/\fs.lookup m=UB ∧
 t σ H1 λvs H2=>sp (x::(vs++dvs)) H2 Q E
def w9 (C:Of) (sp:Sp) (dvs:List V) (E:XK) (t:TA):TE:=fun σ H Q=>t σ H λvs H1=>∀ x dx,H1 x=UB->H1 dx=UB->dx≠x →
 sp (.ref x::(vs++dvs)) (upd (upd H1 dx (.own x)) x (.ins C dx [])) (λv H2=>v=.non/\Q (.ref x) H2) E
def Binds (K:NV) (fd:Qh) (ps:List Str) (ds:List N1):Prop :=
 ∀ (s:N4) (us:List N1),K.In s.heap->(us++ds).length=ps.length->BindsTo s fd ⟨us,[]⟩ (ps.zip (us++ds))
theorem Binds.all {K:NV} (h:∀ us:List N1,us.length=ps.length->S9 fd ⟨us,[]⟩=pure (ps.zip us)):Binds K fd ps []:=λs us _ hl=>by rw[OM] at hl ⊢;exact .of_eq (h us hl)
def fE (CX:CXT) (X:Cx) (E:XK):Prop:=∀ (zt:List (Of×Obj)) (σ:St) (H:Hp) (s:N4) (e:N1) (s':N4),Inv X zt σ H s->CX X.stack H s E e s'->X.xe e s'
section
variable {k:Nat}{E:XK}
theorem kJ (F:fD X.prog X.w X.K X.mg X.base CX k f fd ps sp) (hr:bO k X.A) (hb:Binds X.K fd ps ds) (hd:ao dvs ds) (hx:fE CX X E)
 (I:Inv X zt σ H s) (r:ao vs us) (h:sp (vs++dvs) H Q E):wpAny (Ow X.prog X.w) X.A (call (.ref f) us) (EP X zt σ Q) X.xe s:=by
 have r2:ao (vs++dvs) (us++ds):=r.append hd;have hl:(us++ds).length=ps.length:=by rw[← r2.length];exact F.len _ _ _ _ h
 refine T5 (codeAny_mono (F.run X.A X.stack s H ⟨us,[]⟩ (us++ds) (vs++dvs) Q E hr I.EG (hb s us I.kIn hl) r2 h) λr s' hq=>?_);cases r with
 | error e=>exact hx zt σ H s e s' I hq
 | ok fl =>
  cases fl with
  | ret u=>exact I.after hq| _=>exact ON hq
theorem AI (F:fD X.prog X.w X.K X.mg X.base CX k f fd ps sp) (hr:bO k X.A) (hg:Gl X x) (hm:X.mg x=UA (.ref f)) (hk:O3 X.K (.ref f)=UC) (hb:Binds X.K fd ps ds) (hd:ao dvs ds) (hx:fE CX X E)
 (ha:PA X (e::es) t) (hdb:(x==("__debug__":Str))=UD:=by decide) (he:OA (e::es) X.env=(UD,eval e X.env)::OA es X.env:=by rfl) (hpl:(PU pos (OA es X.env)).any (·.1)=UD:=by rfl) :
 PE X (.Call (.Name x p) (e::es) [] pos) (wZ sp dvs E t):=by
 intro zt s σ H Q I h;refine Pp (iL I hg hm ?_ hdb);refine P6 (h₀:=X.base) I.ok.mod.kin hk (thn (ha pos zt s σ H _ I h) λus s1 ⟨vs,H1,I1,r,q⟩=>⟨I1.kIn,?_⟩) he hpl;exact kJ F hr hb hd hx I1 r q
theorem xg (F:fD X.prog X.w X.K X.mg X.base CX k f fd ps sp) (hr:bO k X.A) (hg:Gl X x) (hm:X.mg x=UA (.ref f)) (hk:O3 X.K (.ref f)=UC) (hb:Binds X.K fd ps ds) (hd:ao dvs ds) (hx:fE CX X E)
 (hdb:(x==("__debug__":Str))=UD:=by decide):PE X (.Call (.Name x p) [] [] pos) (wZ sp dvs E wY):=by
 intro zt s σ H Q I h;refine Pp (iL I hg hm ?_ hdb);exact Ri I.kIn hk (kJ (us:=[]) F hr hb hd hx I .nil h)
theorem AJ (he:PE X o ta) (c:Cls X.K C) (hm:qR X.K C m f) (F:fD X.prog X.w X.K X.mg X.base CX k f fd ps sp) (hr:bO k X.A) (hb:Binds X.K fd ps ds) (hd:ao dvs ds) (hx:fE CX X E) (ha:PA X (e::es) t)
 (hst:OA (e::es) X.env=(UD,eval e X.env)::OA es X.env:=by rfl) (hpl:(PU pos (OA es X.env)).any (·.1)=UD:=by rfl)
 (ht:eval (.Call (.Attribute o m apos) (e::es) [] pos) X.env=(do
  let ov ← eval o X.env
  standAt apos.atName
  let (f,first) ← holding [ov] (Sj ov m pl)
  callWith pos f first (PU pos (OA (e::es) X.env)) (RK pos (Qz [] X.env))):=by rfl) :
 PE X (.Call (.Attribute o m apos) (e::es) [] pos) (w6 C m sp dvs E ta t):=by
 intro zt s σ H Q I h;refine Qi (pl:=pl) (thn (he zt s σ H _ I h) λu s1 ⟨x,H1,I1,rx,a,dx,fs,ex,ea,l,q⟩=>?_) ht;subst ex;obtain rfl:u=OL a:=rx;refine fC I1 ea c hm l ?_;refine P6 (first:=[.ref a]) (h₀:=X.base) I.ok.mod.kin hm.kp (thn (ha pos zt s1 σ H1 _ I1 q) λus s2 ⟨vs,H2,I2,r,q2⟩=>⟨I2.kIn,?_⟩) hst hpl;exact kJ (us:=.ref a::us) (vs:=.ref a::vs) F hr hb hd hx I2 (.cons rfl r) q2
theorem xh (he:PE X o ta) (c:Cls X.K C) (hm:qR X.K C m f) (F:fD X.prog X.w X.K X.mg X.base CX k f fd ps sp) (hr:bO k X.A) (hb:Binds X.K fd ps ds) (hd:ao dvs ds) (hx:fE CX X E)
 (ht:eval (.Call (.Attribute o m apos) [] [] pos) X.env=(do
  let ov ← eval o X.env
  standAt apos.atName
  let (f,first) ← holding [ov] (Sj ov m pl)
  callWith pos f first (PU pos (OA [] X.env)) (RK pos (Qz [] X.env))):=by rfl) :
 PE X (.Call (.Attribute o m apos) [] [] pos) (w6 C m sp dvs E ta wY):=by
 intro zt s σ H Q I h;refine Qi (pl:=pl) (thn (he zt s σ H _ I h) λu s1 ⟨x,H1,I1,rx,a,dx,fs,ex,ea,l,q⟩=>?_) ht;subst ex;obtain rfl:u=OL a:=rx;refine fC I1 ea c hm l ?_;exact Ri (first:=[.ref a]) I1.kIn hm.kp (kJ (us:=[.ref a]) (vs:=[.ref a]) F hr hb hd hx I1 (.cons rfl .nil) q)
structure Mk (K:NV) (C f:Of):Prop where
 makes:Sa K C=UC
 init:OB K (.ref C) "__init__"=UA (UA (.ref f))
 fn:RM K (.ref f)=UC
 kp:O3 K (.ref C)=UC
theorem o8 (M:Mk X.K C f) (F:fD X.prog X.w X.K X.mg X.base CX k f fd ps sp) (hr:bO (k+1) X.A) (hb:Binds X.K fd ps ds) (hd:ao dvs ds)
 (hx:fE CX X E) (I:Inv X zt σ H s) (r:ao vs us)
 (h:∀ x dx,H x=UB->H dx=UB->dx≠x->sp (.ref x::(vs++dvs)) (upd (upd H dx (.own x)) x (.ins C dx [])) (λv H2=>v=.non/\Q (.ref x) H2) E) :
 wpAny (Ow X.prog X.w) X.A (call (.ref C) us) (EP X zt σ Q) X.xe s:=by
 have hq:=h (s.heap.objs.size+1) s.heap.objs.size (I.hok.fresh (P7 _)) (I.hok.fresh (N3 _)) (On (Pk _));have I2:=Inv.made (C:=C) I;have r2:ao (V.ref (s.heap.objs.size+1)::(vs++dvs)) (OL (s.heap.objs.size+1)::(us++ds)):=.cons rfl (r.append hd);have hl:(OL (s.heap.objs.size+1)::us++ds).length=ps.length:=by have e:=r2.length;rw[F.len _ _ _ _ hq] at e;exact e.symm
 refine T5 (wX (f:=f) I.kIn M.makes M.init (beq_iff_eq.mp M.fn) (codeAny_mono (F.run _ X.stack _ _ ⟨OL (s.heap.objs.size+1)::us,[]⟩ (OL (s.heap.objs.size+1)::(us++ds)) _ _ E (hr.make C us [])
  (I2.EG.make C us []) (hb _ (OL (s.heap.objs.size+1)::us) I2.kIn hl) r2 hq) λr s' hq'=>?_))
 cases r with
 | error e=>exact hx zt σ _ _ e s' I2 hq'
 | ok fl =>
  cases fl with
  | ret u =>
   obtain ⟨v,H',I3,rv,ev,q3⟩:=I2.after hq';subst ev;exact ⟨rv,⟨V.ref (s.heap.objs.size+1),H',I3,rfl,q3⟩⟩
  | _=>exact ON hq'
theorem AK (M:Mk X.K C f) (F:fD X.prog X.w X.K X.mg X.base CX k f fd ps sp) (hr:bO (k+1) X.A) (hg:Gl X x) (hm:X.mg x=UA (.ref C)) (hb:Binds X.K fd ps ds) (hd:ao dvs ds) (hx:fE CX X E)
 (ha:PA X (e::es) t) (hdb:(x==("__debug__":Str))=UD:=by decide) (he:OA (e::es) X.env=(UD,eval e X.env)::OA es X.env:=by rfl) (hpl:(PU pos (OA es X.env)).any (·.1)=UD:=by rfl) :
 PE X (.Call (.Name x p) (e::es) [] pos) (w9 C sp dvs E t):=by
 intro zt s σ H Q I h;refine Pp (iL I hg hm ?_ hdb);refine P6 (h₀:=X.base) I.ok.mod.kin M.kp (thn (ha pos zt s σ H _ I h) λus s1 ⟨vs,H1,I1,r,q⟩=>⟨I1.kIn,?_⟩) he hpl;exact o8 M F hr hb hd hx I1 r q
theorem xj (M:Mk X.K C f) (F:fD X.prog X.w X.K X.mg X.base CX k f fd ps sp) (hr:bO (k+1) X.A) (hg:Gl X x) (hm:X.mg x=UA (.ref C)) (hb:Binds X.K fd ps ds) (hd:ao dvs ds) (hx:fE CX X E)
 (hdb:(x==("__debug__":Str))=UD:=by decide):PE X (.Call (.Name x p) [] [] pos) (w9 C sp dvs E wY):=by
 intro zt s σ H Q I h;refine Pp (iL I hg hm ?_ hdb);exact Ri I.kIn M.kp (o8 (us:=[]) M F hr hb hd hx I .nil h)
end
section
variable {k:Nat}{E:XK}
end
structure cu (N P:List Str) (sc:OD):Prop where
 kind:sc.kind=.function
 co:sc.isCoroutine=UD
 gen:sc.isGenerator=UD
 nd:N.Nodup
 pre:N.take P.length=P
 par:∀ x∈P,sc.names.lookup x=UA .local\/sc.names.lookup x=UA .cell
 nofree:∀ y∈sc.names,y.2≠.free
theorem mK {kindOf:Str->Option Qd}:∀ {binds:List (Str×N1)}{m:Str->Option N1},(∀ v,(x,v)∉binds)->bindL kindOf binds m x=m x
 | [],_,_=>rfl
 | (n,v)::r,m,h=>by
  unfold bindL;rw[mK λw hw=>h w (Oa _ hw)];split
  ·have:x≠n:=by rintro rfl;exact h v Oe
   simp[this]
  rfl
theorem mL {kindOf:Str->Option Qd}:∀ {binds:List (Str×N1)}{m:Str->Option N1},(∀ v,(x,v)∉binds)->bindC kindOf binds m x=m x
 | [],_,_=>rfl
 | (n,v)::r,m,h=>by
  unfold bindC;rw[mL λw hw=>h w (Oa _ hw)];split;rfl
  ·have:x≠n:=by rintro rfl;exact h v Oe
   simp[this]
theorem mO {kindOf:Str->Option Qd}:∀ {P:List Str}{vs:List N1}{i:Nat}{m:Str->Option N1},P.Nodup->P[i]?=UA x->vs[i]?=UA v->kindOf x=UA .local →
 bindL kindOf (P.zip vs) m x=UA v
 | [],_,_,_,_,h,_,_=>by simp at h
 | _::_,[],_,_,_,_,h,_=>by simp at h
 | p::P,w::vs,0,m,nd,h1,h2,hk=>by simp at h1 h2;subst h1;subst h2;show bindL kindOf ((p,w)::P.zip vs) m p=_;unfold bindL;rw[mK λv hv=>(List.nodup_cons.mp nd).1 (Rc hv).1,if_pos hk];simp
 | p::P,w::vs,i+1,m,nd,h1,h2,hk=>by show bindL kindOf ((p,w)::P.zip vs) m x=_;unfold bindL;exact mO (i:=i) (List.nodup_cons.mp nd).2 (by simpa using h1) (by simpa using h2) hk
theorem mP {kindOf:Str->Option Qd}:∀ {P:List Str}{vs:List N1}{i:Nat}{m:Str->Option N1},P.Nodup->P[i]?=UA x->vs[i]?=UA v->kindOf x≠UA .local →
 bindC kindOf (P.zip vs) m x=UA v
 | [],_,_,_,_,h,_,_=>by simp at h
 | _::_,[],_,_,_,_,h,_=>by simp at h
 | p::P,w::vs,0,m,nd,h1,h2,hk=>by simp at h1 h2;subst h1;subst h2;show bindC kindOf ((p,w)::P.zip vs) m p=_;unfold bindC;rw[mL λv hv=>(List.nodup_cons.mp nd).1 (Rc hv).1,if_neg hk];simp
 | p::P,w::vs,i+1,m,nd,h1,h2,hk=>by show bindC kindOf ((p,w)::P.zip vs) m x=_;unfold bindC;exact mP (i:=i) (List.nodup_cons.mp nd).2 (by simpa using h1) (by simpa using h2) hk
noncomputable def start (N:List Str) (vs:List V):St:=vs.map UA++Oo (N.length - vs.length) UB
noncomputable def qU (CX:CXT) (P:Ot) (w:OR) (K:NV) (mg:Str->Option N1) (base:Heap) (N:List Str) (qual:Str) (scope:OD) (f:Of) (cd:N1) (A:PK) (outer:List Env) (s:N4) (H:Hp) (E:XK):Cx where
 prog:=P
 w:=w
 K:=K
 mg:=mg
 base:=base
 A:=A.deeper (Tn qual scope s.heap.objs.size f cd)
 N:=N
 s₀:=s
 H₀:=H
 env:=Tn qual scope s.heap.objs.size f cd
 outer:=outer
 stack:=Tn qual scope s.heap.objs.size f cd::outer
 ex:=[]
 calm:=UC
 fn:=λ_=>UC
 pn:=[]
 xe:=λe s'=>wpAny (Ow P w) (A.deeper (Tn qual scope s.heap.objs.size f cd)) (leaving (Tn qual scope s.heap.objs.size f cd) e) (λ_ s''=>CX outer H s E e s'') (λe' s''=>CX outer H s E e' s'') s'
theorem o9 {sc:OD}{n:Nat}{x:Str} (h:sc.names.lookup x=UA .cell):∃ c,(cellsFrom n sc.names []).lookup x=UA c:=by have q:=SO sc.names n [] (.inl h);exact Option.isSome_iff_exists.mp q
theorem uQ {K:NV}{E:XK}
 (S:cu N ps scope) (hd:A.handled=UB) (e0:kI P w K mg base A outer s H) (hl:vs.length=ps.length) (r:ao vs us)
 (x:InCallC s s.heap.objs.size (bindL (Tn qual scope s.heap.objs.size f cd).kindOf (ps.zip us) λ_=>UB) (cellsFrom (s.heap.objs.size+1) scope.names []) (bindC (Tn qual scope s.heap.objs.size f cd).kindOf (ps.zip us) λ_=>UB) s1) :
 Inv (qU CX P w K mg base N qual scope f cd A outer s H E) [] (start N vs) H s1:=by
 have hpl:ps.length<=N.length:=by have:=congrArg QG S.pre;rw[Sg] at this;lia
 obtain ⟨h1,tk,rfl,hk⟩:=x.done;have noA:∀ b:Of,b∉(qU CX P w K mg base N qual scope f cd A outer s H E).ex:=λb z=>absurd (show b∈([]:List Of) from z) (by simp);refine ⟨⟨e0.mod,S.kind,rfl,rfl,N3 _,λy z c h1 h2=>?_,λy hy=>?_,λy c _ h=>?_,λ_=>hd,TH e0.frames,.inr ⟨rfl,rfl⟩,λb z=>absurd z (noA b),e0.bs,e0.bsz,λb _ _=>noA b,λb z=>absurd z (noA b),e0.g9,e0.frf⟩,
  rfl,e0.bare,Un.kept hk,⟨_,x.toInCall.ns,λi y v h1 h2 h3=>?_⟩,λy c h=>⟨_,x.cell y c h⟩,e0.hok.fresh (N3 _),λy c h=>?_,λp hp=>absurd (show p∈([]:List (Of×Obj)) from hp) (by simp),e0.hok.kept hk,?_⟩
 exact name_of_addr x.apart (Pc h1) (Pc h2)
 ·have hy:scope.names.lookup y=UA .cell\/scope.names.lookup y=UA .free:=hy;rcases hy with hy|hy
  exact o9 hy;exact absurd rfl (S.nofree _ (Pc hy))
 exact O0 (x.above y c (Pc h))
 ·have hi:i < vs.length:=by
   unfold start at h2
   by_cases hi:i < vs.length
   exact hi
   ·rw[Ol (by simpa using hi)] at h2;rw[Qg] at h2;split at h2<;>cases h2
  have ha:vs[i]?=UA v:=by
   unfold start at h2;rw[N5 (by simpa using hi),Ox] at h2;cases e:vs[i]? with
   | none=>rw[e] at h2;cases h2| some a=>rw[e] at h2;cases h2;rfl
  obtain ⟨u,hu,rv⟩:=r.get ha;have hp:ps[i]?=UA y:=by rw[← S.pre,P9 (by lia)];exact h1
  have ndP:ps.Nodup:=by rw[← S.pre];exact S.nd.sublist (List.take_sublist _ _)
  refine ⟨u,rv,?_⟩;rcases S.par y (N9 hp) with k|k
  exact .inl ⟨k,mO ndP hp hu k⟩
  ·obtain ⟨c,e⟩:=o9 (n:=s.heap.objs.size+1) k;refine .inr ⟨.inl k,c,e,?_⟩;have q:=x.cell y c e;rw[mP ndP hp hu (by show scope.names.lookup y≠_;rw[k];decide)] at q;exact q
 exact e0.hok.fresh (O0 (x.above y c (Pc h)))
 ·unfold start;show _=N.length;rw[Oj,Oh,Qs];lia
theorem Ie {K:NV}{kV:N1}
 {osl:Array (Option N1)} (lk:K.lookup f=UA ⟨oc,od,.func (Pf name qual params body scope dV kV doc pm an cdv ct),osl⟩) (hcd:Q9 K cdv qual=UC) (S:cu N ps scope)
 (len:∀ vs H Q E,sp vs H Q E->vs.length=ps.length)
 (hbody:∀ (A:PK) (outer:List Env) (s:N4) (H:Hp) (vs:List V) (Q:VK) (E:XK),bO k (A.deeper (Tn qual scope s.heap.objs.size f cdv))->sp vs H Q E →
  ∃ t,PSs (qU CX P w K mg base N qual scope f cdv A outer s H E) body t/\t { nx:=λ_ H'=>Q .non H',rt:=Q } (start N vs) H) :
 fD P w K mg base CX (k+1) f (Pf name qual params body scope dV kV doc pm an cdv ct) ps sp:=by
 refine ⟨len,λA outer s H args us vs Q E hr e0 hb r hsp=>?_⟩;have hl:=len _ _ _ _ hsp;have KX:K.In s.heap:=e0.mod.kin.keeps λb o e=>(e0.bs b o e).1;have lim:s.heap.NoLimit:=e0.mod.nolimit.keeps λb o e=>(e0.bs b o e).1;have hkind:∀ y∈ps.zip us,scope.names.lookup y.1=UA .local\/(scope.names.lookup y.1=UA .cell/\((cellsFrom (s.heap.objs.size+1) scope.names []).lookup y.1).isSome=UC):=λ⟨n,v⟩ hy=>by
  rcases S.par n (Rc hy).1 with q|q
  exact .inl q;exact .inr ⟨q,SO _ _ _ (.inl q)⟩
 refine codeAny_call_function hr.depth (KX _ _ lk) rfl S.co S.gen rfl (PySem.W.codeRec_of KX hcd) (hb _ _ _ _ ?_);refine wpAny_newFunctionEnv_cells S.kind hkind λenv he s1 x=>?_;subst he;refine ⟨lim.keeps x.toInCall.keep,codeAny_func ?_⟩;obtain ⟨t,ht,hq⟩:=hbody A outer s H vs Q E (hr.deeper _) hsp;have I:Inv (qU CX P w K mg base N qual scope f cdv A outer s H E) [] (start N vs) H s1:=uQ S hr.hd e0 hl r x;refine wpAny_mono (ht [] s1 (start N vs) H _ I hq) (λfl s' hs=>?_) λe s' hs=>hs;have fin:∀ {σ':St}{H':Hp}{v:V}{u:N1},Inv (qU CX P w K mg base N qual scope f cdv A outer s H E) [] σ' H' s'->RelV v u->Q v H'->CE outer P w H s Q u s' :=
  λ{σ' H' v u} J rv q=>⟨v,H',J.os,J.bare,J.base,J.hok,rv,q⟩
 cases fl with
 | ret u =>
  obtain ⟨v,σ',H',J,rv,q⟩:=hs;exact fin J rv q
 | next =>
  obtain ⟨σ',H',J,q⟩:=hs;exact fin (v:=V.non) (u:=SN) J rfl q
 | brk =>
  obtain ⟨_,_,_,q⟩:=hs;exact ON q
 | cont =>
  obtain ⟨_,_,_,q⟩:=hs;exact ON q
end L2
namespace L2
open PySem PySem.Spec PyProof.Rows
section
variable {id:String}
def tCB (r:List V->Hp->VK->Prop) (t:TA):TE:=fun σ H Q=>t σ H λvs H1=>r vs H1 Q
theorem fX (hc:cF X (.builtin id) r) (hg:Gl X x) (hm:X.mg x=UB) (hv:QX x=UA (.builtin id)) (ha:PA X (e::es) t) (hn:x≠"__name__":=by decide) (hdb:(x==("__debug__":Str))=UD:=by decide)
 (he:OA (e::es) X.env=(UD,eval e X.env)::OA es X.env:=by rfl) (hpl:(PU pos (OA es X.env)).any (·.1)=UD:=by rfl):PE X (.Call (.Name x p) (e::es) [] pos) (tCB r t):=by
 intro zt s σ H Q I h;refine Pp (dH I hg hm hv ?_ hn hdb);exact Rj (thn (ha pos zt s σ H _ I h) λus s1 ⟨vs,H1,I1,r1,q1⟩=>hc zt s1 σ H1 vs us Q I1 r1 q1) he hpl
theorem gI (hc:cF X (.type T) r) (hg:Gl X x) (hm:X.mg x=UB) (hv:QX x=UA (.type T)) (ha:PA X (e::es) t) (hn:x≠"__name__":=by decide) (hdb:(x==("__debug__":Str))=UD:=by decide)
 (he:OA (e::es) X.env=(UD,eval e X.env)::OA es X.env:=by rfl) (hpl:(PU pos (OA es X.env)).any (·.1)=UD:=by rfl):PE X (.Call (.Name x p) (e::es) [] pos) (tCB r t):=by
 intro zt s σ H Q I h;refine Pp (dH I hg hm hv ?_ hn hdb);exact OG (thn (ha pos zt s σ H _ I h) λus s1 ⟨vs,H1,I1,r1,q1⟩=>hc zt s1 σ H1 vs us Q I1 r1 q1) he hpl
end
end L2
namespace HT
open PySem PyProof.Rows
section
open PySem.SeqAt
open PySem.AutoSeq1 (wpAny_loadPart')
open PySem.MeetsSeq PySem.MeetsSeq2 PySem.MeetsSeq3
end
section
variable {E:N1->N4->Prop}
theorem AL (ht:IsTup s.heap t vs.toArray) (hb:IsTup s.heap b ws.toArray) (hv:vs≠[])
 (h1:ws=[]->Q (.ref t) s) (h2:ws≠[]->Q (.ref s.heap.objs.size) { s with heap:=s.heap.push { cls:=.type "tuple",data:=.seq (vs++ws).toArray } })
 (hsz:vs.length+ws.length<=sizeLine):wpAny (Ow prog w) A (Pa .Add (.ref t) (.ref b)) Q E s:=by
 obtain ⟨⟨cls,dd,data,sl⟩,ho,hc,n,hd⟩:=id ht;obtain ⟨⟨cls2,dd2,data2,sl2⟩,ho2,hc2,n2,hd2⟩:=id hb;simp only at hc hd hc2 hd2;subst hc hd hc2 hd2;have e:vs.toArray++ws.toArray=(vs++ws).toArray:=by simp
 by_cases hw:ws=[]
 ·exact concat_meets ⟨_,ho,rfl⟩ ⟨_,ho2,rfl⟩ SY Uo QU QO (QJ _ _)
   (tuple_addW1 t b vs.toArray ws.toArray n n2 dd dd2 sl sl2 (by simpa using hv) (by simp[hw])) ⟨ho,ho2,h1 hw⟩
 ·refine concat_meets ⟨_,ho,rfl⟩ ⟨_,ho2,rfl⟩ SY Uo QU QO (QJ _ _)
   (tuple_addW2 t b vs.toArray ws.toArray n n2 dd dd2 sl sl2 (by simpa using hv) (by simpa using hw) (by rw[N2,N2];exact hsz)) ⟨ho,ho2,?_⟩
  rw[e];exact h2 hw
noncomputable def sIx (n d:Nat):Option Int->Nat
 | none=>d
 | some v=>if v < 0 then (v+(n:Int)).toNat else min v.toNat n
theorem EI (n d:Nat) (hd:d<=n) (o:Option Int):sIx n d o<=n:=by
 cases o with
 | none=>exact hd
 | some v =>
  show (if v < 0 then (v+(n:Int)).toNat else min v.toNat n)<=n
  by_cases hv:v < 0
  rw[if_pos hv];lia;rw[if_neg hv];exact Nat.min_le_right _ _
theorem sD (v:Int) (n d:Nat):(if v < 0 then max (v+(n:Int)) 0 else min v (n:Int))=((sIx n d (UA v):Nat):Int):=by
 show (if v < 0 then max (v+(n:Int)) 0 else min v (n:Int))=(((if v < 0 then (v+(n:Int)).toNat else min v.toNat n):Nat):Int)
 by_cases hv:v < 0
 simp only[if_pos hv];lia;simp only[if_neg hv];lia
theorem qV (lo hi:Option Int) (n:Nat):Qw lo hi 1 (n:Int)=(((sIx n 0 lo:Nat):Int),((sIx n n hi:Nat):Int)):=by
 have h1:¬ ((1:Int) < 0):=by lia
 unfold Qw;simp only[h1,if_false];refine Prod.ext ?_ ?_
 ·cases lo with
  | none=>rfl| some v=>exact sD v n 0
 ·cases hi with
  | none=>rfl| some v=>exact sD v n n
theorem qW (i j:Nat):PD (i:Int) (j:Int) 1=j - i:=by
 unfold PD;have h1:(1:Int) > 0:=by lia
 simp only[h1,if_true,Int.ediv_one];split<;>lia
theorem kK (p:SV v o) (h:Q o s):wpAny (Ow prog w) A (Builtin.Slice.slicePartIndex v) Q E s:=by
 cases p with
 | none=>exact slicePart_none h| int i t=>exact slicePart_int h
theorem e9 {lo:Option Int}{n:Nat} (hs:s.heap.IsSliceOf sl vl vu .none) (pl:SV vl lo) (pu:SV vu hi)
 (h:Q (((sIx n 0 lo:Nat):Int),1,sIx n n hi - sIx n 0 lo) s):wpAny (Ow prog w) A (Ru (.ref sl) (pure (n:Int))) Q E s:=by
 obtain ⟨os,hos,hcs,hds⟩:=id hs;unfold Ru Builtin.Slice.sliceFields;refine NZ (NZ (wpAny_field hos hds (x:=vl) rfl (NZ (wpAny_field hos hds (x:=vu) rfl (NZ (wpAny_field hos hds (x:=.none) rfl (wpAny_pure ?_)))))));refine NZ (slicePart_none ?_);show wpAny _ _ (if ((1:Int)==0)=UC then _ else _) _ _ s;rw[if_neg (by decide)];refine NZ (kK pl (NZ (kK pu (NZ (wpAny_pure ?_)))));show wpAny _ _ (match Qw lo hi 1 (n:Int) with|(lo,hi)=>pure (lo,(1:Int),PD lo hi 1)) _ _ s;rw[qV lo hi n];show wpAny _ _ (pure (((sIx n 0 lo:Nat):Int),(1:Int),PD ((sIx n 0 lo:Nat):Int) ((sIx n n hi:Nat):Int) 1)) _ _ s;rw[qW];exact wpAny_pure h
theorem xm (xs:Array N1) (i k:Nat):((OP k).filterMap λ(m:Nat)=>xs[((i:Int)+(m:Int)*1).toNat]?).toArray=((xs.toList.drop i).take k).toArray:=by
 have e:(λ(m:Nat)=>xs[((i:Int)+(m:Int)*1).toNat]?)=λm=>xs[i+m]?:=by
  funext m;have:((i:Int)+(m:Int)*1).toNat=i+m:=by lia
  rw[this]
 rw[e];have:=pick_run xs i k;rw[List.filterMap_map] at this;have e2:((λx=>xs[x]?) ∘ λx=>i+x)=λm=>xs[i+m]?:=rfl;rw[e2] at this;rw[this]
theorem iO {lo:Option Int} (ht:IsTup s.heap t items) (hs:s.heap.IsSliceOf sl vl vu .none) (pl:SV vl lo) (pu:SV vu hi)
 (hw:¬ (sIx items.size 0 lo=0/\sIx items.size items.size hi=items.size))
 (h:Q (.ref s.heap.objs.size) { s with heap:=s.heap.push { cls:=.type "tuple",data:=.seq ((items.toList.drop (sIx items.size 0 lo)).take (sIx items.size items.size hi - sIx items.size 0 lo)).toArray } })
 (hsz:items.size<=sizeLine):wpAny (Ow prog w) A (Sz (.ref t) (.ref sl)) Q E s:=by
 have htake:sizeOk (.seq ((items.toList.drop (sIx items.size 0 lo)).take (sIx items.size items.size hi - sIx items.size 0 lo)).toArray):=by show ((items.toList.drop (sIx items.size 0 lo)).take (sIx items.size items.size hi - sIx items.size 0 lo)).toArray.size<=sizeLine;rw[N2,Sg,List.length_drop,Rp];lia
 have hj:sIx items.size items.size hi<=items.size:=EI _ _ (N3 _) hi;obtain ⟨os,hos,hcs,hds⟩:=id hs;have hTs:s.TypeIs (.ref sl) "slice":=⟨os,hos,hcs⟩;unfold Sz
 try with_reducible refine PB ?_
 first|refine NZ (wpAny_pure ?_)|skip
 refine NZ (wpAny_sequenceKey ht.typeIs (by decide) ?_);refine NZ (Uj (name:=Om "__getitem__") ht.typeIs Ph
  (SX Ph ht.typeIs entry_tuple_getitem ?_ (args_tuple_getitem _ _)))
 show wpAny _ _ (Rt (.ref t) >>= _) _ _ s;refine NZ (tupleItemsOf_ ht ?_);refine NZ (QB hTs ?_);rw[if_pos (by decide)];refine NZ (e9 hs pl pu ?_);have hno:¬ ((((sIx items.size 0 lo:Nat):Int)==0&&(1:Int)==1&&(sIx items.size items.size hi - sIx items.size 0 lo)==items.size)=UC):=by intro q;rw[NY,NY] at q;have q1:((sIx items.size 0 lo:Nat):Int)=0:=eq_of_beq q.1.1;have q2:sIx items.size items.size hi - sIx items.size 0 lo=items.size:=eq_of_beq q.2;exact hw ⟨by lia,by lia⟩
 show wpAny _ _ (if (((sIx items.size 0 lo:Nat):Int)==0&&(1:Int)==1&&(sIx items.size items.size hi - sIx items.size 0 lo)==items.size)=UC then _ else _) _ _ s;rw[if_neg hno,xm]
 first
  | exact NZ (m:=PN _) (Px (wpAny_pure ⟨_,rfl,wpAny_pure h⟩) htake)
  | exact NZ (m:=PN _) (Px (NZ (wpAny_pure (wpAny_pure ⟨_,rfl,wpAny_pure h⟩))) htake)
  | exact NZ (NZ (m:=PN _) (Px (wpAny_pure (wpAny_pure ⟨_,rfl,wpAny_pure h⟩)) htake))
  | exact NZ (NZ (m:=PN _) (Px (wpAny_pure ⟨_,rfl,wpAny_pure h⟩) htake))
end
end HT
namespace L2
open PySem PySem.Spec PyProof.Rows
abbrev TO:=St->Hp->(Option Int->Hp->Prop)->Prop
def PO (X:Cx) (e:Option Expr) (t:TO):Prop :=
 ∀ (zt:List (Of×Obj)) (s:N4) (σ:St) (H:Hp) (Q:Option Int->Hp->Prop),Inv X zt σ H s->t σ H Q →
  wpAny (Ow X.prog X.w) X.A (evalPart e X.env) (λu s'=>∃ o H',Inv X zt σ H' s'/\SV u o/\Q o H') X.xe s
def AM:TO:=λ_ H Q=>Q UB H
def Ig (t:TE):TO:=fun σ H Q=>t σ H λx H1=>∃ i,x=.int i/\Q (UA i) H1
section
variable {lo:Option Expr}
theorem AN:PO X UB AM:=by intro zt s σ H Q I h;rw[Uq];exact wpAny_pure ⟨UB,H,I,.none,h⟩
theorem AO (h:PE X e te):PO X (UA e) (Ig te):=by intro zt s σ H Q I hw;rw[evalPart_some];refine thn (h zt s σ H _ I hw) λu s1 zq=>?_;obtain ⟨x,H1,I1,r1,q1⟩:=zq;obtain ⟨i,rfl,q⟩:=q1;obtain ⟨t,rfl⟩:=r1;exact ⟨UA i,H1,I1,.int i t,q⟩
def SlR (X:Cx) (r:V->Option Int->Option Int->Hp->VK->Prop):Prop :=
 ∀ (zt:List (Of×Obj)) (s:N4) (σ:St) (H:Hp) (x:V) (v vl vu:N1) (lo hi:Option Int) (sl:Of) (Q:VK),Inv X zt σ H s->RelV x v->s.heap.IsSliceOf sl vl vu .none->SV vl lo->SV vu hi->r x lo hi H Q →
  ∃ T id,Sx (.type T) "__getitem__"=pure (UA (.builtin id))/\s.TypeIs v T/\wpAny (Ow X.prog X.w) X.A (Sz v (.ref sl)) (EP X zt σ Q) X.xe s
def tSl (r:V->Option Int->Option Int->Hp->VK->Prop) (te:TE) (tl th:TO):TE:=fun σ H Q=>te σ H λx H1=>tl σ H1 λl H2=>th σ H2 λu H3=>r x l u H3 Q
theorem xo (hr:SlR X r) (he:PE X e te) (hl:PO X lo tl) (hu:PO X hi th):PE X (.Subscript e (.Slice lo hi UB p2) pos) (tSl r te tl th):=by intro zt s σ H Q I h;refine Subscript_ (thn (he zt s σ H _ I h) λv s1 zq=>?_);obtain ⟨x,H1,I1,r1,q1⟩:=zq;refine wpAny_Slice (thn (hl zt s1 σ H1 _ I1 q1) λvl s2 ⟨l,H2,I2,pl,q2⟩=>thn (hu zt s2 σ H2 _ I2 q2) λvu s3 zq=>?_);obtain ⟨u,H3,I3,pu,q3⟩:=zq;rw[Uq];refine wpAny_pure ?_;have I4:Inv X zt σ H3 { s3 with heap:=s3.heap.push { cls:=.type "slice",data:=.fields #[vl,vu,.none] } }:=I3.kept (t':=s3.toks) λb ob q=>NW _ q;obtain ⟨T,id,hT,ht,hg⟩:=hr zt { s3 with heap:=s3.heap.push { cls:=.type "slice",data:=.fields #[vl,vu,.none] } } σ H3 x v vl vu l u s3.heap.objs.size Q I4 r1 (Sq ..) pl pu q3;show wpAny (Ow X.prog X.w) X.A (Um e (.Slice lo hi UB p2) v (.ref s3.heap.objs.size)) (EP X zt σ Q) X.xe { s3 with heap:=s3.heap.push { cls:=.type "slice",data:=.fields #[vl,vu,.none] } };exact Ul (ops:=[.ref s3.heap.objs.size,v]) ht hT hg (by with_unfolding_all rfl)
noncomputable def pq (xs:List V) (lo hi:Option Int):List V:=(xs.drop (HT.sIx xs.length 0 lo)).take (HT.sIx xs.length xs.length hi - HT.sIx xs.length 0 lo)
theorem jQ (xs:List V) (lo hi:Option Int):(pq xs lo hi).length<=xs.length:=by unfold pq;rw[Sg,List.length_drop];lia
def Lv (K:NV):V->Option Int->Option Int->Hp->VK->Prop:=λx lo hi H Q=>∃ a xs,x=.ref a/\SqT K H a xs ∧
 ¬ (HT.sIx xs.length 0 lo=0/\HT.sIx xs.length xs.length hi=xs.length)/\∀ p,H p=UB->Q (.ref p) (upd H p (.tup (pq xs lo hi)))
theorem EJ:SlR X (Lv X.K):=by
 intro zt s σ H x v vl vu lo hi sl Q I rx hs pl pu h;obtain ⟨a,xs,rfl,hx,hw,q⟩:=h;cases rx;obtain ⟨its,r,ht,hz⟩:=I.tuple hx;have hlen:its.toArray.size=xs.length:=by rw[N2];exact r.length.symm
 refine ⟨"tuple",_,PyProof.Rows.slot_tuple_getitem.lookup,ht.typeIs,?_⟩;refine HT.iO ht hs pl pu (by rw[hlen];exact hw) ?_ (by rw[hlen];exact hz);rw[hlen];refine ⟨.ref s.heap.objs.size,_,I.laid (t':=s.toks) (o:=.tup (pq xs lo hi)) (λb ob q=>NW _ q) (N3 _) ?_,rfl,q _ (I.hok.fresh (N3 _))⟩;exact ⟨OO (jQ xs lo hi) hz,_,(r.drop (HT.sIx xs.length 0 lo)).take (HT.sIx xs.length xs.length hi - HT.sIx xs.length 0 lo),IsTup.new _ _⟩
def Ih (K:NV):R2:=λx y H Q=>∃ a b xs ys,x=.ref a/\y=.ref b/\SqT K H a xs/\SqT K H b ys/\xs≠[]/\xs.length+ys.length<=sizeLine ∧
 (ys=[]->Q (.ref a) H)/\(ys≠[]->∀ p,H p=UB->Q (.ref p) (upd H p (.tup (xs++ys))))
theorem ao.iP (r:ao xs us):us=[]↔xs=[]:=by
 cases r with
 | _=>simp
theorem AQ:OpR X (Pa .Add) (Ih X.K):=by intro zt s σ H x y v u Q I rx ry h;obtain ⟨a,b,xs,ys,rfl,rfl,ha,hb,hx,hz,q1,q2⟩:=h;cases rx;cases ry;obtain ⟨its,r1,p1,_⟩:=I.tuple ha;obtain ⟨its2,r2,p2,_⟩:=I.tuple hb;refine HT.AL p1 p2 (λz=>hx (r1.iP.mp z)) (λz=>⟨.ref a,H,I,rfl,q1 (r2.iP.mp z)⟩) (λz=>?_) (by rw[← r1.length,← r2.length];exact hz);refine ⟨.ref s.heap.objs.size,_,I.laid (t':=s.toks) (o:=.tup (xs++ys)) (λb ob q=>NW _ q) (N3 _) ?_,rfl,q2 (λw=>z (r2.iP.mpr w)) _ (I.hok.fresh (N3 _))⟩;exact ⟨by rw[Oj];exact hz,_,r1.append r2,IsTup.new _ _⟩
end
end L2
namespace L2
open PySem PySem.Spec PyProof.Rows
noncomputable def ixN (n:Nat) (i:Int):Option Nat:=if 0<=i then (if i < n then UA i.toNat else UB) else if -(n:Int)<=i then UA (i+n).toNat else UB
noncomputable def atI {α:Type} (xs:List α) (i:Int):Option α:=(ixN xs.length i).bind λj=>xs[j]?
theorem sF (h:ixN n i=UA j):seqIndex? i n=UA j/\j < n/\-(n:Int)<=i/\i < n:=by
 unfold ixN at h
 by_cases h0:0<=i
 ·rw[if_pos h0] at h
  by_cases h1:i < n
  ·rw[if_pos h1] at h;have e:i.toNat=j:=Ob h;exact ⟨by rw[seqIndex_of h0 h1,e],by lia,by lia,h1⟩
  rw[if_neg h1] at h;cases h
 ·rw[if_neg h0] at h
  by_cases h1:-(n:Int)<=i
  ·rw[if_pos h1] at h;have e:(i+n).toNat=j:=Ob h;exact ⟨by rw[seqIndex_neg (by lia) h1,e],by lia,h1,by lia⟩
  rw[if_neg h1] at h;cases h
theorem nv {α:Type}{xs:List α}{v:α} (h:atI xs i=UA v):∃ j,seqIndex? i xs.length=UA j/\xs[j]?=UA v/\j < xs.length/\-(xs.length:Int)<=i/\i < xs.length:=by
 unfold atI at h;cases e:ixN xs.length i with
 | none=>rw[e] at h;cases h
 | some j =>
  rw[e] at h;obtain ⟨h1,h2,h3,h4⟩:=sF e;exact ⟨j,h1,h,h2,h3,h4⟩
def sG (b:Expr):Prop:=∀ o i,subscripted b UD o i=operate [o,i] (Sz o i)
def IxR (X:Cx) (r:R2):Prop :=
 ∀ (value slice:Expr) (zt:List (Of×Obj)) (s:N4) (σ:St) (H:Hp) (x y:V) (v u:N1) (Q:VK),Inv X zt σ H s->RelV x v->RelV y u->r x y H Q →
  subscripted slice UD v u=operate [v,u] (Sz v u)->wpAny (Ow X.prog X.w) X.A (Um value slice v u) (EP X zt σ Q) X.xe s
def MtR (X:Cx) (id:String) (r:V->List V->Hp->VK->Prop):Prop :=
 ∀ (zt:List (Of×Obj)) (s:N4) (σ:St) (H:Hp) (x:V) (xs:List V) (v:N1) (us:List N1) (Q:VK),Inv X zt σ H s->RelV x v->ao xs us->r x xs H Q →
  wpAny (Ow X.prog X.w) X.A (call (.builtin id) (v::us)) (EP X zt σ Q) X.xe s
section
theorem Ii (hr:IxR X r) (ha:PE X a ta) (hb:PE X b tb) (hs:sG b):PE X (.Subscript a b pos) (tOp r ta tb):=by intro zt s σ H Q I h;exact Subscript_ (Et ha hb I h λv u s2 x y H2 I2 rx ry q=>hr a b zt s2 σ H2 x y v u Q I2 rx ry q (hs _ _))
def Ly (K:NV):R2:=λx y H Q=>∃ p xs i v,x=.ref p/\y=.int i/\SqL K H p xs/\atI xs i=UA v/\Q v H
def Lz (K:NV):R2:=λx y H Q=>∃ p xs i v,x=.ref p/\y=.int i/\SqT K H p xs/\atI xs i=UA v/\Q v H
def LC:R2:=λx y H Q=>∃ z i c,x=.str z/\y=.int i/\z.length<=sizeLine/\atI z.cps.toList i=UA c/\Q (.str ⟨#[c]⟩) H
theorem AR:IxR X (Ly X.K):=by
 intro value slice zt s σ H x y v u Q I rx ry h hs;obtain ⟨p,xs,i,z,rfl,rfl,hq,he,q⟩:=h;cases rx;obtain ⟨t,rfl⟩:=ry;obtain ⟨its,r,pl,hz⟩:=I.list hq;obtain ⟨j,h1,h2,h3,h4,h5⟩:=nv he;obtain ⟨w,ew,rw'⟩:=r.get h2;have hl:=r.length;have hn:=jr;have fin:EP X zt σ Q w s:=⟨z,H,I,rw',q⟩
 by_cases h0:0<=i
 ·have hj:i.toNat=j:=by rw[seqIndex_of h0 h5] at h1;exact Ob h1
  exact item_listR pl.isList h0 (by lia) (by rw[hj];simpa using ew) fin hs
 ·have hj:(i+(its.toArray.size:Int)).toNat=j:=by rw[seqIndex_neg (by lia) h4] at h1;rw[N2,← hl];exact Ob h1
  exact subscriptTail_builtinR (x:=w) pl.isList.typeIs slot_list_getitem.lookup
   (wpAny_getItem_list_neg (Q:=λr s'=>r=w/\EP X zt σ Q r s') pl.isList (by lia) (by rw[N2]<;>lia) (by lia) (by rw[hj];simpa using ew) ⟨rfl,fin⟩) hs
theorem EK:IxR X (Lz X.K):=by
 intro value slice zt s σ H x y v u Q I rx ry h hs;obtain ⟨p,xs,i,z,rfl,rfl,hq,he,q⟩:=h;cases rx;obtain ⟨t,rfl⟩:=ry;obtain ⟨its,r,pl,hz⟩:=I.tuple hq;obtain ⟨j,h1,h2,h3,h4,h5⟩:=nv he;obtain ⟨w,ew,rw'⟩:=r.get h2;have hl:=r.length;have hn:=jr;have fin:EP X zt σ Q w s:=⟨z,H,I,rw',q⟩;exact subscriptTail_builtinR (x:=w) pl.typeIs slot_tuple_getitem.lookup
  (getItem_tuple (j:=j) (Q:=λr s'=>r=w/\EP X zt σ Q r s') pl (by lia) (by lia) (by rw[N2,← hl];exact h1) (by simpa using ew) ⟨rfl,fin⟩) hs
theorem EL:IxR X LC:=by
 intro value slice zt s σ H x y v u Q I rx ry h hs;obtain ⟨z,i,c,rfl,rfl,hz,he,q⟩:=h;obtain ⟨t,rfl⟩:=rx;obtain ⟨t',rfl⟩:=ry;obtain ⟨j,h1,h2,h3,h4,h5⟩:=nv he;have hl:z.cps.toList.length=z.length:=by simp[Str.length]
 rw[hl] at h1 h4 h5;have hn:=jr;exact Ul (typeIs_str s z t) slot_str_getitem.lookup (getItem_str (c:=c) (by
  have e1:decide (i < -(2 ^ 63:Int))=UD:=decide_eq_false (by lia);have e2:decide (i ≥ 2 ^ 63)=UD:=decide_eq_false (by lia);rw[e1,e2,Tf]) (by rw[h1];simpa using h2) ⟨.str ⟨#[c]⟩,H,I.tok _,⟨_,rfl⟩,q⟩) hs
theorem qX (its:List N1) (n j:Nat) (u:N1):Qa (·.setIfInBounds j u) { cls:=.type "list",data:=.seq its.toArray n }={ cls:=.type "list",data:=.seq (its.set j u).toArray n }:=by simp[Qa]
theorem Inv.lst {zt:List (Of×Obj)}{σ:St}{H:Hp}{s:N4}{p:Of}{xs:List V} (I:Inv X zt σ H s) (h:H p=UA (.lst xs)) :
 ∃ (its:List N1) (n:Nat),ao xs its/\s.heap.get? p=UA { cls:=.type "list",data:=.seq its.toArray n }/\xs.length<=sizeLine:=by
 obtain ⟨z,its,n,r,e⟩:=I.hok p _ h;exact ⟨its,n,r,e,z⟩
theorem Inv.EM {zt:List (Of×Obj)}{σ:St}{H:Hp}{s:N4}{p:Of}{xs ys:List V}{its its':List N1}{n n':Nat}{f:Obj->Obj} (I:Inv X zt σ H s) (h:H p=UA (.lst xs))
 (ho:s.heap.get? p=UA { cls:=.type "list",data:=.seq its.toArray n }) (hf:f { cls:=.type "list",data:=.seq its.toArray n }={ cls:=.type "list",data:=.seq its'.toArray n' }) (r:ao ys its') (hz:ys.length<=sizeLine) (t:Nat) :
 Inv X zt σ (upd H p (.lst ys)) { s with heap:=s.heap.update p f,toks:=t }:=by
 have e:(s.heap.update p f).get? p=UA { cls:=.type "list",data:=.seq its'.toArray n' }:=by rw[Rf f ho (by rw[hf]<;>rfl),hf]
 refine I.write (x:=p) (e:=p) (by rw[h];trivial) (.inl rfl) (λb u hb q=>(Qk _ _ (Pb hb)).trans q) ⟨_,e⟩ ?_;exact ⟨hz,its',n',r,e⟩
noncomputable def DF:V->V->V->Hp->(Hp->Prop)->Prop:=λo i v H Q=>∃ p xs k j,o=.ref p/\i=.int k/\H p=UA (.lst xs)/\ixN xs.length k=UA j/\Q (upd H p (.lst (xs.set j v)))
theorem set_list:Ek X DF:=by
 intro zt s σ H o i v ov iv u Q I ro ri rv h;obtain ⟨p,xs,k,j,rfl,rfl,hp,hj,q⟩:=h;cases ro;obtain ⟨t,rfl⟩:=ri;obtain ⟨its,n,r,ho,hz⟩:=I.lst hp;obtain ⟨h1,h2,h3,h4⟩:=sF hj;have hl:=r.length;have hn:=jr;have I':Inv X zt σ (upd H p (.lst (xs.set j v))) { s with heap:=s.heap.update p (Qa (·.setIfInBounds j u)) } :=
  I.EM hp ho (qX its n j u) (r.set rv j) (by rw[List.length_set];exact hz) s.toks
 by_cases h0:0<=k
 ·have hk:k.toNat=j:=by rw[seqIndex_of h0 h4] at h1;exact Ob h1
  exact PySem.W.ki_setAt ho h0 (by lia) (by rw[N2,← hl];exact h4) (by rw[hk];exact ⟨_,I',q⟩)
 ·have hk:(k+(its.toArray.size:Int)).toNat=j:=by rw[seqIndex_neg (by lia) h3] at h1;rw[N2,← hl];exact Ob h1
  exact PySem.W.ki_setBack ho (by lia) (by rw[N2,← hl];exact h3) (by lia) (by rw[hk];exact ⟨_,I',q⟩)
theorem ny (lo hi:Option Int) (n:Nat):(OF lo hi UB n).1=((HT.sIx n 0 lo:Nat):Int)/\(OF lo hi UB n).2.1=((HT.sIx n n hi:Nat):Int)/\(OF lo hi UB n).2.2=1:=by
 refine ⟨?_,?_,rfl⟩
 ·cases lo with
  | none=>simp[OF,HT.sIx]
  | some i =>
   simp only[OF,HT.sIx,Ux,show (1:Int) > 0 by decide,if_true]
   by_cases h:i < 0
   simp only[h,if_true]<;>lia;simp only[h,if_false]<;>lia
 ·cases hi with
  | none=>simp[OF,HT.sIx]
  | some i =>
   simp only[OF,HT.sIx,Ux,show (1:Int) > 0 by decide,if_true]
   by_cases h:i < 0
   simp only[h,if_true]<;>lia;simp only[h,if_false]<;>lia
theorem lT (its:List N1) (lo hi:Option Int):slicePick its.toArray lo hi UB=((its.drop (HT.sIx its.length 0 lo)).take (HT.sIx its.length its.length hi - HT.sIx its.length 0 lo)).toArray:=by obtain ⟨h1,h2,h3⟩:=ny lo hi its.toArray.size;unfold slicePick;rw[h1,h2,h3];simp only[sliceRange_one,pick_run,N2]<;>rfl
def LD (K:NV):V->Option Int->Option Int->Hp->VK->Prop:=λx lo hi H Q=>∃ a xs,x=.ref a/\SqL K H a xs/\∀ p,H p=UB->Q (.ref p) (upd H p (.lst (pq xs lo hi)))
theorem AS:SlR X (LD X.K):=by intro zt s σ H x v vl vu lo hi sl Q I rx hs pl pu h;obtain ⟨a,xs,rfl,hx,q⟩:=h;cases rx;obtain ⟨its,r,ht,hz⟩:=I.list hx;have hlen:=r.length;refine ⟨"list",_,slot_list_getitem.lookup,ht.isList.typeIs,?_⟩;refine TZ ht.isList hs pl pu .none (by simp) ?_ (by rw[N2]<;>lia);rw[lT,← hlen];refine ⟨.ref s.heap.objs.size,_,I.laid (t':=s.toks) (o:=.lst (pq xs lo hi)) (λb ob q=>NW _ q) (N3 _) ?_,rfl,q _ (I.hok.fresh (N3 _))⟩;exact ⟨OO (jQ xs lo hi) hz,_,0,(r.drop (HT.sIx xs.length 0 lo)).take (HT.sIx xs.length xs.length hi - HT.sIx xs.length 0 lo),N8 _ rfl⟩
theorem iQ:cF X (.builtin "len") (λxs H Q=>∃ p ys,xs=[.ref p]/\(SqL X.K H p ys\/SqT X.K H p ys)/\Q (.int ys.length) H):=by
 intro zt s σ H xs us Q I r h;obtain ⟨p,ys,rfl,hq,q⟩:=h;obtain ⟨u,rfl,rx⟩:=vals1 r;cases rx;have hn:=jr;rcases hq with hq|hq
 ·obtain ⟨its,r',pl,hz⟩:=I.list hq;have hlen:=r'.length;exact Calls.call_len_list pl.isList (by simp only[N2]<;>lia) ⟨.int ys.length,H,I.tok _,⟨s.toks+1,by rw[N2,hlen]⟩,q⟩
 ·obtain ⟨its,r',pl,hz⟩:=I.tuple hq;have hlen:=r'.length;exact len_tuple pl (by simp only[N2]<;>lia) ⟨.int ys.length,H,I.tok _,⟨s.toks+1,by rw[N2,hlen]⟩,q⟩
theorem nA:cF X (.builtin "len") (λxs H Q=>∃ z,xs=[.str z]/\z.length<=sizeLine/\Q (.int z.length) H):=by intro zt s σ H xs us Q I r h;obtain ⟨z,rfl,hz,q⟩:=h;obtain ⟨u,rfl,t,rfl⟩:=vals1 r;have hn:=jr;exact len_str (by lia) ⟨.int z.length,H,I.tok _,⟨_,rfl⟩,q⟩
theorem iR:cF X (.type "list") (λxs H Q=>∃ p ys,xs=[.ref p]/\(SqL X.K H p ys\/SqT X.K H p ys)/\∀ l,H l=UB->Q (.ref l) (upd H l (.lst ys))):=by
 intro zt s σ H xs us Q I r h;obtain ⟨p,ys,rfl,hq,q⟩:=h;obtain ⟨u,rfl,rx⟩:=vals1 r;cases rx;have fin:∀ (its:List N1),ao ys its->ys.length<=sizeLine->∀ (h':Heap) (c':Nat),(∀ b o',s.heap.get? b=UA o'->h'.get? b=UA o') →
  h'.get? s.heap.objs.size=UA { cls:=.type "list",dict:=UB,data:=.seq its.toArray c',slots:=#[] }->EP X zt σ Q (.ref s.heap.objs.size) { s with heap:=h' }:=λits r' hz h' c' kp e =>
  ⟨.ref s.heap.objs.size,_,I.laid (t':=s.toks) kp (N3 _) (show b7 X.prog X.w _ h' _ (.lst ys) from ⟨hz,its,c',r',e⟩),rfl,q _ (I.hok.fresh (N3 _))⟩
 rcases hq with hq|hq
 ·obtain ⟨its,r',pl,hz⟩:=I.list hq;have hlen:=r'.length;obtain ⟨o,ho,hc,n,hd⟩:=pl.isList;exact call_list_seq p (.inl rfl) ho hc hd (λh' c' kp e=>fin its r' hz h' c' kp e) (by simp only[N2]<;>lia)
 ·obtain ⟨its,r',pl,hz⟩:=I.tuple hq;have hlen:=r'.length;obtain ⟨o,ho,hc,n,hd⟩:=pl;exact call_list_seq p (.inr rfl) ho hc hd (λh' c' kp e=>fin its r' hz h' c' kp e) (by simp only[N2]<;>lia)
theorem gX:cF X (.type "tuple") (λxs H Q=>∃ p ys,xs=[.ref p]/\((SqL X.K H p ys/\∀ l,H l=UB->Q (.ref l) (upd H l (.tup ys)))\/(SqT X.K H p ys/\Q (.ref p) H))):=by
 intro zt s σ H xs us Q I r h;obtain ⟨p,ys,rfl,h⟩:=h;obtain ⟨u,rfl,rx⟩:=vals1 r;cases rx;rcases h with ⟨hq,q⟩|⟨hq,q⟩
 ·obtain ⟨its,r',pl,hz⟩:=I.list hq;have hlen:=r'.length;refine call_tuple_list pl.isList (λh' kp=>?_) (by simp only[N2]<;>lia);have I1:Inv X zt σ H { s with heap:=h' }:=I.kept (t':=s.toks) kp;have I2:Inv X zt σ (upd H h'.objs.size (.tup ys)) { s with heap:=h'.push { cls:=.type "tuple",data:=.seq its.toArray } } :=
   I1.laid (t':=s.toks) (λb o e=>NW _ e) (N3 _) (show b7 X.prog X.w _ _ _ (.tup ys) from ⟨hz,its,r',IsTup.new _ _⟩)
  exact ⟨.ref h'.objs.size,_,I2,rfl,q _ (I1.hok.fresh (N3 _))⟩
 ·obtain ⟨its,r',pl,hz⟩:=I.tuple hq;exact call_tuple_same pl ⟨.ref p,H,I,rfl,q⟩
def tyV (K:NV) (T:String) (x:V) (H:Hp):Prop:=match x with
 | .str _=>T="str"| .int _=>T="int"| .ref p=>(T="list"/\∃ xs,SqL K H p xs)\/(T="tuple"/\∃ o,K.lookup p=UA o/\o.cls=.type "tuple"/\o.dict=UB) ∨
  (T="dict"/\((∃ kvs,H p=UA (.dK kvs))\/∃ kvs,H p=UA (.dT kvs)))\/(T="set"/\∃ S n,H p=UA (.set S n))
 | _=>False
theorem qY (I:Inv X zt σ H s) (r:RelV x v) (ty:tyV X.K T x H) :
 s.TypeIs v T/\∀ a,v=.ref a->∃ ob,s.heap.get? a=UA ob/\ob.dict=UB:=by
 cases x with
 | str z =>
  obtain ⟨t,rfl⟩:=r;cases (show T="str" from ty);exact ⟨typeIs_str s z t,λ_ e=>nomatch e⟩
 | int i =>
  obtain ⟨t,rfl⟩:=r;cases (show T="int" from ty);exact ⟨typeIs_int s i t,λ_ e=>nomatch e⟩
 | ref p =>
  cases r;rcases ty with ⟨rfl,xs,hq⟩|⟨rfl,o,hk,hc,hd⟩|⟨rfl,hk⟩|⟨rfl,S,n,hk⟩
  ·obtain ⟨its,_,pl,_⟩:=I.list hq;refine ⟨pl.isList.typeIs,λa e=>?_⟩;cases e;obtain ⟨o,n,e,c,hd,_⟩:=pl;exact ⟨o,e,hd⟩
  ·refine ⟨⟨o,I.kIn p o hk,hc⟩,λa e=>?_⟩;cases e;exact ⟨o,I.kIn _ o hk,hd⟩
  ·have z:∃ o,s.heap.get? p=UA o/\o.ExactDict:=by
    rcases hk with ⟨kvs,hk⟩|⟨kvs,hk⟩
    ·obtain ⟨_,_,_,_,o,_,_,e,ex,_⟩:=I.hok p _ hk;exact ⟨o,e,ex⟩
    ·obtain ⟨_,_,_,_,o,_,_,e,ex,_⟩:=I.hok p _ hk;exact ⟨o,e,ex⟩
   obtain ⟨o,e,ex⟩:=z;refine ⟨⟨o,e,ex.1⟩,λa e2=>?_⟩;cases e2;exact ⟨o,e,ex.2.1⟩
  ·obtain ⟨o,_,_,_,e,ex,_⟩:=I.hok p _ hk;refine ⟨⟨o,e,ex.1⟩,λa e2=>?_⟩;cases e2;exact ⟨o,e,ex.2.1⟩
 | _=>exact ON ty
def LG (K:NV) (T:String) (r:V->List V->Hp->VK->Prop) (to:TE):TE:=fun σ H Q=>to σ H λx H1=>tyV K T x H1/\r x [] H1 Q
def tBM (K:NV) (T:String) (r:V->List V->Hp->VK->Prop) (to:TE) (t:TA):TE:=fun σ H Q=>to σ H λx H1=>tyV K T x H1/\t σ H1 λxs H2=>r x xs H2 Q
variable {id:String}
theorem EN (pa:PlainAttrs T) (slot:Slot T name id) (hty:typeOf (.builtin id)=pure (.type "method_descriptor")) (hm:MtR X id r) (ho:PE X o to)
 (hbase:Rg o name X.env (eval o X.env)=eval o X.env:=by rfl) (hline:(apos.endLine==cpos.line)=UC:=by rfl):PE X (.Call (.Attribute o name apos) [] [] cpos) (LG X.K T r to):=by
 intro zt s σ H Q I h;refine Uk hbase hline (thn (ho zt s σ H _ I h) λv s1 zq=>?_);obtain ⟨x,H1,I1,r1,ty,q1⟩:=zq;obtain ⟨h1,h2⟩:=qY I1 r1 ty;exact ⟨T,id,pa,slot,hty,h1,h2,Q0 rfl (TR (hm zt s1 σ H1 x [] v [] Q I1 r1 .nil q1))⟩
theorem DG (pa:PlainAttrs T) (slot:Slot T name id) (hty:typeOf (.builtin id)=pure (.type "method_descriptor")) (hm:MtR X id r) (ho:PE X o to) (ha:PA X (e::es) t)
 (hbase:Rg o name X.env (eval o X.env)=eval o X.env:=by rfl)
 (hfew:((PU cpos (OA (e::es) X.env)).all (λx=>!x.1)&&(RK cpos (Qz [] X.env)).all (λx=>x.1.isSome)
 &&decide ((e::es).length+([]:List SL).length+(if ([]:List SL).isEmpty then 0 else 1) < 30))=UC:=by rfl)
 (hline:(apos.endLine==cpos.line)=UC:=by rfl) (hs:OA (e::es) X.env=(UD,eval e X.env)::OA es X.env:=by rfl) (hplain:(PU cpos (OA es X.env)).any (·.1)=UD:=by rfl) :
 PE X (.Call (.Attribute o name apos) (e::es) [] cpos) (tBM X.K T r to t):=by
 intro zt s σ H Q I h;refine wpAny_Call_method_late hbase hfew hline rfl (thn (ho zt s σ H _ I h) λv s1 zq=>?_);obtain ⟨x,H1,I1,r1,ty,q1⟩:=zq;obtain ⟨h1,h2⟩:=qY I1 r1 ty;refine ⟨T,id,pa,slot,hty,h1,h2,?_⟩;have hA:=ha cpos zt s1 σ H1 _ I1 q1;rw[hs] at hA ⊢;refine Q0 (by show (UD||(PU cpos (OA es X.env)).any (·.1))=UD;rw[hplain]<;>rfl) (Calls.evalArgs_plain ?_);exact thn hA λus s2 ⟨vs,H2,I2,r2,q2⟩=>hm zt s2 σ H2 x vs v us Q I2 r1 r2 q2
/- xs.append(e),list.index on a module's tuple .. are MtR facts of 06m -/
end
end L2
namespace L2
open PySem PySem.Spec PyProof.Rows
def MtM (X:Cx) (id:String) (r:V->List V->Hp->VK->Prop):Prop :=
 ∀ (zt:List (Of×Obj)) (s:N4) (σ:St) (H:Hp) (x:V) (xs:List V) (v:N1) (us:List N1) (Q:VK),Inv X zt σ H s->RelV x v->ao xs us->r x xs H Q →
  wpAny (Ow X.prog X.w) X.A (call (.builtin id) (v::us)) (EP X zt σ Q) X.xe s
theorem ao.one {x:V}{us:List N1} (h:ao [x] us):∃ u,us=[u]/\RelV x u:=by cases h with|cons r t=>cases t;exact ⟨_,rfl,r⟩
theorem ao.two {x y:V}{us:List N1} (h:ao [x,y] us):∃ u v,us=[u,v]/\RelV x u/\RelV y v:=by cases h with|cons r t=>obtain ⟨v,rfl,q⟩:=ao.one t;exact ⟨_,v,rfl,r,q⟩
theorem ao.zero:∀ {us:List N1},ao [] us->us=[]
 | _,.nil=>rfl
theorem ao.dropLast (h:ao xs us):ao xs.dropLast us.dropLast:=by
 induction h with
 | nil=>exact .nil
 | cons r t ih =>
  cases t with
  | nil=>exact .nil| cons q t'=>exact .cons r ih
theorem ao.rep (h:ao xs us):∀ k:Nat,ao (Oo k xs).flatten (Oo k us).flatten
 | 0=>.nil
 | k+1=>by rw[Pd,Pd,PX,PX];exact ao.append h (ao.rep h k)
theorem qZ (l:List α):l.eraseIdx (l.length - 1)=l.dropLast:=by
 induction l with
 | nil=>rfl
 | cons a r ih =>
  cases r with
  | nil=>rfl
  | cons b r =>
   have e:(a::b::r).length - 1=((b::r).length - 1)+1:=by have h1:(a::b::r).length=r.length+2:=rfl;have h2:(b::r).length=r.length+1:=rfl;lia
   rw[e,List.eraseIdx_cons_succ,ih]
   all_goals rfl
theorem foldl_rep (its:List N1):∀ (k:Nat) (acc:List N1),
 S6 (λx1 x2=>x1++x2) acc.toArray (Oo k its.toArray)=(acc++(Oo k its).flatten).toArray
 | 0,acc=>by simp
 | k+1,acc=>by
  have e:acc.toArray++its.toArray=(acc++its).toArray:=by simp
  have e2:(acc++its)++(Oo k its).flatten=acc++(Oo (k+1) its).flatten:=by rw[Pd,PX,OY]
  rw[← e2,← foldl_rep its k (acc++its),← e,Pd,Sv]
section
theorem Inv.AU {its its':List N1}{n:Nat}{f:Array N1->Array N1}{t':Nat} (I:Inv X zt σ H s) (hH:H l=UA (.lst xs))
 (e:s.heap.get? l=UA { cls:=.type "list",data:=.seq its.toArray n }) (hf:f its.toArray=its'.toArray) (hv:ao ys its') (hz:ys.length<=sizeLine) :
 Inv X zt σ (upd H l (.lst ys)) { s with heap:=s.heap.update l (Qa f),toks:=t' }:=by
 have q:=PySem.IsL.update e f;rw[hf] at q;refine I.write (x:=l) (e:=l) (by rw[hH];exact trivial) (.inl rfl) (λb' u hb hu=>(Qk s.heap (Qa f) (Pb hb)).trans hu) ⟨_,q⟩ ?_;exact ⟨hz,its',_,hv,q⟩
theorem Inv.Ij (I:Inv X zt σ H s) (hv:ao ys its) (hz:ys.length<=sizeLine) :
 Inv X zt σ (upd H s.heap.objs.size (.lst ys)) { s with heap:=s.heap.push { cls:=.type "list",data:=.seq its.toArray },toks:=t' } :=
 I.laid (λ_ _ q=>NW _ q) (N3 _) ⟨hz,its,0,hv,N8 _ rfl⟩
theorem Inv.fresh (I:Inv X zt σ H s):H s.heap.objs.size=UB:=I.hok.fresh (N3 _)
theorem Inv.AV (I:Inv X zt σ H s) (hH:H l=UA (.lst xs)):xs.length<=sizeLine/\∃ (its:List N1) (n:Nat),ao xs its/\xs.length=its.length/\s.heap.get? l=UA { cls:=.type "list",data:=.seq its.toArray n }:=by obtain ⟨z,its,n,r,e⟩:=I.hok l _ hH;exact ⟨z,its,n,r,r.length,e⟩
theorem kL (h:n<=sizeLine):O4 n=UD:=by unfold O4;exact decide_eq_false (by lia)
end
section
def AW:V->List V->Hp->VK->Prop:=λx vs H Q=>∃ l xs y,x=.ref l/\vs=[y]/\H l=UA (.lst xs)/\xs.length < sizeLine/\Q .non (upd H l (.lst (xs++[y])))
theorem uR:MtM X "list.append" AW:=by intro zt s σ H x vs v us Q I rx rv h;obtain ⟨l,xs,y,rfl,rfl,hH,hz,q⟩:=h;cases rx;obtain ⟨u,rfl,ru⟩:=rv.one;obtain ⟨z,its,n,r,hl,e⟩:=I.AV hH;refine P1 F.slot_list_append ⟨_,e,rfl⟩ F.entry_list_append (F.args_list_append_2 _ _) (PySem.list_append l its.toArray n u (by rw[N2];lia)) ⟨e,?_⟩;refine ⟨.non,_,I.AU (its':=its++[u]) hH e (by simp) (r.append (.cons ru .nil)) ?_,rfl,q⟩;rw[Oj,OX];lia
def LH:V->List V->Hp->VK->Prop:=λx vs H Q=>∃ l xs y,x=.ref l/\vs=[]/\H l=UA (.lst xs)/\xs[xs.length - 1]?=UA y/\Q y (upd H l (.lst xs.dropLast))
theorem EO:MtM X "list.pop" LH:=by
 intro zt s σ H x vs v us Q I rx rv h;obtain ⟨l,xs,y,rfl,rfl,hH,hy,q⟩:=h;cases rx;have hus:=rv.zero;subst hus;obtain ⟨z,its,n,r,hl,e⟩:=I.AV hH;obtain ⟨u,hu,ru⟩:=r.get hy;have hy':its.toArray[its.toArray.size - 1]?=UA u:=by show its.toArray[its.length - 1]?=UA u;rw[← TF,← hl];exact hu
 refine P1 F.slot_list_pop ⟨_,e,rfl⟩ F.entry_list_pop (F.args_list_pop_1 _) (MeetsSeq.list_pop_last l its.toArray n u hy' (by rw[N2];lia)) ⟨e,?_⟩;refine ⟨y,_,I.AU (its':=its.dropLast) hH e ?_ r.dropLast ?_,ru,q⟩
 ·show its.toArray.eraseIdxIfInBounds (its.toArray.size - 1)=its.dropLast.toArray;rw[N2,List.eraseIdxIfInBounds_toArray,qZ]
 ·rw[O9];lia
theorem len_rep (xs:List α) (k:Nat):(Oo k xs).flatten.length=k*xs.length:=by
 induction k with
 | zero=>simp| succ k ih=>rw[Pd,PX,Oj,ih,Nat.succ_mul,Nat.add_comm]
end
section
variable {E:N1->N4->Prop}
set_option maxRecDepth 100000 in
end
section
end
end L2
namespace Att
open PySem PySem.W PySem.Calls PyProof.Rows
theorem jZ:∀ (ns:List Int) (vs:List N1),WellAll P h vs (ns.map WData.int)->Tv vs ns:=by
 intro ns
 induction ns with
 | nil =>
  intro vs w;rw[P8] at w;cases w;exact .nil
 | cons n ns ih =>
  intro vs w;rw[Oi] at w;cases w with
  | cons a b =>
   cases a;exact .cons _ _ (ih _ b)
theorem uS {l:OpenLaw}{n:Nat} (hn:l.most=UA n) {P:Params}{h:Heap}{args:List WData}{vals:List N1}
 (hpre:l.row.toRowW.claim.pre args=UC) (hwl:WellAll P h vals args) :
 ∃ a vs ns,vals=[OL a]/\args=[WData.list (ns.map WData.int)]/\h.get? a=UA { cls:=.type "list",data:=.seq vs.toArray }/\Tv vs ns/\ns.length<=n:=by
 have hsh:WShape.hasAll [] args [.list .int]=UC:=(pre_splitW hpre).1;have hc:l.pre.holds [] { args:=args }=UC:=(pre_splitW hpre).2;obtain ⟨d,r,rfl,h1,h2⟩:=hasAllW_cons hsh;obtain rfl:=hasAllW_nil h2;obtain ⟨xs,rfl,h3⟩:=hasW_list h1;obtain ⟨ns,rfl⟩:=items_int h3;have hlen:ns.length<=n:=by
  unfold OpenLaw.pre at hc;have h4:(WTm.not (.lt (.lit (.int (n:Int))) (.len (.arg 0)))).holds [] { args:=[.list (ns.map .int)] }=UC:=by have h4:=(holds_andW hc).1;rw[hn] at h4;exact h4
  have h5:=condW_of h4 (w_not (w_lt w_lit (w_len_list (w_arg rfl))));rw[Oh] at h5;refine Nat.le_of_not_lt λq=>?_;have q':(n:Int) < ((ns.length:Nat):Int):=by lia
  first
   | (rw[decide_eq_true q'] at h5;exact absurd h5 (by decide))
   | (simp at h5;lia)
 cases hwl with
 | cons w1 w2 =>
  cases w2;cases w1 with
  | list ho hall=>exact ⟨_,_,ns,rfl,rfl,ho,jZ ns _ hall,hlen⟩
theorem uT (l:OpenLaw) (args:List WData):l.row.toRowW.claim.post args (.bool UC) args=UC :=
 postW_of (r:=l.row.toRowW) (X:=(UC==UC))
  (show WShape.has [] (.bool UC) .bool=UC by first|rfl|decide|simp[WShape.has,WShape.arms,WShape.armsAll])
  (show (WTm.eq .res (.lit (.bool UC))).value [] { args:=args,res:=UA (.bool UC),after:=args }=UA (.bool (UC==UC)) from w_eq_bool (w_res rfl) w_lit) rfl
theorem pA {l:OpenLaw}{n:Nat}{q:Ot}{loose:List Str}{XP:(Str->Option N1)->Heap->Prop}{YP:OR->Heap->Prop}{d:DefRec}
 (hn:l.most=UA n) (hdf:d.params.defaults=[])
 (call:∀ (w:OR) (s₀ s₁:N4) (mg mb:Str->Option N1) (fa:Of) (o:Obj) (pm cd doc:N1) (a:Of) (vs:List N1) (ns:List Int),
  Ground q loose [] XP w s₀ mg mb s₁.heap->YP w s₁.heap →
  s₁.heap.get? fa=UA o->o.data=.func (docDef d.name d.params d.body d.scope pm cd doc)->s₁.heap.CodeRec cd d.name->mg d.name=UA (.ref fa) →
  s₁.heap.get? a=UA { cls:=.type "list",data:=.seq vs.toArray }->Tv vs ns->ns.length<=n->s₁.gens=#[] →
  codeAny (Ow l.prog w) Us (.call (.ref fa) ⟨[.ref a],[]⟩) (λr s'=>r=.ok (.ret (.bool UC))/\OldK s₁.heap s'.heap/\s'.os=s₁.os/\SM s'.gens) s₁) :
 WalkO q loose XP YP l.row.toRowW d [] (λf vs=>Uu f vs):=by
 intro w s₀ s₁ mg mb G Y fa o pm cd doc dV kV ho hd hcd hD hmg hg args vals as hpre hlay hrd hwl hlo;obtain rfl:dV=.none:=Dflts.none hD hdf;obtain rfl:kV=.none:=Dflts.noKw hD;obtain ⟨a,vs,ns,rfl,rfl,hobj,hints,hlen⟩:=uS hn hpre hwl;refine enter_call (codeAny_mono (call w s₀ s₁ mg mb fa o pm cd doc a vs ns G Y ho (fd_plain hd) hcd hmg hobj hints hlen hg) λr s' hq=>?_);obtain ⟨rfl,h2,h3,h4⟩:=hq;exact ⟨.inl ⟨.bool UC,.bool UC,[],rfl,λ_=>rfl,.bool UC,uT l _,λ_=>⟨List.Pairwise.nil,λ_ hm=>(nomatch hm)⟩⟩,h2,h3,h4⟩
section
variable {E:N1->N4->Prop}{K:Frag}
noncomputable def ledger (h:Heap) (L d:Of):List (Of×Obj):=(OP h.objs.size).filterMap λa=>if a=L\/a=d then UB else (h.get? a).map λo=>(a,o)
end
end Att
namespace L2
open PySem PySem.Spec PyProof.Rows
theorem jv:∀ {vs:List N1}{ns:List Int},Tv vs ns->ao (ns.map V.int) vs
 | _,_,.nil=>.nil| _,_,.cons n t h=>.cons ⟨t,rfl⟩ (jv h)
end L2
namespace L2
open PySem PySem.Spec PyProof.Rows
noncomputable abbrev KOf {K:NV}{h:Heap} (_:K.In h):NV:=K
end L2
/- THE LAST THEOREM (shape;LID,My.* are yours):
 My.Adr: a structure of the addresses that your layer names (classes,functions);My.Txt K t: a structure (Prop) of the equations over K;
 My.txt_mk:{K}{implicit addresses ..} (e1:nsIn K Og "law"=UA (UA (.ref f))) (e2:K.lookup f=UA ⟨oc,od,.func (fnOf "law" "law" params body scope dV kV doc pm an cdv ct),sl⟩) (e3:codeIn K cdv "law"=UC) ..:∃ t,My.Txt K t
set_option maxRecDepth 100000 in
set_option maxHeartbeats 0 in
theorem PySem.Challenge.AX:PySem.Challenge.rw_LID.Holds:=by
 w_on;o_law;k_head;(case hw=>w_witness2)
 k_fill
 refine L2.walk_of (l:=PySem.Challenge.rw_LID) (n:=63) (k:=40) (x:="script") (CX:=λw=>..) (sp:=λ_=>My.Ad) rfl (by decide) rfl ⟨rfl,by decide,by decide⟩ (λw h Y=>PySem.W.kIn_of Y) ?F ?S ?C
 case F =>
  intro w mg fa h KX G hmg;have T:∃ t,My.Txt (L2.KOf KX) t:=by
   dsimp only[L2.KOf] -- K must stand as «<heap const> w.params» for k_is;refine' My.txt_mk ?e1 ?e2 ?e3 ..
   (case e1=>PySem.W.k_is) -- in the order: a name->its address->its object->its parts
   (case e2=>PySem.W.k_is)
   ..
  obtain ⟨t,T⟩:=T;have e0:=hmg.symm.trans (Pr KX G T.law);cases e0 -- fa is the law's own address;exact ⟨_,λs u=>.of_eq rfl,λbase kb nb=>My.law_fn T kb nb⟩ -- if «.of_eq rfl» comes too early: refine' ⟨_,?b,λbase kb nb=>My.law_fn T kb nb⟩;exact λs u=>.of_eq rfl
 case S=>exact λw H a ns hl hO hS=>..
 case C=>exact ..
(the tactic k_is has no namespace: write k_is) -/
namespace L2
open PySem PySem.Spec PyProof.Rows
abbrev CX0:CXT:=λ_ _ _ _ _ _=>False
abbrev E0:XK:=λ_ _ _=>False
theorem kM:fE CX0 X E0:=λ_ _ _ _ _ _ _ h=>h.elim
inductive Ik (K:NV) (x qual:Str) (st:SB) (f:Of) (fd:Qh):Prop where
 | mk (oc:N1) (od:Option Of) (kV doc pm:N1) (an:Option Of) (cdv ct:N1) (osl:Array (Option N1)) (h1:fd=Pf x qual (cj st) (aI st) (ak st) .none kV doc pm an cdv ct) (h2:K.lookup f=UA ⟨oc,od,.func fd,osl⟩) (h3:Q9 K cdv qual=UC):Ik K x qual st f fd
structure Fun (K:NV) (x qual:Str) (st:SB) (f:Of) (fd:Qh):Prop where
 ex:Ik K x qual st f fd
 kp:O3 K (.ref f)=UC
section
variable {K:NV}
theorem Fun.binds {st:SB} (F:Fun K x qual st f fd)
 (h:∀ (kV doc pm:N1) (an:Option Of) (cdv ct:N1) (us:List N1),us.length=ps.length->S9 (Pf x qual (cj st) (aI st) (ak st) .none kV doc pm an cdv ct) ⟨us,[]⟩=pure (ps.zip us)):Binds K fd ps []:=by
 obtain ⟨oc,od,kV,doc,pm,an,cdv,ct,osl,rfl,lk,hcd⟩:=F.ex;exact .all (h kV doc pm an cdv ct)
theorem ER {st:SB}{osl:Array (Option N1)}{kV:N1} (l:K.lookup f=UA ⟨oc,od,.func (Pf x qual (cj st) (aI st) (ak st) .none kV doc pm an cdv ct),osl⟩)
 (c:Q9 K cdv qual=UC) (k:O3 K (.ref f)=UC):Fun K x qual st f (Pf x qual (cj st) (aI st) (ak st) .none kV doc pm an cdv ct):=⟨⟨oc,od,kV,doc,pm,an,cdv,ct,osl,rfl,l,c⟩,k⟩
end
theorem uU (h:n<=1000):n < sizeLine:=RU h (by decide)
section
end
end L2
end
section
namespace L2
open PySem PySem.Spec PyProof.Rows
section
variable {κ:Type} [DecidableEq κ]
noncomputable def pB (kvs:List (κ×V)) (k:κ):Option V:=(kvs.find? λkv=>decide (kv.1=k)).map (·.2)
noncomputable def putK (kvs:List (κ×V)) (k:κ) (v:V):List (κ×V) :=
 if (kvs.any λkv=>decide (kv.1=k))=UC then kvs.map (λkv=>if kv.1=k then (kv.1,v) else kv) else kvs++[(k,v)]
theorem pC {p:κ×V}{r:List (κ×V)}{k:κ} (e:p.1=k):pB (p::r) k=UA p.2:=by simp[pB,PM,e]
theorem pF {p:κ×V}{r:List (κ×V)}{k:κ} (e:¬ p.1=k):pB (p::r) k=pB r k:=by simp[pB,PM,e]
theorem jR (kvs:List (κ×V)) (k:κ) (v:V):(putK kvs k v).length<=kvs.length+1:=by unfold putK;split;rw[Oh];lia;rw[Oj,Oq,O6];lia
theorem KV.val {kvs:List (κ×V)}{vs:List (κ×N1)} (r:KV kvs vs) (k:κ):kD (pB kvs k) (valueAt vs k):=by
 unfold KV at r
 induction r with
 | nil=>exact QD
 | @cons p q ps qs h t ih =>
  obtain ⟨h1,h2⟩:=h
  by_cases e:p.1=k
  ·have e':q.1=k:=h1.symm.trans e;have b:valueAt (q::qs) k=UA q.2:=by simp[valueAt,PM,e']
   rw[pC e,b];exact h2
  ·have e':¬ q.1=k:=λz=>e (h1.trans z);have b:valueAt (q::qs) k=valueAt qs k:=by simp[valueAt,PM,e']
   rw[pF e,b];exact ih
theorem KV.any (r:KV kvs vs) (k:κ):(kvs.any λkv=>decide (kv.1=k))=vs.any λkv=>decide (kv.1=k):=by
 unfold KV at r
 induction r with
 | nil=>rfl| cons h t ih=>rw[QA,QA,ih,h.1]
theorem KV.repl (r:KV kvs vs) (k:κ) (ry:RelV y u) :
 KV (kvs.map λkv=>if kv.1=k then (kv.1,y) else kv) (vs.map λkv=>if kv.1=k then (kv.1,u) else kv):=by
 unfold KV at r ⊢
 induction r with
 | nil=>exact .nil
 | @cons p q ps qs h t ih =>
  rw[Oi,Oi];refine .cons ?_ ih;obtain ⟨h1,h2⟩:=h
  by_cases e:p.1=k
  rw[if_pos e,if_pos (h1.symm.trans e)];exact ⟨h1,ry⟩;rw[if_neg e,if_neg (λz=>e (h1.trans z))];exact ⟨h1,h2⟩
theorem KV.put (r:KV kvs vs) (k:κ) (ry:RelV y u):KV (putK kvs k y) (Ti vs k u):=by
 unfold putK Ti;rw[r.any k]
 by_cases e:(vs.any λkv=>decide (kv.1=k))=UC
 rw[if_pos e,if_pos e];exact r.repl k ry;rw[if_neg e,if_neg e];exact Paired.snoc r ⟨rfl,ry⟩
theorem KV.length (r:KV kvs vs):kvs.length=vs.length:=Paired.length r
end
theorem pG (r:RelV (kV k) u):(au P w).is k u=UC:=by
 cases k with
 | inl i=>obtain ⟨t,e⟩:=(show ∃ t,u=Q6 i t from r);subst e;exact oR P w i t| inr x=>obtain ⟨t,e⟩:=(show ∃ t,u=Tq x t from r);subst e;exact dU P w x t
section
theorem Il (ok:HOk P w H h) (e:Rd H a u):b7 P w H h a u:=e.ok ok
theorem mQ (ok:HOk P w H h) (e:Rd H a (.dK kvs)):kvs.length<=sizeLine/\(a==Py)=UD/\∃ vs,KV kvs vs/\h.DictOf (au P w) a vs :=
 show b7 P w H h a (.dK kvs) from Il ok e
theorem xq (ok:HOk P w H h) (e:H a=UA (.dK kvs)):kvs.length<=sizeLine/\(a==Py)=UD/\∃ vs,KV kvs vs/\h.DictOf (au P w) a vs:=mQ ok (.inl e)
end
section
variable {E:N1->N4->Prop}
theorem Inv.big (I:Inv X zt σ H s):Py < s.heap.objs.size:=by have h:Og < s.heap.objs.size:=(I.mod.glob.keeps I.bk).lt;exact Qu (by decide) h
theorem AY (I:Inv X zt σ H s) (mu:Mut (H a)) (hs:Qt a s.heap h') (he:∃ q,h'.get? a=UA q) (new:b7 X.prog X.w (upd H a ob) h' a ob) :
 Inv X zt σ (upd H a ob) { s with heap:=h',toks:=t' } :=
 I.write (x:=a) (e:=a) mu (.inl rfl) (λb q hb z=>(hs.2 b hb).trans z) he new
theorem xr (z:kvs.length<=sizeLine) (hd:(a==Py)=UD) (rel:KV kvs vs) (dd:h'.DictOf (au P w) a vs) :
 b7 P w H' h' a (.dK kvs):=⟨z,hd,vs,rel,dd⟩
end
theorem xu (h:Heap) (hb:Py < h.objs.size):b7 P w H (h.push { cls:=.type "dict",data:=.dict #[] }) h.objs.size (.dK []) :=
 ⟨O5 _,beq_eq_false_iff_ne.mpr (Pb (On hb)),[],.nil,Tw h⟩
end L2
end
section
namespace BT
open PySem PySem.W PyProof.Rows
noncomputable def Ends {α:Type} (n:Nat) (P:α->Prop):KasT α->Prop
 | .ret a=>P a| .ask i j k=>i < n/\j < n/\∀ b,Ends n P (k b)
end BT
end
section
namespace BS
open PySem PySem.W PySem.Spec PyProof.Rows
section
variable {E:N1->N4->Prop}
end
end BS
end
section
namespace BX
open PySem PyProof.Rows
section
variable {prog:Ot}{w:OR}{A:PK}{E:N1->N4->Prop}{s:N4}
end
section
variable {prog:Ot}{w:OR}{A:PK}{E:N1->N4->Prop}{R:T6->N4->Prop}
end
section
variable {prog:Ot}{w:OR}{A:PK}{E:N1->N4->Prop}{s:N4}
end
section
variable {prog:Ot}{w:OR}{A:PK}{E:N1->N4->Prop}{s:N4}
end
end BX
end
section
namespace BX
open PySem PySem.Spec PyProof.Rows
theorem nB:Sx (.type "list") "keys"=pure UB:=by rw[Ry,QC];kernel_rfl
theorem nC:Sx (.type "list") "__getattr__"=pure UB:=by rw[Ry,QC];kernel_rfl
theorem kN:isSubtype (.type "AttributeError") (.type "AttributeError")=pure UC:=by rw[isSubtype_type];kernel_rfl
section
variable {prog:Ot}{w:OR}{A:PK}{E:N1->N4->Prop}{h:Heap}{g:Array GenState}{d:Drawn}{t:Nat}{os:OsState}{a:Of}{o:Obj}
theorem uV {s:N4}{e:Of}{ob:Obj}{x y z:N1}{o name:N1}{Q:Unit->N4->Prop} (he:s.heap.get? e=UA ob) (hc:ob.cls=.type "AttributeError") (hd:ob.data=.fields #[x,.none,.none,.none,y,z,unsetMember,unsetMember])
 (hQ:Q () { s with heap:=s.heap.update e (Obj.mapFields λvs=>vs.extract 0 6++#[name,o]) }):wpAny (Ow prog w) A (noteAttr (.ref e) o name) Q E s:=by
 have hT:s.TypeIs (.ref e) "AttributeError":=⟨_,he,hc⟩;unfold noteAttr;refine NZ ?_;unfold lacksNameAndObj;refine NZ (SW hT kN ?_);rw[if_neg (by decide)];refine NZ (RI he ?_);rw[hd];refine wpAny_pure ?_;refine NZ (wpAny_rule ?_);refine NZ (QB hT ?_);unfold layMembers;refine NZ (RI he ?_);rw[hd];exact wpAny_update he hQ
theorem q8 {α:Type}{Q:α->N4->Prop} (hx:h.get? a=UA o) (hc:o.cls=.type "list") (hh:A.handled=UB) (hE:∀ h' t' e,(∀ b q,h.get? b=UA q->h'.get? b=UA q)->(⟨h',g,d,t',os⟩:N4).TypeIs (.ref e) "AttributeError"->E (.ref e) ⟨h',g,d,t',os⟩) :
 wpAny (Ow prog w) A (QK (.ref a) "keys") Q E ⟨h,g,d,t,os⟩:=by
 have hT:(⟨h,g,d,t,os⟩:N4).TypeIs (.ref a) "list":=⟨_,hx,hc⟩;unfold QK raiseAttrError
 repeat (any_goals (first|assumption|with_reducible refine uV (N8 _ rfl) rfl rfl ?_|wp_step))
 unfold raiseNew;refine NZ (wpAny_handled ?_);rw[hh]
 first
  | refine wpAny_throw ?_
  | refine NZ (wpAny_pure (wpAny_throw ?_))
 refine hE _ _ _ (λb q e=>?_) ⟨_,Rf _ (N8 _ rfl) rfl,rfl⟩;rw[Qk _ _ (PR (Ou (N6 e) (by simp)))];exact NW _ (NW _ e)
theorem q9 {vs:Array N1}{n:Nat}{tk:Tok}{Q:Fin->N4->Prop} (hx:h.get? a=UA { cls:=.type "list",data:=.seq vs n }) (hh:A.handled=UB) (hE:∀ h' t' e,(∀ b q,h.get? b=UA q->h'.get? b=UA q)->(⟨h',g,d,t',os⟩:N4).TypeIs (.ref e) "AttributeError"->E (.ref e) ⟨h',g,d,t',os⟩) :
 wpAny (Ow prog w) A (Builtin.«object.__getattribute__» ⟨[.ref a,.str "keys" tk],[]⟩) Q E ⟨h,g,d,t,os⟩:=by
 have hT:(⟨h,g,d,t,os⟩:N4).TypeIs (.ref a) "list":=⟨_,hx,rfl⟩;have f4:=nB
 repeat (any_goals (first|assumption|with_reducible refine q8 hx rfl hh hE|wp_step))
theorem uW {vs:Array N1}{n:Nat}{tk:Tok}{R:T6->N4->Prop} (hx:h.get? a=UA { cls:=.type "list",data:=.seq vs n }) (hh:A.handled=UB) (hE:∀ h' t' e,(∀ b q,h.get? b=UA q->h'.get? b=UA q)->(⟨h',g,d,t',os⟩:N4).TypeIs (.ref e) "AttributeError"->R (.error (.ref e)) ⟨h',g,d,t',os⟩) :
 codeAny (Ow prog w) A (.call (.builtin "list.__getattribute__") ⟨[.ref a,.str "keys" tk],[]⟩) R ⟨h,g,d,t,os⟩ :=
 codeAny_call_builtin F.slot_list_getattribute.plain F.entry_list_ga (F.slot_list_getattribute.check _ _ _ _ _ _ _ _ (show (⟨h,g,d,t,os⟩:N4).TypeIs (.ref a) "list" from ⟨_,hx,rfl⟩) (F.args_list_getattribute_2 _ _) (q9 hx hh hE))
theorem AZ {vs:Array N1}{n:Nat}{tk:Tok}{Q:N1->N4->Prop} (hx:h.get? a=UA { cls:=.type "list",data:=.seq vs n }) (hh:A.handled=UB) (hE:∀ h' t' e,(∀ b q,h.get? b=UA q->h'.get? b=UA q)->(⟨h',g,d,t',os⟩:N4).TypeIs (.ref e) "AttributeError"->E (.ref e) ⟨h',g,d,t',os⟩):wpAny (Ow prog w) A (getAttrBy (.ref a) (.str "keys" tk) UD) Q E ⟨h,g,d,t,os⟩:=by
 have hT:(⟨h,g,d,t,os⟩:N4).TypeIs (.ref a) "list":=⟨_,hx,rfl⟩;have f2:=F.slot_list_getattribute.lookup;have f3:=F.slot_list_getattribute.bind (.ref a);have f5:=nC;have f6:=kN
 repeat (any_goals (first|assumption|wp_step))
 refine uW hx hh λh' t' e k1 k2=>?_
 repeat (any_goals (first|assumption|wp_step))
 exact hE _ _ _ k1 k2
theorem uX {vs:Array N1}{n:Nat}{Q:Option N1->N4->Prop} (hx:h.get? a=UA { cls:=.type "list",data:=.seq vs n }) (hh:A.handled=UB) (hQ:∀ h' t',(∀ b q,h.get? b=UA q->h'.get? b=UA q)->Q UB ⟨h',g,d,t',os⟩):wpAny (Ow prog w) A (getAttr? (.ref a) "keys") Q E ⟨h,g,d,t,os⟩:=by unfold getAttr? getAttrBy?;refine NZ (wpAny_mkText (NZ (wpAny_attempt (AZ hx hh λh' t' e k1 k2=>?_))));refine NZ (SW k2 kN ?_);exact wpAny_pure (hQ _ _ k1)
end
theorem cy:entryFor table "dict.update.loop"=UA Builtin.«dict.update.loop»:=entryFor_of_tree (by kernel_rfl)
theorem aK:plainId "dict.update.loop"=UC:=by decide +kernel
section
variable {prog:Ot}{w:OR}{K:Type} [DecidableEq K] {knd:KeyKind prog w K}{A:PK}{E:N1->N4->Prop}{s:N4}
theorem lU (kvs:List (K×N1)) (k:K) (v:N1):(Ti kvs k v).length<=kvs.length+1:=by unfold Ti;split<;>simp
def mR (knd:KeyKind prog w K) (h:Heap) (d it:Of) (xs:Array N1) (i:Nat) (ps:List (K×N1)):Prop :=
 xs.size=i+ps.length/\∀ (j:Nat) p,ps[j]?=UA p->∃ q key o n,xs[i+j]?=UA (.ref q)/\q≠d/\q≠it/\h.get? q=UA o/\o.cls=.type "tuple"/\o.data=.seq #[key,p.2] n/\knd.is p.1 key=UC
theorem uY {R:T6->N4->Prop}{d it a:Of}{xs:Array N1} (hh:A.in1.handled=UB) (n1:a≠d) (n2:a≠it) (n3:d≠it):∀ (ps:List (K×N1)) (cur:List (K×N1)) (i:Nat) (t0:Tok) (s:N4),mR knd s.heap d it xs i ps->s.heap.IsListIter it a i->s.heap.IsList a xs →
 s.heap.DictOf knd d cur->cur.length+ps.length<=sizeLine->(∀ h' tk,h'.DictOf knd d (ps.foldl (λc p=>Ti c p.1 p.2) cur)->(∀ b o,b≠d->b≠it->s.heap.get? b=UA o->h'.get? b=UA o)->R (.ok (.ret .none)) { s with heap:=h',toks:=tk }) →
 codeAny (Ow prog w) A (.builtin "dict.update.loop" ⟨[.ref d,.ref it,.int i t0,.none],[]⟩) R s:=by
 intro ps
 induction ps with
 | nil =>
  intro cur i t0 s hp st hl hd hz hR;refine codeAny_builtin cy ?_;rw[Qx aK _];unfold Builtin.«dict.update.loop»;refine NZ (wpAny_pyNext_list_end hh st hl (by have:=hp.1;simp at this ⊢;omega) λh' eb=>?_);refine NZ (wpAny_pure ?_);exact wpAny_pure (hR h' s.toks (hd.extBut eb n3) λb o _ b2 e=>eb b o b2 e)
 | cons p ps ih =>
  intro cur i t0 s hp st hl hd hz hR;obtain ⟨z,hp⟩:=hp;obtain ⟨q,key,o,n,e1,q1,q2,e2,oc,od,e3⟩:=hp 0 p rfl;refine codeAny_builtin cy ?_;rw[Qx aK _];unfold Builtin.«dict.update.loop»;refine NZ (wpAny_pyNext_list_item st hl e1 λh1 st1 sb=>?_);have e4:h1.get? q=UA o:=(sb.2 q q2).trans e2;refine NZ (PB ?_);refine NZ (wpAny_tryCatch ?_);unfold Builtin.Dict.pairItems;refine NZ (QB (T:="tuple") ⟨_,e4,oc⟩ ?_);rw[if_pos (by decide)];unfold seqItems?;refine NZ (NZ (RI e4 ?_));rw[od];refine wpAny_pure (wpAny_pure ?_);show wpAny _ _ (holding [key,p.2] (dictSet d key p.2)) _ _ _;have hd1:h1.DictOf knd d cur:=hd.sameBut sb n3;refine PB (wpAny_dictSet_pairs (s:={ s with heap:=h1 }) e3 hd1 (λh2 hd2 sb2=>?_) (by simp at hz;omega));have st2:h2.IsListIter it a (i+1):=let ⟨o,e,r⟩:=st1;⟨o,(sb2.2 it (Pb n3)).trans e,r⟩;have hl2:h2.IsList a xs:=let ⟨o,e,r⟩:=hl;⟨o,(sb2.2 a n1).trans ((sb.2 a n2).trans e),r⟩;have hln:=lU cur p.1 p.2;refine wpAny_pure ⟨plainId_quiet aK _,?_⟩;have e5:((i:Int)+1)=((i+1:Nat):Int):=by simp
  rw[e5];refine ih (Ti cur p.1 p.2) (i+1) _ { s with heap:=h2,toks:=s.toks+1 } ⟨by simp at z;omega,λj p' hj=>?_⟩ st2 hl2 hd2 (by simp at hz;omega) λh3 tk hd3 k3=>hR h3 tk hd3 λb o b1 b2 e=>k3 b o b1 b2 ((sb2.2 b b1).trans ((sb.2 b b2).trans e));obtain ⟨q',key',o',n',g1,g2,g3,g4,g5⟩:=hp (j+1) p' (by simpa using hj);refine ⟨q',key',o',n',?_,g2,g3,(sb2.2 q' g2).trans ((sb.2 q' g3).trans g4),g5⟩;rw[← g1];congr 1
  omega
theorem j0 {a:Of}{xs:Array N1}{n:Nat}{ps:List (K×N1)}{Q:N1->N4->Prop} (hh:A.handled=UB) (hx:s.heap.get? a=UA { cls:=.type "list",data:=.seq xs n }) (hp:mR knd s.heap s.heap.objs.size s.heap.objs.size xs 0 ps) (hz:ps.length<=sizeLine)
 (h:∀ h' tk,h'.DictOf knd s.heap.objs.size (ps.foldl (λc p=>Ti c p.1 p.2) [])->(∀ b o,s.heap.get? b=UA o->h'.get? b=UA o)->Q (.ref s.heap.objs.size) { s with heap:=h',toks:=tk }) :
 wpAny (Ow prog w) A (call (.type "dict") [.ref a]) Q E s:=by
 refine callType_codes (Q₁:=λobj s₁=>obj=.ref s.heap.objs.size/\s₁={ s with heap:=s.heap.push { cls:=.type "dict",data:=.dict #[] } }) F.kt_called_dict (F.kt_typeCall_dict_1 _) F.entry_dict_init (kt_code_dict_new _ ⟨rfl,rfl⟩) ?_
 rintro obj s₁ ⟨rfl,rfl⟩
 have hnew:(s.heap.push { cls:=.type "dict",data:=.dict #[] }).DictOf knd s.heap.objs.size []:=Tw s.heap;have hx':(s.heap.push { cls:=.type "dict",data:=.dict #[] }).get? a=UA { cls:=.type "list",data:=.seq xs n }:=NW _ hx;refine ⟨hnew.typeIs,F.args_dict_init_2 _ _,?_⟩;unfold Builtin.«dict.__init__»;refine NZ ?_;unfold Builtin.Dict.selfAndRest;refine NZ (wpAny_notOrdered_dict hnew.typeIs ?_);show wpAny _ _ (pure (s.heap.objs.size,[OL a])) _ _ _;refine wpAny_pure ?_;show wpAny _ _ (R0 "dict.__init__" s.heap.objs.size (.ref a) [] .none) _ _ _;unfold R0;refine NZ (QB (T:="list") ⟨_,hx',rfl⟩ ?_);rw[if_pos (by decide)];obtain ⟨hp0,g,d,tk,os⟩:=s;refine NZ (uX hx' hh λh1 t1 k1=>?_);rw[if_pos (by rfl)];refine NZ (wpAny_rule ?_);have hx1:=k1 _ _ hx';refine NZ (wpAny_pyIter_list (s:=⟨h1,g,d,t1,os⟩) ⟨_,hx1,rfl,_,rfl⟩ ?_);have lt:hp0.objs.size < h1.objs.size:=by obtain ⟨o,es,ep,ho,_⟩:=hnew;exact N6 (k1 _ _ ho)
 have hd1:(h1.push { cls:=.type "list_iterator",data:=.fields #[.ref a,.int 0 0] }).DictOf knd hp0.objs.size []:=by obtain ⟨o,es,ep,ho,r⟩:=hnew;exact ⟨o,es,ep,NW _ (k1 _ _ ho),r⟩
 have la:a < hp0.objs.size:=N6 hx;refine wpAny_pure ⟨plainId_quiet aK _,uY (A:=A.in1) (knd:=knd) (a:=a) (xs:=xs) (show A.in1.in1.handled=UB from hh) (On la) (On (Qu la lt)) (On lt) ps [] 0 _ ⟨h1.push { cls:=.type "list_iterator",data:=.fields #[.ref a,.int 0 0] },g,d,t1,os⟩ ⟨hp.1,λj p hj=>?_⟩ ⟨_,N8 _ rfl,rfl,rfl⟩ ⟨_,NW _ hx1,rfl,_,rfl⟩ hd1 (by simpa using hz) λh' tk hd' k'=>⟨rfl,h h' tk hd' λb o e=>?_⟩⟩
 ·obtain ⟨q,key,o,n,g1,g2,g3,g4,g5⟩:=hp.2 j p hj;have lq:q < hp0.objs.size:=N6 g4;exact ⟨q,key,o,n,g1,g2,On (Qu lq lt),NW _ (k1 _ _ (NW _ g4)),g5⟩
 ·have lb:b < hp0.objs.size:=N6 e;exact k' b o (On lb) (On (Qu lb lt)) (NW _ (k1 _ _ (NW _ e)))
end
end BX
end
section
namespace BT
open PySem
inductive D where
 | non|bl (b:Bool)|int (i:Int)|str (x:Str)|tup (xs:List D)|lst (xs:List D)
inductive FK where
 | f (x:Str)|m (c x:Str)|l (i:Nat)
 deriving DecidableEq
instance:Coe String FK:=⟨λs=>.f (Om s)⟩
inductive Cp where
 | p (d:D)|o (n:Nat)
noncomputable abbrev Ky:=Int ⊕ Str
inductive Kd where
 | t (kvs:List (Str×D))|l (kvs:List (Ky×D))
inductive W where
 | p (d:D)|r (n:Nat)|k (kvs:Kd)|o (n:Nat)|c (f:FK) (cs:List Cp)|x (c:Str)
noncomputable def Cp.w:Cp->W
 | .p d=>.p d| .o n=>.o n
@[simp] theorem Cp.w_p (d:D):Cp.w (.p d)=.p d:=rfl
@[simp] theorem Cp.w_o (n:Nat):Cp.w (.o n)=.o n:=rfl
noncomputable def pH:W->Option Cp
 | .p d=>UA (.p d)| .o n=>UA (.o n)| .r _=>UB| .k _=>UB| .c _ _=>UB| .x _=>UB
@[simp] theorem Ka (d:D):pH (.p d)=UA (.p d):=rfl
@[simp] theorem Kc (n:Nat):pH (.o n)=UA (.o n):=rfl
inductive Cl where
 | l (xs:List D)|o (c:Str) (fs:List (Str×W))|d (kvs:List (Ky×D))
noncomputable abbrev HH:=List Cl
noncomputable abbrev Sl:=List (Option W)
set_option genInjectivity false in
inductive Bin where
 | add|sub|mul|mod|fdiv|pow
set_option genInjectivity false in
inductive Cm where
 | eq|ne|lt|le|gt|ge|isN|notN|mem|nmem
set_option genInjectivity false in
inductive Sr where
 | seq|rng1|rng2|rev|enu|zip2
inductive Bi where
 | len|abs|int|str|bool|list|tuple|all|any|isInt|isBool|isStr|isTuple|isList|min2|max2
 | sum|sorted|max1|lzip|nset|sset
set_option genInjectivity false in
inductive Me where
 | append|pop|extend|tindex|sindex|dget|count|lindex
inductive Dk where
 | of|ks|so
set_option genInjectivity false in
mutual
inductive E where
 | var (i:Nat)
 | cst (d:D)
 | glo (x:Str)
 | bin (o:Bin) (a b:E)
 | neg (a:E)
 | not (a:E)
 | and (a b:E)
 | or (a b:E)
 | cmp (o:Cm) (a b:E)
 | chain (o o':Cm) (a b c:E)
 | ite (c a b:E)
 | tup (as:Es)
 | lst (mu:Bool) (as:Es)
 | idx (a i:E)
 | slc (a:E) (lo hi:Es)
 | rvs (a:E)
 | stp (mu:Bool) (k:Int) (a:E)
 | call (f:Str) (as:Es)
 | fld (a:E) (f:Str)
 | meth (o:E) (m:Str) (as:Es)
 | make (c:Str) (as:Es)
 | bi (b:Bi) (mu:Bool) (as:Es)
 | lsr (mu:Bool) (sr:Sr) (as:Es)
 | me (m:Me) (o:E) (as:Es)
 | comp (mu:Bool) (sr:Sr) (sa:Es) (tg:List Str) (fv:List (Nat×Str)) (cond:Es) (elt:E)
 | callv (i:Nat) (as:Es)
 | methL (o:E) (m:Str) (as:Es) (L:Nat) (fv:List (Nat×Str))
 | dnew
 | dli (o:E)
 | dk (k:Dk) (a:E)
inductive Es where
 | nil
 | cons (a:E) (as:Es)
end
set_option genInjectivity false in
inductive S where
 | nil
 | seq (a b:S)
 | set (i:Nat) (e:E)
 | unp (xs:List (Nat×Str)) (e:E)
 | aug (i:Nat) (o:Bin) (e:E)
 | put (i:Nat) (k e:E)
 | putd (i:Nat) (k e:E)
 | setf (o:E) (f:Str) (e:E)
 | augf (o:E) (f:Str) (op:Bin) (e:E)
 | ex (e:E)
 | ret (e:E)
 | ife (c:E) (a b:S)
 | whl (c:E) (b:S)
 | for (tg:List (Nat×Str)) (sr:Sr) (sa:Es) (b:S)
 | brk|cnt
 | bad
 | rai (c:Str) (e:E)
set_option genInjectivity false in
structure Fn where
 ps:List Str
 ns:List Str
 body:S
noncomputable abbrev Z9 (a:E):Es:=.cons a .nil
noncomputable abbrev Z8 (a b:E):Es:=.cons a (.cons b .nil)
noncomputable abbrev Z7 (a b c:E):Es:=.cons a (.cons b (.cons c .nil))
noncomputable abbrev Z6 (a b c d:E):Es:=.cons a (.cons b (.cons c (.cons d .nil)))
noncomputable abbrev Z5 (a b c d e:E):Es:=.cons a (.cons b (.cons c (.cons d (.cons e .nil))))
noncomputable abbrev Z4 (a b c d e f:E):Es:=.cons a (.cons b (.cons c (.cons d (.cons e (.cons f .nil)))))
noncomputable def bnd {α β:Type} (x:Option (α×HH)) (k:α->HH->Option β):Option β :=
 match x with|some (a,h)=>k a h|none=>UB
@[simp] theorem aO (a:α) (h:HH) (k:α->HH->Option β):bnd (UA (a,h)) k=k a h:=rfl
@[simp] theorem Im (k:α->HH->Option β):bnd UB k=UB:=rfl
@[simp] noncomputable def lim:Nat:=100000
mutual
@[simp] noncomputable def eqv:D->D->Bool
 | .non,.non=>UC| .bl a,.bl b=>a==b| .bl a,.int j=>(if a then (1:Int) else 0)==j| .int i,.bl b=>i==(if b then (1:Int) else 0)| .int i,.int j=>i==j| .str x,.str y=>x==y| .tup xs,.tup ys=>lV xs ys| .lst xs,.lst ys=>lV xs ys| _,_=>UD
@[simp] noncomputable def lV:List D->List D->Bool
 | [],[]=>UC| x::xs,y::ys=>eqv x y&&lV xs ys| _,_=>UD
end
noncomputable def nE:Cl->Option (List D)
 | .l xs=>UA xs| .o _ _=>UB| .d _=>UB
noncomputable def pI:Cl->Option (Str×List (Str×W))
 | .l _=>UB| .o c fs=>UA (c,fs)| .d _=>UB
noncomputable def uZ:Cl->Option (List (Ky×D))
 | .l _=>UB| .o _ _=>UB| .d kvs=>UA kvs
@[simp] theorem LJ (kvs:List (Ky×D)):nE (.d kvs)=UB:=rfl
@[simp] theorem LK (kvs:List (Ky×D)):pI (.d kvs)=UB:=rfl
@[simp] theorem LM (kvs:List (Ky×D)):uZ (.d kvs)=UA kvs:=rfl
@[simp] theorem LN (xs:List D):uZ (.l xs)=UB:=rfl
@[simp] theorem LP (c:Str) (fs:List (Str×W)):uZ (.o c fs)=UB:=rfl
@[simp] theorem LQ (xs:List D):nE (.l xs)=UA xs:=rfl
@[simp] theorem LR (c:Str) (fs:List (Str×W)):nE (.o c fs)=UB:=rfl
@[simp] theorem LS (xs:List D):pI (.l xs)=UB:=rfl
@[simp] theorem ES (c:Str) (fs:List (Str×W)):pI (.o c fs)=UA (c,fs):=rfl
noncomputable def lat (h:HH) (n:Nat):Option (List D):=(h[n]?).bind nE
noncomputable def oat (h:HH) (n:Nat):Option (Str×List (Str×W)):=(h[n]?).bind pI
noncomputable def dat (h:HH) (n:Nat):Option (List (Ky×D)):=(h[n]?).bind uZ
noncomputable def fY:D->Option Ky
 | .non=>UB| .bl _=>UB| .int i=>UA (.inl i)| .str x=>UA (.inr x)| .tup _=>UB| .lst _=>UB
@[simp] theorem Io (i:Int):fY (.int i)=UA (.inl i):=rfl
@[simp] theorem Ip (x:Str):fY (.str x)=UA (.inr x):=rfl
noncomputable def gW:Ky->D
 | .inl i=>.int i| .inr x=>.str x
@[simp] theorem LU (i:Int):gW (.inl i)=.int i:=rfl
@[simp] theorem LV (x:Str):gW (.inr x)=.str x:=rfl
noncomputable def bB (kvs:List (Ky×D)) (k:Ky):Option D:=(kvs.find? λkv=>decide (kv.1=k)).map (·.2)
noncomputable def c7 (kvs:List (Ky×D)) (k:Ky) (v:D):List (Ky×D) :=
 if (kvs.any λkv=>decide (kv.1=k))=UC then kvs.map (λkv=>if kv.1=k then (kv.1,v) else kv) else kvs++[(k,v)]
noncomputable def fZ (kvs:List (Ky×D)):List D:=kvs.map λq=>.tup [gW q.1,q.2]
noncomputable def rd (w:W) (h:HH):Option D:=match w with
 | .p d=>UA d| .r n=>(lat h n).map D.lst| .k _=>UB| .o _=>UB| .c _ _=>UB| .x _=>UB
@[simp] theorem NK (d:D) (h:HH):rd (.p d) h=UA d:=rfl
noncomputable def big (i:Int):Bool:=decide (i.natAbs < 2 ^ 64)
noncomputable def rep (k:Nat) (xs:List D):List D:=(Oo k xs).flatten
noncomputable def jw:Bin->D->D->Option D
 | .add,.int i,.int j=>UA (.int (i+j))
 | .add,.str x,.str y=>if x.length+y.length<=lim then UA (.str (x++y)) else UB
 | .add,.tup xs,.tup ys=>if xs.length+ys.length<=lim then UA (.tup (xs++ys)) else UB
 | .add,.lst xs,.lst ys=>if xs.length+ys.length<=lim then UA (.lst (xs++ys)) else UB
 | .sub,.int i,.int j=>UA (.int (i - j))
 | .mul,.int i,.int j=>if big i||big j then UA (.int (i*j)) else UB
 | .mul,.tup xs,.int k=>if 2<=k&&k<=1000&&!xs.isEmpty&&xs.length*k.toNat<=lim then UA (.tup (rep k.toNat xs)) else UB
 | .mul,.lst xs,.int k=>if -1000<=k&&k<=1000&&xs.length*k.toNat<=lim then UA (.lst (rep k.toNat xs)) else UB
 | .mod,.int i,.int j=>if 0 < j then UA (.int (i % j)) else UB
 | .fdiv,.int i,.int j=>if 0 < j&&j < 1073741824 then UA (.int (i / j)) else UB
 | .pow,.int i,.int j=>if 0<=j&&j<=100&&big i then UA (.int (i ^ j.toNat)) else UB
 | _,_,_=>UB
noncomputable def kO:Bin->D->D->Option D
 | .add,.int i,.int j=>UA (.int (i+j))| .sub,.int i,.int j=>UA (.int (i - j))
 | .mul,.int i,.int j=>if big i||big j then UA (.int (i*j)) else UB
 | _,_,_=>UB
@[simp] theorem Iq (i j:Int):kO .add (.int i) (.int j)=UA (.int (i+j)):=rfl
@[simp] theorem Ir (i j:Int):kO .sub (.int i) (.int j)=UA (.int (i - j)):=rfl
@[simp] theorem pJ (i j:Int):kO .mul (.int i) (.int j)=if big i||big j then UA (.int (i*j)) else UB:=rfl
@[simp] noncomputable def place (n:Nat) (i:Int):Option Nat :=
 if 0<=i then (if i < n then UA i.toNat else UB) else if -(n:Int)<=i then UA (i+n).toNat else UB
@[simp] noncomputable def atP {α:Type} (xs:List α) (i:Int):Option α:=(place xs.length i).bind λj=>xs[j]?
@[simp] noncomputable def cG (k:Str):List (Str×D)->Option D
 | []=>UB
 | (x,d)::r=>if k=x then UA d else cG k r
noncomputable def aG:D->D->Option D
 | .tup xs,.int i=>atP xs i| .lst xs,.int i=>atP xs i
 | .str x,.int i=>if x.length<=lim then (atP x.cps.toList i).map λc=>.str ⟨#[c]⟩ else UB
 | _,_=>UB
@[simp] noncomputable def clip (n d:Nat):Option Int->Nat
 | none=>d
 | some v=>if v < 0 then (v+(n:Int)).toNat else if v<=(n:Int) then v.toNat else n
@[simp] noncomputable def cut (xs:List D) (lo hi:Option Int):List D:=(xs.drop (clip xs.length 0 lo)).take (clip xs.length xs.length hi - clip xs.length 0 lo)
@[simp] noncomputable def nF:List D->Option (Option Int)
 | []=>UA UB| [.int i]=>UA (UA i)| _=>UB
noncomputable def rf (x:D) (lo hi:Option Int):Option D:=match x with
 | .tup xs=>UA (.tup (cut xs lo hi))| .lst xs=>UA (.lst (cut xs lo hi))| _=>UB
noncomputable def dok:Nat->D->Bool
 | _,.non=>UC| _,.bl _=>UC| _,.int _=>UC| _,.str _=>UC| 0,.tup _=>UD| 0,.lst _=>UD| n+1,.tup xs=>xs.all (dok n)| n+1,.lst xs=>xs.all (dok n)
@[simp] theorem Ke (n:Nat):dok n .non=UC:=by cases n<;>rfl
@[simp] theorem LW (n:Nat) (b:Bool):dok n (.bl b)=UC:=by cases n<;>rfl
@[simp] theorem A1 (n:Nat) (i:Int):dok n (.int i)=UC:=by cases n<;>rfl
@[simp] theorem Kf (n:Nat) (x:Str):dok n (.str x)=UC:=by cases n<;>rfl
@[simp] theorem sH (n:Nat) (xs:List D):dok (n+1) (.tup xs)=xs.all (dok n):=rfl
@[simp] theorem sI (n:Nat) (xs:List D):dok (n+1) (.lst xs)=xs.all (dok n):=rfl
noncomputable def aT (x y:D):Bool:=dok 100 x||dok 100 y
@[simp] theorem Iu (x:D) (y:Str):aT x (.str y)=UC:=by simp[aT]
@[simp] theorem Iw (x:D) (y:Int):aT x (.int y)=UC:=by simp[aT]
@[simp] theorem G1 (x:D) (y:Str):aT (.str y) x=UC:=by simp[aT]
@[simp] theorem G3 (x:D) (y:Int):aT (.int y) x=UC:=by simp[aT]
@[simp] theorem G4 (x:D):aT x (.tup [])=UC:=by simp[aT,dok]
@[simp] theorem G5 (x:D):aT x (.lst [])=UC:=by simp[aT,dok]
@[simp] theorem Kg (x:D) (b:Bool):aT x (.bl b)=UC:=by simp[aT]
theorem f7 (h:dok 100 y=UC):aT x y=UC:=by simp[aT,h]
noncomputable def f9:D->Bool
 | .non=>UC| .bl _=>UD| .int _=>UD| .str _=>UD| .tup _=>UD| .lst _=>UD
@[simp] theorem G6:f9 .non=UC:=rfl
@[simp] theorem Iz (z:Bool):f9 (.bl z)=UD:=rfl
@[simp] theorem G7 (z:Int):f9 (.int z)=UD:=rfl
@[simp] theorem G8 (z:Str):f9 (.str z)=UD:=rfl
@[simp] theorem G9 (z:List D):f9 (.tup z)=UD:=rfl
@[simp] theorem Hf (z:List D):f9 (.lst z)=UD:=rfl
noncomputable def dg:Cm->D->D->Option Bool
 | .eq,x,y=>if aT x y then UA (eqv x y) else UB
 | .ne,x,y=>if aT x y then UA (!eqv x y) else UB
 | .lt,.int i,.int j=>UA (decide (i < j))| .le,.int i,.int j=>UA (decide (i<=j))| .gt,.int i,.int j=>UA (decide (j < i))| .ge,.int i,.int j=>UA (decide (j<=i))| .isN,x,.non=>UA (f9 x)| .notN,x,.non=>UA (!f9 x)
 | .mem,x,.tup ys=>if ys.all λy=>aT y x then UA (ys.any λy=>eqv y x) else UB
 | .mem,x,.lst ys=>if ys.all λy=>aT y x then UA (ys.any λy=>eqv y x) else UB
 | .nmem,x,.tup ys=>if ys.all λy=>aT y x then UA (!ys.any λy=>eqv y x) else UB
 | .nmem,x,.lst ys=>if ys.all λy=>aT y x then UA (!ys.any λy=>eqv y x) else UB
 | _,_,_=>UB
@[simp] noncomputable def intsOf:List D->Option (List Int)
 | []=>UA []| .int i::r=>(intsOf r).map (i :: ·)| _=>UB
@[simp] noncomputable def allB:List D->Option Bool
 | []=>UA UC
 | .bl b::r=>if b then allB r else UA UD
 | _=>UB
@[simp] noncomputable def anyB:List D->Option Bool
 | []=>UA UD
 | .bl b::r=>if b then UA UC else anyB r
 | _=>UB
noncomputable def isI:D->Bool
 | .non=>UD| .bl _=>UC| .int _=>UC| .str _=>UD| .tup _=>UD| .lst _=>UD
@[simp] theorem Kl:isI .non=UD:=rfl
@[simp] theorem LY (z:Bool):isI (.bl z)=UC:=rfl
@[simp] theorem Km (z:Int):isI (.int z)=UC:=rfl
@[simp] theorem Kn (z:Str):isI (.str z)=UD:=rfl
@[simp] theorem Ko (z:List D):isI (.tup z)=UD:=rfl
@[simp] theorem Kp (z:List D):isI (.lst z)=UD:=rfl
noncomputable def isB:D->Bool
 | .non=>UD| .bl _=>UC| .int _=>UD| .str _=>UD| .tup _=>UD| .lst _=>UD
@[simp] theorem Kq:isB .non=UD:=rfl
@[simp] theorem LZ (z:Bool):isB (.bl z)=UC:=rfl
@[simp] theorem Kr (z:Int):isB (.int z)=UD:=rfl
@[simp] theorem Ks (z:Str):isB (.str z)=UD:=rfl
@[simp] theorem Ku (z:List D):isB (.tup z)=UD:=rfl
@[simp] theorem Kv (z:List D):isB (.lst z)=UD:=rfl
noncomputable def isS:D->Bool
 | .non=>UD| .bl _=>UD| .int _=>UD| .str _=>UC| .tup _=>UD| .lst _=>UD
@[simp] theorem Kw:isS .non=UD:=rfl
@[simp] theorem L0 (z:Bool):isS (.bl z)=UD:=rfl
@[simp] theorem Kx (z:Int):isS (.int z)=UD:=rfl
@[simp] theorem Kz (z:Str):isS (.str z)=UC:=rfl
@[simp] theorem KA (z:List D):isS (.tup z)=UD:=rfl
@[simp] theorem KB (z:List D):isS (.lst z)=UD:=rfl
noncomputable def isT:D->Bool
 | .non=>UD| .bl _=>UD| .int _=>UD| .str _=>UD| .tup _=>UC| .lst _=>UD
@[simp] theorem KC:isT .non=UD:=rfl
@[simp] theorem L1 (z:Bool):isT (.bl z)=UD:=rfl
@[simp] theorem KG (z:Int):isT (.int z)=UD:=rfl
@[simp] theorem KH (z:Str):isT (.str z)=UD:=rfl
@[simp] theorem KI (z:List D):isT (.tup z)=UC:=rfl
@[simp] theorem KJ (z:List D):isT (.lst z)=UD:=rfl
noncomputable def isL:D->Bool
 | .non=>UD| .bl _=>UD| .int _=>UD| .str _=>UD| .tup _=>UD| .lst _=>UC
@[simp] theorem KM:isL .non=UD:=rfl
@[simp] theorem L3 (z:Bool):isL (.bl z)=UD:=rfl
@[simp] theorem KN (z:Int):isL (.int z)=UD:=rfl
@[simp] theorem KO (z:Str):isL (.str z)=UD:=rfl
@[simp] theorem KP (z:List D):isL (.tup z)=UD:=rfl
@[simp] theorem KQ (z:List D):isL (.lst z)=UC:=rfl
noncomputable def sortI (ns:List Int):List Int:=ns.mergeSort λa b=>decide (a<=b)
noncomputable def L4:List Int->Option Int
 | []=>UB| n::ns=>UA (ns.foldl max n)
@[simp] noncomputable def A2:List D->List D->List D
 | x::xs,y::ys=>.tup [x,y]::A2 xs ys| _,_=>[]
noncomputable def ded (ns:List Int):List Int:=ns.foldl (fun σ v=>if σ.any (·==v) then σ else σ++[v]) []
noncomputable def biD:Bi->List D->Option D
 | .len,[.tup xs]=>UA (.int xs.length)| .len,[.lst xs]=>UA (.int xs.length)
 | .len,[.str x]=>if x.length<=lim then UA (.int x.length) else UB
 | .abs,[.int i]=>UA (.int (if i < 0 then -i else i))| .int,[.int i]=>UA (.int i)| .int,[.bl b]=>UA (.int (if b then 1 else 0))
 | .str,[.int i]=>if big i then UA (.str (toString i)) else UB
 | .tuple,[.lst xs]=>UA (.tup xs)| .tuple,[.tup xs]=>UA (.tup xs)| .list,[.lst xs]=>UA (.lst xs)| .list,[.tup xs]=>UA (.lst xs)| .all,[.lst xs]=>(allB xs).map .bl| .any,[.lst xs]=>(anyB xs).map .bl| .isInt,[x]=>UA (.bl (isI x))| .isBool,[x]=>UA (.bl (isB x))| .isStr,[x]=>UA (.bl (isS x))| .isTuple,[x]=>UA (.bl (isT x))| .isList,[x]=>UA (.bl (isL x))| .min2,[.int i,.int j]=>UA (.int (if j < i then j else i))| .max2,[.int i,.int j]=>UA (.int (if j > i then j else i))
 | .sorted,[.lst xs]=>(intsOf xs).bind λns=>if ns.length < 64 then UA (.lst ((sortI ns).map .int)) else UB
 | .max1,[.lst xs]=>(intsOf xs).bind λns=>(L4 ns).map .int
 | .sum,[.lst xs]=>(intsOf xs).map λns=>.int ns.sum
 | .nset,[.lst xs]=>(intsOf xs).bind λns=>if ns.length < 1000 then UA (.int ((ded ns).length:Nat)) else UB
 | .sset,[.lst xs]=>(intsOf xs).bind λns=>if ns.length < 64 then UA (.lst ((sortI (ded ns)).map .int)) else UB
 | .lzip,[.tup xs,.tup ys]=>if 0 < xs.length/\xs.length=ys.length then UA (.lst (A2 xs ys)) else UB
 | _,_=>UB
@[simp] noncomputable def jx:Nat->List D->List D
 | _,[]=>[]| k,x::r=>.tup [.int k,x]::jx (k+1) r
noncomputable def nG:D->Option (List D)
 | .tup xs=>UA xs| .lst xs=>UA xs| _=>UB
noncomputable def upto (lo:Int) (n:Nat):List D:=(OP n).map λ(k:Nat)=>D.int (lo+(k:Int))
noncomputable def dI:Sr->List D->Option (List D)
 | .seq,[x]=>nG x
 | .rng1,[.int n]=>if -100000<=n&&n<=100000 then UA (upto 0 n.toNat) else UB
 | .rng2,[.int a,.int b]=>if -100000<=a&&a<=100000&&-100000<=b&&b<=100000 then UA (upto a (b - a).toNat) else UB
 | .rev,[.lst xs]=>UA xs.reverse| .enu,[.lst xs]=>UA (jx 0 xs)| .zip2,[.lst xs,.lst ys]=>UA (A2 xs ys)| _,_=>UB
@[simp] noncomputable def fF (x:D):List D->Nat->Option Nat
 | [],_=>UB
 | y::r,k=>if eqv y x then UA k else fF x r (k+1)
@[simp] noncomputable def IA (c:Nat):List Nat->Nat->Option Nat
 | [],_=>UB
 | y::r,k=>if y=c then UA k else IA c r (k+1)
@[simp] noncomputable def aE:List W->Option (List D)
 | []=>UA []| .p d::r=>(aE r).map (d :: ·)| .r _::_=>UB| .k _::_=>UB| .o _::_=>UB| .c _ _::_=>UB| .x _::_=>UB
noncomputable def meD:Me->D->List D->Option D
 | .tindex,.tup xs,[x]=>if xs.all λy=>aT y x then (fF x xs 0).map λ(q:Nat)=>D.int (q:Int) else UB
 | .sindex,.str x,[.str y]=>match QH x y 0 x.length 1 with
  | i::_=>UA (.int (i:Int))| []=>UB
 | .count,.lst xs,[x]=>if xs.all λy=>aT y x then UA (.int ((xs.countP λy=>eqv y x:Nat):Int)) else UB
 | .lindex,.lst xs,[x]=>if xs.all λy=>aT y x then (fF x xs 0).map λ(q:Nat)=>D.int (q:Int) else UB
 | _,_,_=>UB
theorem ET:meD .count (.lst xs) [x]=if xs.all λy=>aT y x then UA (.int ((xs.countP λy=>eqv y x:Nat):Int)) else UB:=rfl
theorem EU:meD .lindex (.lst xs) [x]=if xs.all λy=>aT y x then (fF x xs 0).map λ(q:Nat)=>D.int (q:Int) else UB:=rfl
theorem xw:meD .tindex (.tup xs) [x]=if xs.all λy=>aT y x then (fF x xs 0).map λ(q:Nat)=>D.int (q:Int) else UB:=rfl
theorem EW:meD .sindex (.str x) [.str y]=match QH x y 0 x.length 1 with
 | i::_=>UA (.int (i:Int))| []=>UB:=rfl
noncomputable def meW (m:Me) (o:W) (as:List W) (h:HH):Option (W×HH):=match m,o,as with
 | .append,.r n,[.p d]=>match lat h n with
  | some xs=>if xs.length < lim then UA (.p .non,h.set n (.l (xs++[d]))) else UB
  | none=>UB
 | .pop,.r n,[]=>match lat h n with
  | some xs=>match xs.getLast? with
   | some d=>UA (.p d,h.set n (.l xs.dropLast))| none=>UB
  | none=>UB
 | .extend,.r n,[w]=>match lat h n,(rd w h).bind nG with
  | some xs,UA ys=>if xs.length+ys.length<=lim then UA (.p .non,h.set n (.l (xs++ys))) else UB
  | _,_=>UB
 | .dget,.k (.t kvs),[.p (.str x)]=>UA (.p ((cG x kvs).getD .non),h)| .dget,.k (.t _),[.p .non]=>UA (.p .non,h)| .dget,.k (.t kvs),[.p (.str x),.p d]=>UA (.p ((cG x kvs).getD d),h)
 | m,.p d,as=>match aE as with
  | some ds=>(meD m d ds).map λx=>(.p x,h)
  | none=>UB
 | _,_,_=>UB
section
variable (n:Nat) (d:D) (h:HH) (kvs:List (Str×D)) (x:Str) (as:List W)
@[simp] theorem rj:meW .append (.r n) [.p d] h=match lat h n with
 | some xs=>if xs.length < lim then UA (.p .non,h.set n (.l (xs++[d]))) else UB
 | none=>UB:=rfl
@[simp] theorem A3:meW .pop (.r n) [] h=match lat h n with
 | some xs=>match xs.getLast? with
  | some d=>UA (.p d,h.set n (.l xs.dropLast))| none=>UB
 | none=>UB:=rfl
@[simp] theorem rm (w:W):meW .extend (.r n) [w] h=match lat h n,(rd w h).bind nG with
 | some xs,UA ys=>if xs.length+ys.length<=lim then UA (.p .non,h.set n (.l (xs++ys))) else UB
 | _,_=>UB:=rfl
@[simp] theorem IB:meW .dget (.k (.t kvs)) [.p (.str x)] h=UA (.p ((cG x kvs).getD .non),h):=rfl
@[simp] theorem EX:meW .dget (.k (.t kvs)) [.p .non] h=UA (.p .non,h):=rfl
@[simp] theorem Hg:meW .dget (.k (.t kvs)) [.p (.str x),.p d] h=UA (.p ((cG x kvs).getD d),h):=rfl
@[simp] theorem kP:meW .tindex (.p d) as h=match aE as with
 | some ds=>(meD .tindex d ds).map λx=>(.p x,h)
 | none=>UB:=rfl
@[simp] theorem u0:meW .count (.p d) as h=match aE as with
 | some ds=>(meD .count d ds).map λx=>(.p x,h)
 | none=>UB:=rfl
@[simp] theorem rA:meW .lindex (.p d) as h=match aE as with
 | some ds=>(meD .lindex d ds).map λx=>(.p x,h)
 | none=>UB:=rfl
@[simp] theorem kQ:meW .sindex (.p d) as h=match aE as with
 | some ds=>(meD .sindex d ds).map λx=>(.p x,h)
 | none=>UB:=rfl
end
noncomputable def new (mu:Bool) (xs:List D) (h:HH):W×HH:=if mu then (.r h.length,h++[.l xs]) else (.p (.lst xs),h)
@[simp] theorem Np (xs:List D) (h:HH):new UD xs h=(.p (.lst xs),h):=rfl
@[simp] theorem Nq (xs:List D) (h:HH):new UC xs h=(.r h.length,h++[.l xs]):=rfl
@[simp] noncomputable def rds (ws:List W) (h:HH):Option (List D):=match ws with
 | []=>UA []
 | w::r=>(rd w h).bind λd=>(rds r h).map (d :: ·)
noncomputable def NL:D->Option (List D)
 | .lst xs=>UA xs| _=>UB
noncomputable def unpack (n:Nat):D->Option (List D)
 | .tup xs=>if xs.length=n then UA xs else UB
 | _=>UB
noncomputable def target (n:Nat) (d:D):Option (List D):=if n=1 then UA [d] else unpack n d
section
variable (i j k a b:Int) (c:Bool) (x y:Str) (xs ys:List D) (kvs:List (Str×D)) (d e:D) (lo hi:Option Int)
@[simp] theorem ff:jw .add (.int i) (.int j)=UA (.int (i+j)):=rfl
@[simp] theorem cH:jw .add (.str x) (.str y)=if x.length+y.length<=lim then UA (.str (x++y)) else UB:=rfl
@[simp] theorem cI:jw .add (.tup xs) (.tup ys)=if xs.length+ys.length<=lim then UA (.tup (xs++ys)) else UB:=rfl
@[simp] theorem cJ:jw .add (.lst xs) (.lst ys)=if xs.length+ys.length<=lim then UA (.lst (xs++ys)) else UB:=rfl
@[simp] theorem fh:jw .sub (.int i) (.int j)=UA (.int (i - j)):=rfl
@[simp] theorem fj:jw .mul (.int i) (.int j)=if big i||big j then UA (.int (i*j)) else UB:=rfl
@[simp] theorem cK:jw .mul (.tup xs) (.int k)=if 2<=k&&k<=1000&&!xs.isEmpty&&xs.length*k.toNat<=lim then UA (.tup (rep k.toNat xs)) else UB:=rfl
@[simp] theorem cL:jw .mul (.lst xs) (.int k)=if -1000<=k&&k<=1000&&xs.length*k.toNat<=lim then UA (.lst (rep k.toNat xs)) else UB:=rfl
@[simp] theorem fk:jw .mod (.int i) (.int j)=if 0 < j then UA (.int (i % j)) else UB:=rfl
@[simp] theorem dD:jw .fdiv (.int i) (.int j)=if 0 < j&&j < 1073741824 then UA (.int (i / j)) else UB:=rfl
@[simp] theorem fm:jw .pow (.int i) (.int j)=if 0<=j&&j<=100&&big i then UA (.int (i ^ j.toNat)) else UB:=rfl
@[simp] theorem jy:aG (.tup xs) (.int i)=atP xs i:=rfl
@[simp] theorem aX:aG (.lst xs) (.int i)=atP xs i:=rfl
@[simp] theorem gc:aG (.str x) (.int i)=if x.length<=lim then (atP x.cps.toList i).map λc=>.str ⟨#[c]⟩ else UB:=rfl
@[simp] theorem xA:rf (.tup xs) lo hi=UA (.tup (cut xs lo hi)):=rfl
@[simp] theorem L5:rf (.lst xs) lo hi=UA (.lst (cut xs lo hi)):=rfl
@[simp] theorem iS:dg .eq d e=if aT d e then UA (eqv d e) else UB:=rfl
@[simp] theorem kg:dg .ne d e=if aT d e then UA (!eqv d e) else UB:=rfl
@[simp] theorem dX:dg .lt (.int i) (.int j)=UA (decide (i < j)):=rfl
@[simp] theorem dY:dg .le (.int i) (.int j)=UA (decide (i<=j)):=rfl
@[simp] theorem dZ:dg .gt (.int i) (.int j)=UA (decide (j < i)):=rfl
@[simp] theorem d7:dg .ge (.int i) (.int j)=UA (decide (j<=i)):=rfl
@[simp] theorem cX:dg .isN d .non=UA (f9 d):=rfl
@[simp] theorem b8:dg .notN d .non=UA (!f9 d):=rfl
@[simp] theorem bz:dg .mem d (.tup ys)=if ys.all λy=>aT y d then UA (ys.any λy=>eqv y d) else UB:=rfl
@[simp] theorem bC:dg .mem d (.lst ys)=if ys.all λy=>aT y d then UA (ys.any λy=>eqv y d) else UB:=rfl
@[simp] theorem bq:dg .nmem d (.tup ys)=if ys.all λy=>aT y d then UA (!ys.any λy=>eqv y d) else UB:=rfl
@[simp] theorem br:dg .nmem d (.lst ys)=if ys.all λy=>aT y d then UA (!ys.any λy=>eqv y d) else UB:=rfl
@[simp] theorem jz:biD .len [.tup xs]=UA (.int xs.length):=rfl
@[simp] theorem Hh:biD .len [.lst xs]=UA (.int xs.length):=rfl
@[simp] theorem u5:biD .len [.str x]=if x.length<=lim then UA (.int x.length) else UB:=rfl
@[simp] theorem KR:biD .abs [.int i]=UA (.int (if i < 0 then -i else i)):=rfl
@[simp] theorem KS:biD .int [.int i]=UA (.int i):=rfl
@[simp] theorem Hi:biD .int [.bl c]=UA (.int (if c then 1 else 0)):=rfl
@[simp] theorem KU:biD .str [.int i]=if big i then UA (.str (toString i)) else UB:=rfl
@[simp] theorem DH:biD .tuple [.lst xs]=UA (.tup xs):=rfl
@[simp] theorem DI:biD .tuple [.tup xs]=UA (.tup xs):=rfl
theorem sortI_perm (ns:List Int):(sortI ns).Perm ns:=List.mergeSort_perm _ _
theorem pK (ns:List Int):(sortI ns).Pairwise (·<=·):=by have:=List.pairwise_mergeSort (le:=λ(a b:Int)=>decide (a<=b)) (λa b c h1 h2=>by simp only[decide_eq_true_eq] at *;lia) (λa b=>by simp only[PP,decide_eq_true_eq];lia) ns;exact this.imp λh=>of_decide_eq_true h
@[simp] theorem EY:biD .list [.lst xs]=UA (.lst xs):=rfl
@[simp] theorem EZ:biD .list [.tup xs]=UA (.lst xs):=rfl
@[simp] theorem KW:biD .all [.lst xs]=(allB xs).map .bl:=rfl
@[simp] theorem KY:biD .any [.lst xs]=(anyB xs).map .bl:=rfl
@[simp] theorem Hj:biD .isInt [d]=UA (.bl (isI d)):=rfl
@[simp] theorem E1:biD .isBool [d]=UA (.bl (isB d)):=rfl
@[simp] theorem Hl:biD .isStr [d]=UA (.bl (isS d)):=rfl
@[simp] theorem DJ:biD .isTuple [d]=UA (.bl (isT d)):=rfl
@[simp] theorem E2:biD .isList [d]=UA (.bl (isL d)):=rfl
@[simp] theorem KZ:biD .min2 [.int i,.int j]=UA (.int (if j < i then j else i)):=rfl
@[simp] theorem K0:biD .max2 [.int i,.int j]=UA (.int (if j > i then j else i)):=rfl
@[simp] theorem L6:nG (.tup xs)=UA xs:=rfl
@[simp] theorem L7:nG (.lst xs)=UA xs:=rfl
@[simp] theorem xB:dI .seq [d]=nG d:=rfl
@[simp] theorem bI:dI .rng1 [.int a]=if -100000<=a&&a<=100000 then UA (upto 0 a.toNat) else UB:=rfl
@[simp] theorem jA:dI .rng2 [.int a,.int b]=if -100000<=a&&a<=100000&&-100000<=b&&b<=100000 then UA (upto a (b - a).toNat) else UB:=rfl
@[simp] theorem IC:dI .rev [.lst xs]=UA xs.reverse:=rfl
@[simp] theorem ID:dI .enu [.lst xs]=UA (jx 0 xs):=rfl
@[simp] theorem IE:dI .zip2 [.lst xs,.lst ys]=UA (A2 xs ys):=rfl
@[simp] theorem E3:meD .tindex (.tup xs) [d]=if xs.all λy=>aT y d then (fF d xs 0).map λ(q:Nat)=>D.int (q:Int) else UB:=rfl
@[simp] theorem xC (n:Nat):unpack n (.tup xs)=if xs.length=n then UA xs else UB:=rfl
end
@[simp] theorem gf (d:D):target 1 d=UA [d]:=rfl
@[simp] theorem IF (d:D):target 2 d=unpack 2 d:=rfl
noncomputable def sJ (o:Option D) (out:List D) (h:HH):Option (List D×HH):=UA (match o with|some x=>x::out|none=>out,h)
noncomputable def u6 (r:HH->Option (List D×HH)) (o:Option D) (h:HH):Option (List D×HH):=bnd (r h) (sJ o)
@[simp] theorem kR (o:Option D) (out:List D) (h:HH):sJ o out h=UA (match o with|some x=>x::out|none=>out,h):=rfl
@[simp] theorem nH (r:HH->Option (List D×HH)) (o:Option D) (h:HH):u6 r o h=bnd (r h) (sJ o):=rfl
noncomputable def aM (f:List D->HH->Option (Option D×HH)) (n:Nat):List D->HH->Option (List D×HH)
 | [],h=>UA ([],h)
 | d::r,h=>match target n d with
  | some ds=>bnd (f ds h) (u6 (aM f n r))| none=>UB
noncomputable def aY (d:D):Option W:=UA (.p d)
noncomputable abbrev EH:=HH->Option (W×HH)
noncomputable abbrev OpW:=W->W->HH->Option (W×HH)
@[simp] noncomputable def k2 (eb:EH) (op:OpW) (x:W) (h:HH):Option (W×HH):=bnd (eb h) (op x)
@[simp] noncomputable def lW (o:Bin) (x y:W) (h:HH):Option (W×HH):=match rd x h,rd y h with
 | some d,UA e=>(jw o d e).map λz=>(.p z,h)
 | _,_=>UB
noncomputable def inT (o:Cm) (x:W) (kvs:List (Str×D)):Option Bool:=match o,x with
 | .mem,.p (.str s)=>UA (cG s kvs).isSome| .nmem,.p (.str s)=>UA (!(cG s kvs).isSome)| _,_=>UB
noncomputable def inL (o:Cm) (x:W) (kvs:List (Ky×D)):Option Bool:=match o,x with
 | .mem,.p d=>(fY d).map λk=>(bB kvs k).isSome
 | _,_=>UB
noncomputable def inK (o:Cm) (x:W) (q:Kd):Option Bool:=match q with
 | .t kvs=>inT o x kvs| .l kvs=>inL o x kvs
noncomputable def memC:Cm->Bool
 | .mem=>UC| .nmem=>UC| _=>UD
theorem gi {o:Cm}{x:W}{q:Kd}{b:Bool} (h:memC o=UD):¬ inK o x q=UA b:=by intro e;cases o<;>first|(cases h;done)|(cases q<;>cases x<;>cases e)
@[simp] noncomputable def fT (o:Cm) (x y:W) (h:HH):Option (W×HH):=match y with
 | .k kvs=>(inK o x kvs).map λz=>(.p (.bl z),h)
 | y=>match rd x h,rd y h with
  | some d,UA e=>(dg o d e).map λz=>(.p (.bl z),h)
  | _,_=>UB
noncomputable def atT (kvs:List (Str×D)) (y:W):Option D:=match y with
 | .p (.str s)=>cG s kvs| _=>UB
noncomputable def atL (kvs:List (Ky×D)) (y:W):Option D:=match y with
 | .p d=>(fY d).bind (bB kvs)| _=>UB
noncomputable def atK (q:Kd) (y:W):Option D:=match q with
 | .t kvs=>atT kvs y| .l kvs=>atL kvs y
@[simp] theorem Nr (kvs:List (Str×D)) (x:Str):atK (.t kvs) (.p (.str x))=cG x kvs:=rfl
@[simp] theorem Nt (kvs:List (Ky×D)) (i:Int):atK (.l kvs) (.p (.int i))=bB kvs (.inl i):=rfl
@[simp] theorem Nu (kvs:List (Str×D)) (x:Str):inK .mem (.p (.str x)) (.t kvs)=UA (cG x kvs).isSome:=rfl
@[simp] theorem Nv (kvs:List (Str×D)) (x:Str):inK .nmem (.p (.str x)) (.t kvs)=UA (!(cG x kvs).isSome):=rfl
@[simp] theorem Nx (kvs:List (Ky×D)) (i:Int):inK .mem (.p (.int i)) (.l kvs)=UA (bB kvs (.inl i)).isSome:=rfl
@[simp] noncomputable def A4 (x y:W) (h:HH):Option (W×HH):=match x with
 | .k kvs=>(atK kvs y).map λz=>(.p z,h)
 | x=>match rd x h,rd y h with
  | some d,UA e=>(aG d e).map λz=>(.p z,h)
  | _,_=>UB
@[simp] noncomputable def A5 (x:W) (h:HH):Option (W×HH):=match x with | .p (.int i)=>UA (.p (.int (-i)),h)|_=>UB
@[simp] noncomputable def A6 (x:W) (h:HH):Option (W×HH):=match x with | .p (.bl b)=>UA (.p (.bl (!b)),h)|_=>UB
@[simp] noncomputable def A7 (eb:EH) (x:W) (h:HH):Option (W×HH):=match x with | .p (.bl c)=>if c then eb h else UA (.p (.bl UD),h)|_=>UB
@[simp] noncomputable def kOr (eb:EH) (x:W) (h:HH):Option (W×HH):=match x with | .p (.bl c)=>if c then UA (.p (.bl UC),h) else eb h|_=>UB
@[simp] noncomputable def A8 (ea eb:EH) (x:W) (h:HH):Option (W×HH):=match x with | .p (.bl c)=>if c then ea h else eb h|_=>UB
@[simp] noncomputable def IG (o':Cm) (e:D) (z:W) (h:HH):Option (W×HH):=match rd z h with
 | some f=>(dg o' e f).map λr=>(.p (.bl r),h)
 | none=>UB
@[simp] noncomputable def oCh (o o':Cm) (ec:EH) (x y:W) (h:HH):Option (W×HH):=match rd x h,y with
 | some d,.p e=>match dg o d e with
  | some UC=>bnd (ec h) (IG o' e)| some UD=>UA (.p (.bl UD),h)| none=>UB
 | _,_=>UB
@[simp] noncomputable def E4 (ws:List W) (h:HH):Option (W×HH):=match aE ws with|some ds=>if ds.length<=lim then UA (.p (.tup ds),h) else UB|none=>UB
@[simp] noncomputable def E5 (mu:Bool) (ws:List W) (h:HH):Option (W×HH):=match aE ws with|some ds=>if ds.length<=lim then UA (new mu ds h) else UB|none=>UB
@[simp] noncomputable def II (x:W) (l u:List W) (h:HH):Option (W×HH):=match rd x h,(aE l).bind nF,(aE u).bind nF with
 | some d,UA l',UA u'=>(rf d l' u').map λz=>(.p z,h)
 | _,_,_=>UB
@[simp] noncomputable def IJ (eu:HH->Option (List W×HH)) (x:W) (l:List W) (h:HH):Option (W×HH):=bnd (eu h) (II x l)
@[simp] noncomputable def IK (el eu:HH->Option (List W×HH)) (x:W) (h:HH):Option (W×HH):=bnd (el h) (IJ eu x)
@[simp] noncomputable def L8 (x:W) (h:HH):Option (W×HH):=match rd x h with
 | some (.tup xs)=>UA (.p (.tup xs.reverse),h)| some (.lst xs)=>UA (.p (.lst xs.reverse),h)| _=>UB
noncomputable def pL (k:Int) (xs:List D):List D:=(RJ (OF UB UB (UA k) xs.length).1 (OF UB UB (UA k) xs.length).2.1 (OF UB UB (UA k) xs.length).2.2).filterMap λi=>xs[i]?
@[simp] noncomputable def E6 (mu:Bool) (k:Int) (x:W) (h:HH):Option (W×HH):=match rd x h with
 | some (.lst xs)=>UA (new mu (pL k xs) h)| _=>UB
@[simp] noncomputable def kBi (b:Bi) (mu:Bool) (ws:List W) (h:HH):Option (W×HH):=match rds ws h with
 | some ds=>match biD b ds with
  | some d=>if mu then (match d with | .lst xs=>UA (new UC xs h)|_=>UB) else UA (.p d,h)
  | none=>UB
 | none=>UB
noncomputable def lX (x:W) (h:HH):Bool:=match x with
 | .r n=>(lat h n).isSome| .k (.l _)=>UD| _=>UC
@[simp] theorem Ma (n:Nat) (h:HH):lX (.r n) h=(lat h n).isSome:=rfl
@[simp] theorem Mb (d:D) (h:HH):lX (.p d) h=UC:=rfl
@[simp] theorem Mc (d:List (Str×D)) (h:HH):lX (.k (.t d)) h=UC:=rfl
@[simp] noncomputable def kMe (m:Me) (ea:HH->Option (List W×HH)) (x:W) (h:HH):Option (W×HH):=if lX x h then bnd (ea h) (meW m x) else UB
@[simp] noncomputable def kLs (mu:Bool) (sr:Sr) (ws:List W) (h:HH):Option (W×HH):=match (rds ws h).bind (dI sr) with
 | some ds=>if ds.length<=lim then UA (new mu ds h) else UB
 | none=>UB
@[simp] noncomputable def lY (w:W) (h:HH):Option (Option D×HH):=match w with | .p d=>UA (UA d,h)|_=>UB
noncomputable def sL (ee:EH) (cs:List W) (h:HH):Option (Option D×HH):=match cs with
 | []=>bnd (ee h) lY| [.p (.bl UC)]=>bnd (ee h) lY| [.p (.bl UD)]=>UA (UB,h)| _=>UB
@[simp] theorem K1 (ee:EH) (h:HH):sL ee [] h=bnd (ee h) lY:=rfl
@[simp] theorem K2 (ee:EH) (h:HH):sL ee [.p (.bl UC)] h=bnd (ee h) lY:=rfl
@[simp] theorem K3 (ee:EH) (h:HH):sL ee [.p (.bl UD)] h=UA (UB,h):=rfl
@[simp] noncomputable def aP (ec:Sl->HH->Option (List W×HH)) (ee:Sl->EH) (fs:Sl) (xs:List D) (h:HH):Option (Option D×HH) :=
 bnd (ec (xs.map aY++fs) h) (sL (ee (xs.map aY++fs)))
@[simp] noncomputable def fq (mu:Bool) (out:List D) (h:HH):Option (W×HH):=if out.length<=lim then UA (new mu out h) else UB
noncomputable def aU (f:Str):List (Str×W)->Option W
 | []=>UB
 | (x,w)::r=>if f=x then UA w else aU f r
noncomputable def bf (f:Str) (w:W):List (Str×W)->List (Str×W)
 | []=>[(f,w)]
 | (x,u)::r=>if f=x then (f,w)::r else (x,u)::bf f w r
@[simp] theorem IL (f:Str):aU f []=UB:=rfl
@[simp] theorem mS (f x:Str) (w:W) (r:List (Str×W)):aU f ((x,w)::r)=if f=x then UA w else aU f r:=rfl
@[simp] theorem IM (f:Str) (w:W):bf f w []=[(f,w)]:=rfl
@[simp] theorem u9 (f x:Str) (w u:W) (r:List (Str×W)):bf f w ((x,u)::r)=if f=x then (f,w)::r else (x,u)::bf f w r:=rfl
noncomputable def attrOk:W->Bool
 | .p _=>UC| .r _=>UC| .k _=>UD| .o _=>UC| .c _ _=>UD| .x _=>UD
@[simp] theorem IP (d:D):attrOk (.p d)=UC:=rfl
@[simp] theorem IQ (n:Nat):attrOk (.r n)=UC:=rfl
@[simp] theorem IR (n:Nat):attrOk (.o n)=UC:=rfl
noncomputable def A9 (f:Str) (x:W) (h:HH):Option (W×HH):=match x with
 | .o n=>match oat h n with
  | some (_,fs)=>(aU f fs).map λw=>(w,h)
  | none=>UB
 | _=>UB
@[simp] theorem E7 (f:Str) (n:Nat) (h:HH):A9 f (.o n) h=match oat h n with
 | some (_,fs)=>(aU f fs).map λw=>(w,h)
 | none=>UB:=rfl
noncomputable def rB (F:FK->List W->HH->Option (W×HH)) (q:FK) (n:Nat) (ws:List W) (h:HH):Option (W×HH):=F q (.o n::ws) h
@[simp] theorem Ho (F:FK->List W->HH->Option (W×HH)) (q:FK) (n:Nat) (ws:List W) (h:HH):rB F q n ws h=F q (.o n::ws) h:=rfl
noncomputable def xD (F:FK->List W->HH->Option (W×HH)) (m:Str) (ea:HH->Option (List W×HH)) (x:W) (h:HH):Option (W×HH):=match x with
 | .o n=>match oat h n with
  | some (c,fs)=>if (aU m fs).isNone then bnd (ea h) (rB F (.m c m) n) else UB
  | none=>UB
 | _=>UB
@[simp] theorem Ba (F:FK->List W->HH->Option (W×HH)) (m:Str) (ea:HH->Option (List W×HH)) (n:Nat) (h:HH):xD F m ea (.o n) h=match oat h n with
 | some (c,fs)=>if (aU m fs).isNone then bnd (ea h) (rB F (.m c m) n) else UB
 | none=>UB:=rfl
noncomputable def sM (n:Nat) (x:W) (h:HH):Option (W×HH):=match x with
 | .p .non=>UA (.o n,h)| _=>UB
@[simp] theorem K4 (n:Nat) (h:HH):sM n (.p .non) h=UA (.o n,h):=rfl
noncomputable def DK (F:FK->List W->HH->Option (W×HH)) (c:Str) (ws:List W) (h:HH):Option (W×HH):=bnd (F (.m c "__init__") (.o h.length::ws) (h++[.o c []])) (sM h.length)
@[simp] theorem xE (F:FK->List W->HH->Option (W×HH)) (c:Str) (ws:List W) (h:HH):DK F c ws h=bnd (F (.m c "__init__") (.o h.length::ws) (h++[.o c []])) (sM h.length):=rfl
noncomputable def fu:List W->Bool
 | []=>UC| .p _::r=>fu r| _=>UD
open Classical in
noncomputable def chk (q:Nat) (ds:List D) (f:List D->HH->Option (Option D×HH)) (xs:List D) (h:HH):Option (Option D×HH):=match f xs h with
 | some (o,h')=>if lat h' q=UA ds then UA (o,h') else UB
 | none=>UB
noncomputable def rC (mu:Bool) (sr:Sr) (n:Nat) (f:List D->HH->Option (Option D×HH)) (ws:List W) (ds:List D) (h:HH):Option (W×HH):=match ws,sr with
 | [.r q],.seq=>bnd (aM (chk q ds f) n ds h) (fq mu)| _,_=>UB
theorem xF (mu:Bool) (n:Nat) (f:List D->HH->Option (Option D×HH)) (q:Nat) (ds:List D) (h:HH):rC mu .seq n f [.r q] ds h=bnd (aM (chk q ds f) n ds h) (fq mu):=rfl
@[simp] noncomputable def mT (mu:Bool) (sr:Sr) (n:Nat) (fs:Option Sl) (ec:Sl->HH->Option (List W×HH)) (ee:Sl->EH) (ws:List W) (h:HH):Option (W×HH) :=
 match (rds ws h).bind (dI sr),fs with
 | some ds,UA fs=>if fu ws then bnd (aM (aP ec ee fs) n ds h) (fq mu) else rC mu sr n (aP ec ee fs) ws ds h
 | _,_=>UB
@[simp] noncomputable def ig (w:W) (ws:List W) (h:HH):Option (List W×HH):=UA (w::ws,h)
@[simp] noncomputable def kT (er:HH->Option (List W×HH)) (w:W) (h:HH):Option (List W×HH):=bnd (er h) (ig w)
@[simp] noncomputable def frees (s:Sl):List (Nat×Str)->Option Sl
 | []=>UA []
 | q::r=>match s[q.1]? with
  | some w=>(frees s r).map (w :: ·)| none=>UB
noncomputable def caps (s:Sl):List (Nat×Str)->Option (List Cp)
 | []=>UA []
 | q::r=>match s[q.1]? with
  | some (UA w)=>(pH w).bind λx=>(caps s r).map (x :: ·)
  | _=>UB
@[simp] theorem IS (s:Sl):caps s []=UA []:=rfl
@[simp] theorem vc (s:Sl) (q:Nat×Str) (r:List (Nat×Str)):caps s (q::r)=match s[q.1]? with
 | some (UA w)=>(pH w).bind λx=>(caps s r).map (x :: ·)
 | _=>UB:=rfl
noncomputable def noC:List W->Bool
 | []=>UC| .p _::r=>noC r| .r _::r=>noC r| .k _::_=>UD| .o _::r=>noC r| .c _ _::_=>UD| .x _::_=>UD
@[simp] theorem K5:noC []=UC:=rfl
@[simp] theorem Ny (d:D) (r:List W):noC (.p d::r)=noC r:=rfl
@[simp] theorem Nz (d:Nat) (r:List W):noC (.r d::r)=noC r:=rfl
@[simp] theorem NB (d:Nat) (r:List W):noC (.o d::r)=noC r:=rfl
noncomputable def nI (F:FK->List W->HH->Option (W×HH)) (o:Option (Option W)) (ws:List W) (h:HH):Option (W×HH):=match o with
 | some (UA (.c k cs))=>if noC ws then F k (ws++cs.map Cp.w) h else UB
 | _=>UB
@[simp] theorem IT (F:FK->List W->HH->Option (W×HH)) (k:FK) (cs:List Cp) (ws:List W) (h:HH):nI F (UA (UA (.c k cs))) ws h=if noC ws then F k (ws++cs.map Cp.w) h else UB:=rfl
noncomputable def xG (w:W) (h:HH):Option (W×HH):=match w with
 | .c _ _=>UB| .x _=>UB| .k _=>UB| w=>UA (w,h)
@[simp] theorem Mf (d:D) (h:HH):xG (.p d) h=UA (.p d,h):=rfl
@[simp] theorem Mg (n:Nat) (h:HH):xG (.r n) h=UA (.r n,h):=rfl
@[simp] theorem Mh (n:Nat) (h:HH):xG (.o n) h=UA (.o n,h):=rfl
noncomputable def nJ (F:FK->List W->HH->Option (W×HH)) (q:FK) (n:Nat) (L:Nat) (cs:Option (List Cp)) (ws:List W) (h:HH):Option (W×HH):=match cs with
 | some cs=>bnd (F q (.o n::(ws++[.c (.l L) cs])) h) xG| none=>UB
@[simp] theorem vd (F:FK->List W->HH->Option (W×HH)) (q:FK) (n:Nat) (L:Nat) (cs:List Cp) (ws:List W) (h:HH):nJ F q n L (UA cs) ws h=bnd (F q (.o n::(ws++[.c (.l L) cs])) h) xG:=rfl
noncomputable def rD (F:FK->List W->HH->Option (W×HH)) (m:Str) (ea:HH->Option (List W×HH)) (L:Nat) (cs:Option (List Cp)) (x:W) (h:HH):Option (W×HH):=match x with
 | .o n=>match oat h n with
  | some (c,fs)=>if (aU m fs).isNone then bnd (ea h) (nJ F (.m c m) n L cs) else UB
  | none=>UB
 | _=>UB
@[simp] theorem xH (F:FK->List W->HH->Option (W×HH)) (m:Str) (ea:HH->Option (List W×HH)) (L:Nat) (cs:Option (List Cp)) (n:Nat) (h:HH):rD F m ea L cs (.o n) h=match oat h n with
 | some (c,fs)=>if (aU m fs).isNone then bnd (ea h) (nJ F (.m c m) n L cs) else UB
 | none=>UB:=rfl
noncomputable def Mi (n:Nat) (y z:W) (h:HH):Option (W×HH):=match y,z with
 | .p k,.p d=>(dat h n).bind λkvs=>(fY k).map λq=>(.p ((bB kvs q).getD d),h)
 | _,_=>UB
noncomputable def Mj (ed:EH) (n:Nat) (y:W) (h:HH):Option (W×HH):=bnd (ed h) (Mi n y)
noncomputable def NN (ek ed:EH) (x:W) (h:HH):Option (W×HH):=match x with
 | .r n=>if (dat h n).isSome then bnd (ek h) (Mj ed n) else UB
 | _=>UB
noncomputable def E8 (c cn:Str):Bool:=cn==c||cn=="TapeError"||cn=="ValueError"
noncomputable def Ml (cn:Str) (x:W) (h:HH):Option (W×HH):=match x with
 | .x c=>UA (.p (.bl (E8 c cn)),h)| _=>UB
@[simp] theorem Mm (cn c:Str) (h:HH):Ml cn (.x c) h=UA (.p (.bl (E8 c cn)),h):=rfl
noncomputable def E9 (x:W) (h:HH):Option (W×HH):=match x with
 | .r n=>(dat h n).bind λkvs=>if kvs.length<=lim then UA (.p (.lst (fZ kvs)),h) else UB
 | _=>UB
@[simp] theorem Fb (n:Nat) (h:HH):E9 (.r n) h=(dat h n).bind λkvs=>if kvs.length<=lim then UA (.p (.lst (fZ kvs)),h) else UB:=rfl
noncomputable def xJ:D->Option (Ky×D)
 | .tup [k,v]=>(fY k).map λy=>(y,v)
 | _=>UB
noncomputable def eY:List D->Option (List (Ky×D))
 | []=>UA []
 | d::r=>(xJ d).bind λp=>(eY r).map (p :: ·)
@[simp] theorem Fc:eY []=UA []:=rfl
@[simp] theorem xK (i:Int) (v:D) (r:List D):eY (.tup [.int i,v]::r)=(eY r).map ((.inl i,v) :: ·):=rfl
noncomputable def jS:List (Ky×D)->Option (List Int)
 | []=>UA []| (.inl k,_)::r=>(jS r).map (k :: ·)| (.inr _,_)::_=>UB
noncomputable def kDk (k:Dk) (x:W) (h:HH):Option (W×HH):=match k,x with
 | .of,.p (.lst ds)=>(eY ds).bind λps=>if ps.length<=lim then UA (.k (.l (ps.foldl (λc p=>c7 c p.1 p.2) [])),h) else UB
 | .ks,.k (.l kvs)=>UA (.p (.lst (kvs.map λq=>gW q.1)),h)
 | .so,.k (.l kvs)=>(jS kvs).bind λns=>if ns.length < 64 then UA (.p (.lst ((sortI ns).map D.int)),h) else UB
 | _,_=>UB
@[simp] theorem xM (ds:List D) (h:HH):kDk .of (.p (.lst ds)) h=(eY ds).bind λps=>if ps.length<=lim then UA (.k (.l (ps.foldl (λc p=>c7 c p.1 p.2) [])),h) else UB:=rfl
@[simp] theorem Fd (kvs:List (Ky×D)) (h:HH):kDk .ks (.k (.l kvs)) h=UA (.p (.lst (kvs.map λq=>gW q.1)),h):=rfl
@[simp] theorem nK (kvs:List (Ky×D)) (h:HH):kDk .so (.k (.l kvs)) h=(jS kvs).bind λns=>if ns.length < 64 then UA (.p (.lst ((sortI ns).map D.int)),h) else UB:=rfl
noncomputable def IU (x y:W) (h:HH):Option (W×HH):=match rd x h,rd y h with
 | some (.lst xs),UA (.lst ys)=>if xs.length+ys.length<=lim then UA (new UC (xs++ys) h) else UB
 | _,_=>UB
section
variable (F:FK->List W->HH->Option (W×HH)) (G:Str->Option W)
mutual
@[simp] noncomputable def ev:E->Sl->HH->Option (W×HH)
 | .var i,s,h=>match s[i]? with|some (UA w)=>UA (w,h)|_=>UB
 | .cst d,_,h=>UA (.p d,h)
 | .glo x,_,h=>(G x).map λw=>(w,h)
 | .bin o a b,s,h=>bnd (ev a s h) (k2 (ev b s) (lW o))| .neg a,s,h=>bnd (ev a s h) A5| .not a,s,h=>bnd (ev a s h) A6| .and a b,s,h=>bnd (ev a s h) (A7 (ev b s))| .or a b,s,h=>bnd (ev a s h) (kOr (ev b s))| .cmp o a b,s,h=>bnd (ev a s h) (k2 (ev b s) (fT o))| .chain o o' a b c,s,h=>bnd (ev a s h) (k2 (ev b s) (oCh o o' (ev c s)))| .ite c a b,s,h=>bnd (ev c s h) (A8 (ev a s) (ev b s))| .tup as,s,h=>bnd (evs as s h) E4| .lst mu as,s,h=>bnd (evs as s h) (E5 mu)| .idx a i,s,h=>bnd (ev a s h) (k2 (ev i s) A4)| .slc a lo hi,s,h=>bnd (ev a s h) (IK (evs lo s) (evs hi s))| .rvs a,s,h=>bnd (ev a s h) L8| .stp mu k a,s,h=>bnd (ev a s h) (E6 mu k)| .call f as,s,h=>bnd (evs as s h) (F (.f f))| .fld a f,s,h=>bnd (ev a s h) (A9 f)| .meth o m as,s,h=>bnd (ev o s h) (xD F m (evs as s))| .make c as,s,h=>bnd (evs as s h) (DK F c)| .bi b mu as,s,h=>bnd (evs as s h) (kBi b mu)| .lsr mu sr as,s,h=>bnd (evs as s h) (kLs mu sr)| .me m o as,s,h=>bnd (ev o s h) (kMe m (evs as s))| .comp mu sr sa tg fv cond elt,s,h=>bnd (evs sa s h) (mT mu sr tg.length (frees s fv) (evs cond) (ev elt))| .callv i as,s,h=>bnd (evs as s h) (nI F s[i]?)| .methL o m as L fv,s,h=>bnd (ev o s h) (rD F m (evs as s) L (caps s fv))| .dnew,_,h=>UA (.r h.length,h++[.d []])| .dli o,s,h=>bnd (ev o s h) E9| .dk k a,s,h=>bnd (ev a s h) (kDk k)
@[simp] noncomputable def evs:Es->Sl->HH->Option (List W×HH)
 | .nil,_,h=>UA ([],h)| .cons a as,s,h=>bnd (ev a s h) (kT (evs as s))
end
inductive Fl where
 | nx (s:Sl) (h:HH)|rt (w:W) (h:HH)|bk (s:Sl) (h:HH)|ct (s:Sl) (h:HH)
noncomputable def IV (k:Bool->HH->Option Fl) (w:W) (h:HH):Option Fl:=match w with | .p (.bl b)=>k b h|_=>UB
noncomputable def tst (x:Option (W×HH)) (k:Bool->HH->Option Fl):Option Fl:=bnd x (IV k)
@[simp] theorem dJ (b:Bool) (h:HH) (k:Bool->HH->Option Fl):tst (UA (.p (.bl b),h)) k=k b h:=rfl
noncomputable def jT (x:Option Fl) (k:Sl->HH->Option Fl):Option Fl:=match x with
 | some (.nx s h)=>k s h| y=>y
@[simp] theorem iT (s:Sl) (h:HH) (k:Sl->HH->Option Fl):jT (UA (.nx s h)) k=k s h:=rfl
@[simp] theorem IW (w:W) (h:HH) (k:Sl->HH->Option Fl):jT (UA (.rt w h)) k=UA (.rt w h):=rfl
@[simp] theorem IX (s:Sl) (h:HH) (k:Sl->HH->Option Fl):jT (UA (.bk s h)) k=UA (.bk s h):=rfl
@[simp] theorem IY (s:Sl) (h:HH) (k:Sl->HH->Option Fl):jT (UA (.ct s h)) k=UA (.ct s h):=rfl
@[simp] theorem Fe (k:Sl->HH->Option Fl):jT UB k=UB:=rfl
noncomputable def d8 (x:Option Fl) (k:Sl->HH->Option Fl):Option Fl:=match x with
 | some (.nx s h)=>k s h| some (.ct s h)=>k s h| some (.bk s h)=>UA (.nx s h)| y=>y
@[simp] theorem bD (s:Sl) (h:HH) (k:Sl->HH->Option Fl):d8 (UA (.nx s h)) k=k s h:=rfl
@[simp] theorem IZ (s:Sl) (h:HH) (k:Sl->HH->Option Fl):d8 (UA (.ct s h)) k=k s h:=rfl
@[simp] theorem Ja (s:Sl) (h:HH) (k:Sl->HH->Option Fl):d8 (UA (.bk s h)) k=UA (.nx s h):=rfl
@[simp] theorem Jb (w:W) (h:HH) (k:Sl->HH->Option Fl):d8 (UA (.rt w h)) k=UA (.rt w h):=rfl
@[simp] theorem Ff (k:Sl->HH->Option Fl):d8 UB k=UB:=rfl
@[simp] noncomputable def sets:List (Nat×Str)->List D->Sl->Sl
 | (i,_)::r,d::ds,s=>sets r ds (s.set i (UA (.p d)))| _,_,s=>s
noncomputable def Fg (b:Sl->HH->Option Fl) (again:Sl->HH->Option Fl) (s:Sl) (t:Bool) (h:HH):Option Fl:=if t then d8 (b s h) again else UA (.nx s h)
@[simp] theorem jB (b again:Sl->HH->Option Fl) (s:Sl) (h:HH):Fg b again s UC h=d8 (b s h) again:=rfl
@[simp] theorem iw (b again:Sl->HH->Option Fl) (s:Sl) (h:HH):Fg b again s UD h=UA (.nx s h):=rfl
noncomputable def bE (c:Sl->HH->Option (W×HH)) (b:Sl->HH->Option Fl):Nat->Sl->HH->Option Fl
 | 0,_,_=>UB| n+1,s,h=>tst (c s h) (Fg b (bE c b n) s)
@[simp] noncomputable def aJ (b:Sl->HH->Option Fl) (tg:List (Nat×Str)):List D->Sl->HH->Option Fl
 | [],s,h=>UA (.nx s h)
 | d::r,s,h=>match target tg.length d with
  | some ds=>d8 (b (sets tg ds s) h) (aJ b tg r)| none=>UB
noncomputable def turns:Nat:=100000
@[simp] noncomputable def rE (s:Sl) (i:Nat) (w:W) (h:HH):Option Fl:=UA (.nx (s.set i (UA w)) h)
@[simp] noncomputable def Mn (s:Sl) (xs:List (Nat×Str)) (w:W) (h:HH):Option Fl:=match w with
 | .p d=>match unpack xs.length d with|some ds=>UA (.nx (sets xs ds s) h)|none=>UB
 | _=>UB
@[simp] noncomputable def Jc (s:Sl) (i:Nat) (o:Bin) (w:W) (h:HH):Option Fl:=match s[i]?,w with
 | some (UA (.p d)),.p d'=>(kO o d d').map λz=>.nx (s.set i (UA (.p z))) h
 | _,_=>UB
@[simp] noncomputable def DL (s:Sl) (n:Nat) (d:D) (q:W) (h:HH):Option Fl:=match q,lat h n with
 | .p (.int j),UA xs=>match place xs.length j with
  | some m=>UA (.nx s (h.set n (.l (xs.set m d))))| none=>UB
 | _,_=>UB
@[simp] noncomputable def Fi (ek:EH) (s:Sl) (i:Nat) (w:W) (h:HH):Option Fl:=match w,s[i]? with
 | .p d,UA (UA (.r n))=>bnd (ek h) (DL s n d)| _,_=>UB
noncomputable def rF (s:Sl) (n:Nat) (d:D) (q:W) (h:HH):Option Fl:=match q with
 | .p k=>(dat h n).bind λkvs=>(fY k).bind λy=>if kvs.length < lim then UA (.nx s (h.set n (.d (c7 kvs y d)))) else UB
 | _=>UB
@[simp] theorem xN (s:Sl) (n:Nat) (d k:D) (h:HH):rF s n d (.p k) h=(dat h n).bind λkvs=>(fY k).bind λy=>if kvs.length < lim then UA (.nx s (h.set n (.d (c7 kvs y d)))) else UB:=rfl
noncomputable def sN (ek:EH) (s:Sl) (i:Nat) (w:W) (h:HH):Option Fl:=match w,s[i]? with
 | .p d,UA (UA (.r n))=>bnd (ek h) (rF s n d)| _,_=>UB
@[simp] theorem Bb (ek:EH) (s:Sl) (i:Nat) (d:D) (h:HH):sN ek s i (.p d) h=match s[i]? with
 | some (UA (.r n))=>bnd (ek h) (rF s n d)
 | _=>UB:=by
 unfold sN;cases s[i]? with
 | none=>rfl
 | some o=>cases o with
  | none=>rfl| some w=>cases w<;>rfl
noncomputable def nL (s:Sl) (f:Str) (v:W) (x:W) (h:HH):Option Fl:=match x with
 | .o n=>match oat h n with
  | some (c,fs)=>if attrOk v&&fs.length < 1000 then UA (.nx s (h.set n (.o c (bf f v fs)))) else UB
  | none=>UB
 | _=>UB
@[simp] theorem xO (s:Sl) (f:Str) (v:W) (n:Nat) (h:HH):nL s f v (.o n) h=match oat h n with
 | some (c,fs)=>if attrOk v&&fs.length < 1000 then UA (.nx s (h.set n (.o c (bf f v fs)))) else UB
 | none=>UB:=rfl
noncomputable def xP (eo:EH) (s:Sl) (f:Str) (v:W) (h:HH):Option Fl:=bnd (eo h) (nL s f v)
@[simp] theorem xQ (eo:EH) (s:Sl) (f:Str) (v:W) (h:HH):xP eo s f v h=bnd (eo h) (nL s f v):=rfl
noncomputable def nM (s:Sl) (f:Str) (op:Bin) (n:Nat) (c:Str) (d:D) (v:W) (h:HH):Option Fl:=match v,oat h n with
 | .p e,UA (c',fs)=>match kO op d e with
  | some z=>if c'=c/\fs.length < 1000 then UA (.nx s (h.set n (.o c' (bf f (.p z) fs)))) else UB
  | none=>UB
 | _,_=>UB
@[simp] theorem xR (s:Sl) (f:Str) (op:Bin) (n:Nat) (c:Str) (d e:D) (h:HH):nM s f op n c d (.p e) h=match oat h n with
 | some (c',fs)=>match kO op d e with
  | some z=>if c'=c/\fs.length < 1000 then UA (.nx s (h.set n (.o c' (bf f (.p z) fs)))) else UB
  | none=>UB
 | none=>UB:=by unfold nM;cases oat h n<;>rfl
noncomputable def sO (ee:EH) (s:Sl) (f:Str) (op:Bin) (x:W) (h:HH):Option Fl:=match x with
 | .o n=>match oat h n with
  | some (c,fs)=>match aU f fs with
   | some (.p d)=>bnd (ee h) (nM s f op n c d)| _=>UB
  | none=>UB
 | _=>UB
@[simp] theorem Bc (ee:EH) (s:Sl) (f:Str) (op:Bin) (n:Nat) (h:HH):sO ee s f op (.o n) h=match oat h n with
 | some (c,fs)=>match aU f fs with
  | some (.p d)=>bnd (ee h) (nM s f op n c d)| _=>UB
 | none=>UB:=rfl
@[simp] noncomputable def kEx (s:Sl) (_:W) (h:HH):Option Fl:=UA (.nx s h)
@[simp] noncomputable def xS (w:W) (h:HH):Option Fl:=UA (.rt w h)
@[simp] noncomputable def kIf (fa fb:HH->Option Fl) (t:Bool) (h:HH):Option Fl:=if t then fa h else fb h
@[simp] noncomputable def kFor (b:Sl->HH->Option Fl) (tg:List (Nat×Str)) (sr:Sr) (s:Sl) (ws:List W) (h:HH):Option Fl:=match (rds ws h).bind (dI sr) with
 | some ds=>if fu ws then aJ b tg ds s h else UB
 | none=>UB
@[simp] noncomputable def evS:S->Sl->HH->Option Fl
 | .nil,s,h=>UA (.nx s h)| .seq a b,s,h=>jT (evS a s h) (evS b)| .set i e,s,h=>bnd (ev F G e s h) (rE s i)| .unp xs e,s,h=>bnd (ev F G e s h) (Mn s xs)| .aug i o e,s,h=>bnd (ev F G e s h) (Jc s i o)| .put i k e,s,h=>bnd (ev F G e s h) (Fi (ev F G k s) s i)| .putd i k e,s,h=>bnd (ev F G e s h) (sN (ev F G k s) s i)| .setf o f e,s,h=>bnd (ev F G e s h) (xP (ev F G o s) s f)| .augf o f op e,s,h=>bnd (ev F G o s h) (sO (ev F G e s) s f op)| .ex e,s,h=>bnd (ev F G e s h) (kEx s)| .ret e,s,h=>bnd (ev F G e s h) xS| .ife c a b,s,h=>tst (ev F G c s h) (kIf (evS a s) (evS b s))| .whl c b,s,h=>bE (ev F G c) (evS b) turns s h| .for tg sr sa b,s,h=>bnd (evs F G sa s h) (kFor (evS b) tg sr s)| .brk,s,h=>UA (.bk s h)| .cnt,s,h=>UA (.ct s h)| .bad,_,_=>UB| .rai _ _,_,_=>UB
open Classical in
noncomputable def fin (h:HH) (w:W) (h':HH):Option (W×HH) :=
 if h'.length=h.length then UA (w,h')
 else if h'.take h.length=h then (match w with
  | .p d=>UA (.p d,h)
  | .r n=>if n < h.length then UA (.r n,h) else (lat h' n).map λxs=>(.p (.lst xs),h)
  | .o n=>if n < h.length then UA (.o n,h) else UA (.o n,h')
  | .k _=>UB| .c _ _=>UB
  | .x _=>UB)
 else UA (w,h')
@[simp] noncomputable def eZ (n:Nat) (ws:List W):Sl:=ws.map UA++Oo (n - ws.length) UB
noncomputable def j3 (x:Option Fl) (k:W->HH->Option (W×HH)):Option (W×HH):=match x with
 | some (.rt w h)=>k w h| some (.nx _ h)=>k (.p .non) h| _=>UB
@[simp] theorem K6 (w:W) (h:HH) (k:W->HH->Option (W×HH)):j3 (UA (.rt w h)) k=k w h:=rfl
@[simp] theorem K7 (s:Sl) (h:HH) (k:W->HH->Option (W×HH)):j3 (UA (.nx s h)) k=k (.p .non) h:=rfl
@[simp] theorem Hq (k:W->HH->Option (W×HH)):j3 UB k=UB:=rfl
end
section
variable (T:FK->Option Fn) (G:Str->Option W)
noncomputable def runN:Nat->FK->List W->HH->Option (W×HH)
 | 0,_,_,_=>UB
 | k+1,f,ws,h=>match T f with
  | some fn=>if ws.length=fn.ps.length then j3 (evS (runN k) G fn.body (eZ fn.ns.length ws) h) (fin h) else UB
  | none=>UB
theorem run_eq {T:FK->Option Fn}{G:Str->Option W}{f:FK}{fn:Fn}{ws:List W}{h:HH}{k:Nat} (hT:T f=UA fn) (hl:ws.length=fn.ps.length) :
 runN T G (k+1) f ws h=j3 (evS (runN T G k) G fn.body (eZ fn.ns.length ws) h) (fin h):=by
 rw[runN,hT];exact if_pos hl
end
noncomputable def Mp:Fn:=⟨["state","thing"],["state","thing"],.ret (.call "worth_in" (Z8 (.var 0) (.var 1)))⟩
noncomputable def Mq:Fn:=⟨["state","thing","worth"],["state","thing","worth"],.ret (.cmp .ne (.call "worth_in" (Z8 (.var 0) (.var 1))) (.var 2))⟩
noncomputable def Mr:Fn:=⟨["state","thing","worth"],["state","thing","worth"],.ret (.cmp .ne (.call "worth_in" (Z8 (.var 0) (.var 1))) (.var 2))⟩
noncomputable def Ms:Fn:=⟨["state","term"],["state","term"],.ret (.call "reckoned" (Z8 (.var 1) (.var 0)))⟩
noncomputable def Mt:Fn:=⟨["state","term"],["state","term"],.ret (.cmp .ne (.call "reckoned" (Z8 (.var 1) (.var 0))) (.cst (.int 0)))⟩
noncomputable def Mu:Fn:=⟨["state","term"],["state","term"],.ret (.cmp .ne (.call "reckoned" (Z8 (.var 1) (.var 0))) (.cst (.int 0)))⟩
noncomputable def Mv:Fn:=⟨["state"],["state"],.ret (.idx (.var 0) (.glo "ROW"))⟩
noncomputable def Mw:Fn:=⟨["state","row"],["state","row"],.ret (.cmp .eq (.idx (.var 0) (.glo "ROW")) (.var 1))⟩
noncomputable def Mx:Fn:=⟨["state","number"],["state","number"],.ret (.cmp .gt (.bi .len UD (Z9 (.idx (.var 0) (.glo "SAID")))) (.var 1))⟩
noncomputable def Mz:Fn:=⟨["state","bound"],["state","bound"],.ret (.cmp .le (.call "open_in" (Z9 (.var 0))) (.var 1))⟩
noncomputable def sP:Fn:=⟨["state","bound"],["state","bound"],.ret (.cmp .le (.call "open_in" (Z9 (.var 0))) (.var 1))⟩
noncomputable def Jd:Fn:=⟨["state","wanted"],["state","wanted"],.ret (.and (.cmp .eq (.idx (.var 0) (.glo "NAMES")) (.idx (.var 1) (.glo "NAMES"))) (.cmp .eq (.idx (.var 0) (.glo "CELLS")) (.idx (.var 1) (.glo "CELLS"))))⟩
noncomputable def Je:Fn:=⟨["state","tape","thing"],["state","tape","thing"],.ret (.cmp .eq (.call "written_next" (Z8 (.var 1) (.var 0))) (.var 2))⟩
noncomputable def Jf:Fn:=⟨[],[],.ret (.cst .non)⟩
noncomputable def Jg:Fn:=⟨[],[],.ret (.cst .non)⟩
noncomputable def lZ (i:Nat):Option Fn:=([Mp,Mq,Mr,Ms,Mt,Mu,Mv,Mw,Mx,Mz,sP,Jd,Je,Jf,Jg]:List Fn)[i]?
noncomputable def cQ:List Str:=["worths_of","last_change","next_change","moments_so","last_so","next_so","visits","last_visit","when_said","next_within","last_within","first_other","writer_of","judged","remade"]
noncomputable def sQ (i:Nat):Str:=cQ.getD i ""
noncomputable def bM (x:Str):Str:="<"++x++">"
end BT
end
section
namespace BS
open PySem PySem.Spec PyProof.Rows L2
variable {K:NV}
theorem aA {β:Type}{a:β}{P:Prop} (h:(UB:Option β)=UA a):P:=nomatch h
noncomputable def attrName (f:Str):Bool:=(["program","asked","gap","most","kept","farthest","front","now","origins","branches","tape","named"]:List Str).contains f
noncomputable def pM:BT.Bi->Option (String×(BT.D->Bool))
 | .isInt=>UA ("int",BT.isI)| .isBool=>UA ("bool",BT.isB)| .isStr=>UA ("str",BT.isS)| .isTuple=>UA ("tuple",BT.isT)| .isList=>UA ("list",BT.isL)| _=>UB
noncomputable def jU (sc:OD) (x:Str):Bool:=match sc.names.lookup x with
 | some .local=>UC| some .cell=>UC| some .free=>UC| _=>UD
noncomputable def aL (sc:OD) (x:Str):Bool:=sc.names.lookup x==UA .globalImplicit
noncomputable def bU (x:Str):Bool:=!(x=="__debug__")&&!(x=="__classdict__")&&!(x=="__name__")
noncomputable def noStar:NX->Bool
 | .Starred _ _=>UD| _=>UC
noncomputable def iU:NX->Bool
 | .Slice _ _ _ _=>UD| _=>UC
noncomputable def aD:NX->Bool
 | .Name _ _=>UC| .Constant _ _ _=>UC| .Subscript _ _ _=>UC| .Attribute _ _ _=>UC| .Call (.Attribute _ _ _) _ _ _=>UC| _=>UD
noncomputable def DM:BT.Bin->RN->Bool
 | .add,.Add=>UC| .sub,.Sub=>UC| .mul,.Mult=>UC| .mod,.Mod=>UC| .fdiv,.FloorDiv=>UC| .pow,.Pow=>UC| _,_=>UD
noncomputable def Bd:BT.Cm->CmpOp->Bool
 | .eq,.Eq=>UC| .ne,.NotEq=>UC| .lt,.Lt=>UC| .le,.LtE=>UC| .gt,.Gt=>UC| .ge,.GtE=>UC| .isN,.Is=>UC| .notN,.IsNot=>UC| .mem,.In=>UC| .nmem,.NotIn=>UC| _,_=>UD
noncomputable def DN:BT.D->Const->Bool
 | .non,.none=>UC| .bl a,.bool b=>a==b| .int i,.int j=>i==j| .str x,.str y=>x==y&&PyData.strOk x| _,_=>UD
noncomputable def xT:BT.Bi->Bool->Option Str
 | .len,UD=>UA "len"| .abs,UD=>UA "abs"| .int,UD=>UA "int"| .list,_=>UA "list"| .tuple,UD=>UA "tuple"| _,_=>UB
noncomputable def DO (b:BT.Bi) (mu:Bool) (x:Str):Bool:=xT b mu==UA x
noncomputable def xU:BT.Bi->Str->Bool
 | .min2,x=>x=="min"| .max2,x=>x=="max"| _,_=>UD
noncomputable def Be:NX->Option Const
 | .Constant c _ _=>UA c| _=>UB
noncomputable def cInt:Const->Option Int
 | .int j=>UA j| _=>UB
noncomputable def unE:NX->Option NX
 | .UnaryOp o e _=>if o=.USub then UA e else UB
 | _=>UB
noncomputable def nN (k:Int) (e:NX):Bool:=((Be e).bind cInt==UA k&&decide (0 < k))||(((unE e).bind Be).bind cInt==UA (-k)&&decide (k < 0))
noncomputable def xV:BT.Me->Str
 | .append=>"append"| .pop=>"pop"| .extend=>"extend"| .tindex=>"index"| .sindex=>"index"| .dget=>"get"| .count=>"count"| .lindex=>"index"
noncomputable def xW:BT.E->Bool
 | .glo _=>UC| _=>UD
noncomputable def Bf (m:BT.Me) (o:BT.E):Bool:=match m with
 | .append=>UC| .pop=>UC| .extend=>UC| .sindex=>UC| .tindex=>xW o| .dget=>UD| .count=>UC| .lindex=>UC
noncomputable def DP (c:Str):Bool:=(["NoMoment","NoThing","NoRun","NoText"]:List Str).contains c
noncomputable def NC (cn:Str):Bool:=DP cn||cn=="ValueError"
noncomputable def b9 (N:List Str):Bool:=!N.contains "_law_flags"
noncomputable def tOK:BT.E->Bool
 | .ite _ _ _=>UD| .not a=>tOK a| .and a b=>tOK a&&tOK b| .or a b=>tOK a&&tOK b| .tup _=>UD| .lst _ _=>UD| .comp _ _ _ _ _ _ _=>UD| _=>UC
noncomputable def iy:NX->Bool
 | .Set _ _ _=>UD| _=>UC
noncomputable def pN:BT.Sr->NX->Bool
 | .zip2,.Tuple _ _ _=>UC| .enu,.Tuple _ _ _=>UC| .zip2,_=>UD| .enu,_=>UD| _,_=>UC
noncomputable def aV (scope sc:OD):OD :=
 { scope with names:=scope.names.map λ(n,k)=>if (k==.free&&sc.kind==.function&&sc.names.lookup n==UA .cell) then (n,.cell) else (n,k) }
noncomputable def nmE:NX->Option Str
 | .Name y _=>UA y| _=>UB
noncomputable def Fj:NX->List NX
 | .Tuple xs _ _=>xs| _=>[]
noncomputable def pO (sc:OD) (tg:List Str) (te:NX):Bool:=((tg.map UA==[nmE te])||(tg.length==2&&tg.map UA==(Fj te).map nmE))&&tg.all λx=>sc.names.lookup x==UA .local
noncomputable def iz:List Str->Bool
 | []=>UC| x::r=>!r.contains x&&iz r
noncomputable def iA (sc:OD) (N:List Str) (tg:List Str) (fv:List (Nat×Str)) (scope:OD):Bool :=
 scope.kind==.function&&sc.kind==.function&&scope.names.all (λy=>!(y.2==.cell))&&scope.names.all (λy=>!(y.2==.local)||scope.names.lookup y.1==UA .local) &&
 scope.names.all (λy=>!(y.2==.free)||sc.names.lookup y.1==UA .cell) &&
 fv.all (λq=>N[q.1]?==UA q.2&&scope.names.contains (q.2,.free)&&sc.names.lookup q.2==UA .cell&&(aV scope sc).names.lookup q.2==UA .cell)&&iz (tg++fv.map (·.2))
mutual
inductive CE':OD->List Str->BT.E->NX->Prop where
 | var {sc:OD}{N:List Str}{i:Nat}{x:Str}{p:Pos} (h1:N[i]?=UA x) (h2:jU sc x=UC) (h3:bU x=UC):CE' sc N (.var i) (.Name x p)
 | cst {sc:OD}{N:List Str}{d:BT.D}{c:Const}{k:Nat}{p:Pos} (h:DN d c=UC):CE' sc N (.cst d) (.Constant c k p)
 | glo {sc:OD}{N:List Str}{x:Str}{p:Pos} (h2:aL sc x=UC) (h3:bU x=UC):CE' sc N (.glo x) (.Name x p)
 | bin {sc:OD}{N:List Str}{o:BT.Bin}{op:RN}{a b:BT.E}{l r:NX}{p:Pos} (h:DM o op=UC) (ha:CE' sc N a l) (hb:CE' sc N b r):CE' sc N (.bin o a b) (.BinOp l op r p)
 | neg {sc:OD}{N:List Str}{a:BT.E}{x:NX}{p:Pos} (ha:CE' sc N a x):CE' sc N (.neg a) (.UnaryOp .USub x p)
 | not {sc:OD}{N:List Str}{a:BT.E}{x:NX}{p:Pos} (ha:CE' sc N a x):CE' sc N (.not a) (.UnaryOp .Not x p)
 | and2 {sc:OD}{N:List Str}{a b:BT.E}{x y:NX}{p:Pos} (ha:CE' sc N a x) (hb:CE' sc N b y):CE' sc N (.and a b) (.BoolOp .And [x,y] p)
 | and3 {sc:OD}{N:List Str}{a b:BT.E}{x y z:NX}{r:List NX}{p:Pos} (ha:CE' sc N a x) (hb:CE' sc N b (.BoolOp .And (y::z::r) p)):CE' sc N (.and a b) (.BoolOp .And (x::y::z::r) p)
 | or2 {sc:OD}{N:List Str}{a b:BT.E}{x y:NX}{p:Pos} (ha:CE' sc N a x) (hb:CE' sc N b y):CE' sc N (.or a b) (.BoolOp .Or [x,y] p)
 | or3 {sc:OD}{N:List Str}{a b:BT.E}{x y z:NX}{r:List NX}{p:Pos} (ha:CE' sc N a x) (hb:CE' sc N b (.BoolOp .Or (y::z::r) p)):CE' sc N (.or a b) (.BoolOp .Or (x::y::z::r) p)
 | cmp {sc:OD}{N:List Str}{o:BT.Cm}{op:CmpOp}{a b:BT.E}{l r:NX}{p:Pos} (h:Bd o op=UC) (ha:CE' sc N a l) (hb:CE' sc N b r) (hm:Sk op r=UD):CE' sc N (.cmp o a b) (.Compare l [op] [r] p)
 | chain {sc:OD}{N:List Str}{o o':BT.Cm}{op op':CmpOp}{a b c:BT.E}{l r r':NX}{p:Pos} (h:Bd o op=UC) (h':Bd o' op'=UC) (ha:CE' sc N a l) (hb:CE' sc N b r) (hc:CE' sc N c r') (hm:lastMarks [op,op'] [r,r']=UD):CE' sc N (.chain o o' a b c) (.Compare l [op,op'] [r,r'] p)
 | ite {sc:OD}{N:List Str}{c a b:BT.E}{t x y:NX}{p:Pos} (h:tOK c=UC) (hc:CE' sc N c t) (ha:CE' sc N a x) (hb:CE' sc N b y):CE' sc N (.ite c a b) (.IfExp t x y p)
 | tup {sc:OD}{N:List Str}{as:BT.Es}{es:List NX}{k:Nat}{p:Pos} (h:CEs sc N as es):CE' sc N (.tup as) (.Tuple es k p)
 | lst {sc:OD}{N:List Str}{mu:Bool}{as:BT.Es}{es:List NX}{p:Pos} (h:CEs sc N as es):CE' sc N (.lst mu as) (.List es p)
 | idx {sc:OD}{N:List Str}{a i:BT.E}{x sl:NX}{p:Pos} (ha:CE' sc N a x) (hi:CE' sc N i sl) (hs:iU sl=UC):CE' sc N (.idx a i) (.Subscript x sl p)
 | slc {sc:OD}{N:List Str}{a:BT.E}{lo hi:BT.Es}{x:NX}{l u:Option NX}{p2 p:Pos} (ha:CE' sc N a x) (hl:CO sc N lo l) (hu:CO sc N hi u):CE' sc N (.slc a lo hi) (.Subscript x (.Slice l u UB p2) p)
 | call {sc:OD}{N:List Str}{f:Str}{as:BT.Es}{es:List NX}{np p:Pos} (hg:aL sc f=UC) (hn:bU f=UC) (ha:CEs sc N as es):CE' sc N (.call f as) (.Call (.Name f np) es [] p)
 | lrev {sc:OD}{N:List Str}{mu:Bool}{a:BT.E}{e:NX}{np zp p pos:Pos} (hu:b9 N=UC) (hg:aL sc "list"=UC) (hg2:aL sc "reversed"=UC) (hs:noStar e=UC) (h:CE' sc N a e) :
  CE' sc N (.lsr mu .rev (.cons a .nil)) (.Call (.Name "list" np) [.Call (.Name "reversed" zp) [e] [] pos] [] p)
 | bi {sc:OD}{N:List Str}{b:BT.Bi}{mu:Bool}{x:Str}{a:BT.E}{e:NX}{np p:Pos} (hu:b9 N=UC) (hb:DO b mu x=UC) (hg:aL sc x=UC) (hs:noStar e=UC) (ha:CE' sc N a e):CE' sc N (.bi b mu (.cons a .nil)) (.Call (.Name x np) [e] [] p)
 | inst {sc:OD}{N:List Str}{b:BT.Bi}{c:String}{f:BT.D->Bool}{a:BT.E}{e:NX}{np p2 p:Pos} (hb:pM b=UA (c,f)) (hg:aL sc "isinstance"=UC) (hg2:aL sc (Om c)=UC) (hs:noStar e=UC) (ha:CE' sc N a e) :
  CE' sc N (.bi b UD (.cons a .nil)) (.Call (.Name "isinstance" np) [e,.Name (Om c) p2] [] p)
 | me {sc:OD}{N:List Str}{m:BT.Me}{o:BT.E}{as:BT.Es}{oe:NX}{name:Str}{apos cpos:Pos}{es:List NX} (h1:Bf m o=UC) (h2:name=xV m) (h3:aD oe=UC) (h6:(apos.endLine==cpos.line)=UC) (h7:es.length < 20) (ho:CE' sc N o oe) (ha:CEs sc N as es) :
  CE' sc N (.me m o as) (.Call (.Attribute oe name apos) es [] cpos)
 | comp {sc:OD}{N:List Str}{mu:Bool}{sr:BT.Sr}{sa:BT.Es}{tg:List Str}{fv:List (Nat×Str)}{cond:BT.Es}{elt:BT.E}{te iter elt':NX}{ifs:List NX}{scope:OD}{pos:Pos}
  (hu:b9 N=UC) (hk:iA sc N tg fv scope=UC) (ht:pO (aV scope sc) tg te=UC) (hz:pN sr te=UC) (hs:iy iter=UC) (hi:CI sc N sr sa iter)
  (hc:CC (aV scope sc) (tg++fv.map (·.2)) cond ifs) (he:CE' (aV scope sc) (tg++fv.map (·.2)) elt elt'):CE' sc N (.comp mu sr sa tg fv cond elt) (.ListComp elt' [⟨te,iter,ifs,0⟩] scope pos)
 | fld {sc:OD}{N:List Str}{a:BT.E}{f:Str}{x:NX}{p:Pos} (hb:aD x=UC) (hf:attrName f=UC) (ha:CE' sc N a x):CE' sc N (.fld a f) (.Attribute x f p)
 | meth {sc:OD}{N:List Str}{o:BT.E}{m:Str}{as:BT.Es}{oe:NX}{apos cpos:Pos}{es:List NX} (h3:aD oe=UC) (h6:(apos.endLine==cpos.line)=UC) (h7:es.length < 20) (ho:CE' sc N o oe) (ha:CEs sc N as es) :
  CE' sc N (.meth o m as) (.Call (.Attribute oe m apos) es [] cpos)
 | stp {sc:OD}{N:List Str}{mu:Bool}{k:Int}{a:BT.E}{x se:NX}{p2 p:Pos} (hk:nN k se=UC) (ha:CE' sc N a x):CE' sc N (.stp mu k a) (.Subscript x (.Slice UB UB (UA se) p2) p)
 | bi2 {sc:OD}{N:List Str}{b:BT.Bi}{x:Str}{a1 a2:BT.E}{e1 e2:NX}{np p:Pos} (hu:b9 N=UC) (hb:xU b x=UC) (hg:aL sc x=UC) (hs1:noStar e1=UC) (hs2:noStar e2=UC) (h1:CE' sc N a1 e1) (h2:CE' sc N a2 e2) :
  CE' sc N (.bi b UD (.cons a1 (.cons a2 .nil))) (.Call (.Name x np) [e1,e2] [] p)
 | make {sc:OD}{N:List Str}{c:Str}{as:BT.Es}{es:List NX}{np p:Pos} (hg:aL sc c=UC) (hn:bU c=UC) (ha:CEs sc N as es):CE' sc N (.make c as) (.Call (.Name c np) es [] p)
 | callv {sc:OD}{N:List Str}{i:Nat}{x:Str}{as:BT.Es}{e:NX}{es:List NX}{np p:Pos} (h1:N[i]?=UA x) (h2:jU sc x=UC) (h3:bU x=UC) (ha:CEs sc N as (e::es)):CE' sc N (.callv i as) (.Call (.Name x np) (e::es) [] p)
 | dnew {sc:OD}{N:List Str}{p:Pos}:CE' sc N .dnew (.Dict [] [] p)
 | dli {sc:OD}{N:List Str}{o:BT.E}{oe:NX}{np p apos pos:Pos} (hu:b9 N=UC) (hg:aL sc "list"=UC) (h3:aD oe=UC) (h6:(apos.endLine==pos.line)=UC) (ho:CE' sc N o oe):CE' sc N (.dli o) (.Call (.Name "list" np) [.Call (.Attribute oe "items" apos) [] [] pos] [] p)
 | dof {sc:OD}{N:List Str}{a:BT.E}{e:NX}{np p:Pos} (hu:b9 N=UC) (hg:aL sc "dict"=UC) (hs:noStar e=UC) (h:CE' sc N a e):CE' sc N (.dk .of a) (.Call (.Name "dict" np) [e] [] p)
 | dso {sc:OD}{N:List Str}{a:BT.E}{e:NX}{np p:Pos} (hu:b9 N=UC) (hg:aL sc "sorted"=UC) (hs:noStar e=UC) (h:CE' sc N a e):CE' sc N (.dk .so a) (.Call (.Name "sorted" np) [e] [] p)
inductive CEs:OD->List Str->BT.Es->List NX->Prop where
 | nil {sc:OD}{N:List Str}:CEs sc N .nil []
 | cons {sc:OD}{N:List Str}{a:BT.E}{as:BT.Es}{e:NX}{es:List NX} (hs:noStar e=UC) (ha:CE' sc N a e) (hr:CEs sc N as es):CEs sc N (.cons a as) (e::es)
inductive CO:OD->List Str->BT.Es->Option NX->Prop where
 | nil {sc:OD}{N:List Str}:CO sc N .nil UB
 | one {sc:OD}{N:List Str}{a:BT.E}{e:NX} (ha:CE' sc N a e):CO sc N (.cons a .nil) (UA e)
inductive CC:OD->List Str->BT.Es->List NX->Prop where
 | nil {sc:OD}{N:List Str}:CC sc N .nil []
 | one {sc:OD}{N:List Str}{a:BT.E}{e:NX} (ht:tOK a=UC) (ha:CE' sc N a e):CC sc N (.cons a .nil) [e]
inductive CI:OD->List Str->BT.Sr->BT.Es->NX->Prop where
 | rng1 {sc:OD}{N:List Str}{a:BT.E}{e:NX}{p pos:Pos} (hg:aL sc "range"=UC) (hs:noStar e=UC) (h:CE' sc N a e):CI sc N .rng1 (.cons a .nil) (.Call (.Name "range" p) [e] [] pos)
 | rng2 {sc:OD}{N:List Str}{a b:BT.E}{x y:NX}{p pos:Pos} (hg:aL sc "range"=UC) (hs:noStar x=UC) (hs2:noStar y=UC) (ha:CE' sc N a x) (hb:CE' sc N b y):CI sc N .rng2 (.cons a (.cons b .nil)) (.Call (.Name "range" p) [x,y] [] pos)
 | rev {sc:OD}{N:List Str}{a:BT.E}{e:NX}{p pos:Pos} (hg:aL sc "reversed"=UC) (hs:noStar e=UC) (h:CE' sc N a e):CI sc N .rev (.cons a .nil) (.Call (.Name "reversed" p) [e] [] pos)
 | dks {sc:OD}{N:List Str}{a:BT.E}{x:NX} (h:CE' sc N a x):CI sc N .seq (.cons (.dk .ks a) .nil) x
 | seq {sc:OD}{N:List Str}{a:BT.E}{x:NX} (h:CE' sc N a x):CI sc N .seq (.cons a .nil) x
end
inductive LPa:Su->List Str->Prop where
 | one {p:Pos}:LPa ⟨[],[⟨"state",UB,p⟩],UB,[],[],UB,[]⟩ ["state"]
 | two {p q:Pos}:LPa ⟨[],[⟨"row",UB,p⟩,⟨"state",UB,q⟩],UB,[],[],UB,[]⟩ ["row","state"]
noncomputable def kU (ps fs:List Str) (sc:OD):Bool :=
 sc.kind==.function&&!sc.isCoroutine&&!sc.isGenerator&&sc.names.all (λy=>!(y.2==.cell))&&ps.all (λx=>sc.names.lookup x==UA .local) &&
 fs.all (λx=>sc.names.lookup x==UA .free&&sc.names.contains (x,.free))&&sc.names.all (λy=>!(y.2==.free)||fs.contains y.1)&&iz (ps++fs)
noncomputable def ve (sc:OD) (N:List Str) (fv:List (Nat×Str)):Bool:=fv.all λq=>N[q.1]?==UA q.2&&sc.names.lookup q.2==UA .cell
inductive CL (sc:OD) (N:List Str):BT.E->Str->BT.Es->Nat->List (Nat×Str)->NX->Prop where
 | zero {o bt:BT.E}{m:Str}{L:Nat}{fv:List (Nat×Str)}{oe be:NX}{apos cpos lp:Pos}{pa:Su}{scope:OD}{ns ps:List Str} (hl:BT.lZ L=UA ⟨ns,ns,.ret bt⟩) (hp:LPa pa ps) (hn:ns=ps++fv.map (·.2)) (hk:kU ps (fv.map (·.2)) scope=UC) (hv:ve sc N fv=UC)
  (ht:N.contains (BT.bM (BT.sQ L))=UC) (hc:CE' scope ns bt be) (h3:aD oe=UC) (h6:(apos.endLine==cpos.line)=UC) (ho:CE' sc N o oe):CL sc N o m .nil L fv (.Call (.Attribute oe m apos) [.Lambda pa be scope lp] [] cpos)
 | one {o bt a:BT.E}{m:Str}{L:Nat}{fv:List (Nat×Str)}{oe be e:NX}{apos cpos lp:Pos}{pa:Su}{scope:OD}{ns ps:List Str} (hl:BT.lZ L=UA ⟨ns,ns,.ret bt⟩) (hp:LPa pa ps) (hn:ns=ps++fv.map (·.2)) (hk:kU ps (fv.map (·.2)) scope=UC) (hv:ve sc N fv=UC)
  (ht:N.contains (BT.bM (BT.sQ L))=UC) (hc:CE' scope ns bt be) (h3:aD oe=UC) (h6:(apos.endLine==cpos.line)=UC) (ho:CE' sc N o oe) (hs:noStar e=UC) (ha:CE' sc N a e):CL sc N o m (.cons a .nil) L fv (.Call (.Attribute oe m apos) [e,.Lambda pa be scope lp] [] cpos)
def KT (K:NV) (a:Of) (xs:List V):Prop :=
 ∃ (o:Obj) (its:Array N1) (n:Nat),(K.lookup a=UA o/\o.cls=.type "tuple"/\o.data=.seq its n/\its.size<=sizeLine/\ao xs its.toList)/\o.dict=UB
def KL (K:NV) (a:Of) (xs:List V):Prop:=∃ (its:List N1) (n:Nat),K.lookup a=UA { cls:=.type "list",data:=.seq its.toArray n }/\its.length<=sizeLine/\ao xs its
def LL (K:NV) (H:Hp) (a:Of) (xs:List V):Prop:=Rd H a (.lst xs)\/KL K a xs
theorem LL.sq (h:LL K H a xs):SqL K H a xs:=by
 rcases h with h|⟨its,n,h1,h2,h3⟩
 exact .inl h;exact .inr ⟨_,its.toArray,n,h1,rfl,rfl,rfl,by simpa using h2,by simpa using h3⟩
def KD (P:Ot) (w:OR) (K:NV) (a:Of) (es:List (Str×V)):Prop :=
 (a==Py)=UD/\∃ vs:List (Key×N1),KV (es.map λq=>(Sum.inr q.1,q.2)) vs/\∀ h:Heap,K.In h->h.DictOf (au P w) a vs
mutual
inductive RD (K:NV) (m:List Of) (H:Hp):V->BT.D->Prop where
 | non:RD K m H .non .non
 | bl (b:Bool):RD K m H (.bl b) (.bl b)
 | int (i:Int):RD K m H (.int i) (.int i)
 | str (x:Str) (h:PyData.strOk x=UC):RD K m H (.str x) (.str x)
 | tup {a:Of}{vs:List V}{ds:List BT.D} (h:(Rd H a (.tup vs)/\a∉m)\/KT K a vs) (r:RDs K m H vs ds):RD K m H (.ref a) (.tup ds)
 | lst {a:Of}{vs:List V}{ds:List BT.D} (h:(Rd H a (.lst vs)/\a∉m)\/KL K a vs) (r:RDs K m H vs ds):RD K m H (.ref a) (.lst ds)
inductive RDs (K:NV) (m:List Of) (H:Hp):List V->List BT.D->Prop where
 | nil:RDs K m H [] []
 | cons {v:V}{d:BT.D}{vs:List V}{ds:List BT.D} (r:RD K m H v d) (t:RDs K m H vs ds):RDs K m H (v::vs) (d::ds)
end
inductive RDk (K:NV):List (Str×V)->List (Str×BT.D)->Prop where
 | nil:RDk K [] []
 | cons {x:Str}{v:V}{d:BT.D}{es:List (Str×V)}{kvs:List (Str×BT.D)} (r:∀ m H,RD K m H v d) (t:RDk K es kvs):RDk K ((x,v)::es) ((x,d)::kvs)
inductive RA (K:NV) (m:List Of) (H:Hp):V->BT.W->Prop where
 | p {v:V}{d:BT.D} (r:RD K m H v d):RA K m H v (.p d)
 | r {a:Of}{n:Nat} (h:m[n]?=UA a):RA K m H (.ref a) (.r n)
 | o {a:Of}{n:Nat} (h:m[n]?=UA a):RA K m H (.ref a) (.o n)
def Tr (m:List Of) (H:Hp) (a:Of) (o:Obj):Prop:=H a=UA (.frz o (.own 0))/\a∉m
noncomputable def vf (x:Str):Str:=x++".<locals>."++"<lambda>"
inductive fU (m:List Of) (H:Hp) (cl:List (Str×Of)):List Str->List V->Prop where
 | nil:fU m H cl [] []
 | cons {x:Str}{c:Of}{o:Obj}{u:N1}{v:V}{xs:List Str}{vs:List V} (h1:cl.lookup x=UA c) (h2:Tr m H c o) (h3:o.data=.cell (UA u)) (r:RelV v u) (t:fU m H cl xs vs):fU m H cl (x::xs) (v::vs)
inductive fS (m:List Of) (H:Hp) (f:Of) (L:Nat) (vs:List V):Prop where
 | mk (bt:_) (ps:_) (fs:_) (pa:_) (be:_) (sc:_) (cl:_) (pm:_) (ctv:_) (c':_) (oc:_) (os:_) (t:_) (q:_) (h1:BT.lZ L=UA ⟨ps++fs,ps++fs,.ret bt⟩) (h2:LPa pa ps) (h3:kU ps fs sc=UC) (h4:CE' sc (ps++fs) bt be) (h5:(∀ x y c,cl.lookup x=UA c->cl.lookup y=UA c->x=y)) (h6:(∀ x c,cl.lookup x=UA c->x∈fs)) (h7:Tr m H f (QZ "<lambda>" q pa be sc cl pm c' ctv)) (h8:Tr m H c' oc) (h9:oc.data=.fields os) (h10:os[1]?=UA (.str q t)) (h11:fU m H cl fs vs):fS m H f L vs
inductive RCs (K:NV) (m:List Of) (H:Hp):List V->List BT.Cp->Prop where
 | nil:RCs K m H [] []
 | cons {v:V}{x:BT.Cp}{vs:List V}{xs:List BT.Cp} (r:RA K m H v x.w) (t:RCs K m H vs xs):RCs K m H (v::vs) (x::xs)
def TB (K:NV) (H:Hp):Prop:=∀ x∈BT.cQ,∀ c P,OS K x=UA (c,P)->∃ ps,H P=UA (.tbl ps)/\TriplesOk ps.toList ∧
 ∀ pos v,QN pos ps.toList=UA v->∃ c' oc os t,v=.ref c'/\H c'=UA (.frz oc (.own 0))/\oc.data=.fields os/\os[1]?=UA (.str (vf x) t)
theorem TB.mono (h:TB K H) (h1:∀ P ps,H P=UA (.tbl ps)->H' P=UA (.tbl ps)) (h2:∀ a o vs,o.data=.fields vs->H a=UA (.frz o (.own 0))->H' a=UA (.frz o (.own 0))):TB K H':=λx hx c P e=>by obtain ⟨ps,e1,e2,e3⟩:=h x hx c P e;refine ⟨ps,h1 _ _ e1,e2,λpos v q=>?_⟩;obtain ⟨c',oc,os,t,q1,q2,q3⟩:=e3 pos v q;exact ⟨c',oc,os,t,q1,h2 _ _ _ q3.1 q2,q3⟩
def CN (K:NV) (c:Str) (C:Of):Prop:=OI K Og c=UA (UA (.ref C))
structure XT (K:NV) (c:Str) (C:Of):Prop where
 ga:OB K (.ref C) "__getattribute__"=UA (UA (.builtin "BaseException.__getattribute__"))
 nga:OB K (.ref C) "__getattr__"=UA UB
 mrb:Rm K C (.type "BaseException")=UA UC
 dct:PJ K C=UC
 fnd:OB K (.ref C) "__class__"=UA (UA (.builtin "object.__class__"))
 spc:TV K (.builtin "object.__class__") "__get__"=UA (UA (.builtin "getset_descriptor.__get__"))
 tak:Uv K (.builtin "object.__class__")=UA UC
 mro:Rm K C (.type "object")=UA UC
 own:∀ cn,DP cn=UC->∃ D,CN K cn D/\Pi K (.ref C) (.ref D)=UA (BT.E8 c cn)
 val:Pi K (.ref C) (.type "ValueError")=UA UC
def excAt (K:NV) (c:Str) (a:Of):Heap->Prop:=λh=>∃ o C,CN K c C/\XT K c C/\h.get? a=UA o/\o.cls=.ref C
inductive RKs (K:NV) (m:List Of) (H:Hp):List (Key×V)->List (BT.Ky×BT.D)->Prop where
 | nil:RKs K m H [] []
 | cons {k:Key}{v:V}{d:BT.D}{vs:List (Key×V)}{kvs:List (BT.Ky×BT.D)} (hk:RD K m H (kV k) (BT.gW k)) (r:RD K m H v d) (t:RKs K m H vs kvs):RKs K m H ((k,v)::vs) ((k,d)::kvs)
inductive RW (P:Ot) (w:OR) (K:NV) (m:List Of) (H:Hp):V->BT.W->Prop where
 | p {v:V}{d:BT.D} (r:RD K m H v d):RW P w K m H v (.p d)
 | r {a:Of}{n:Nat} (h:m[n]?=UA a):RW P w K m H (.ref a) (.r n)
 | k {a:Of}{es:List (Str×V)}{kvs:List (Str×BT.D)} (h:KD P w K a es) (r:RDk K es kvs):RW P w K m H (.ref a) (.k (.t kvs))
 | kl {a:Of}{o:Obj}{vs:List (Key×V)}{kvs:List (BT.Ky×BT.D)} (h:H a=UA (.frz o (.dK vs))/\a∉m) (r:RKs K m H vs kvs):RW P w K m H (.ref a) (.k (.l kvs))
 | o {a:Of}{n:Nat} (h:m[n]?=UA a):RW P w K m H (.ref a) (.o n)
 | c {f:Of}{L:Nat}{vs:List V}{cs:List BT.Cp} (h:fS m H f L vs) (r:RCs K m H vs cs):RW P w K m H (.ref f) (.c (.l L) cs)
 | x {a:Of}{c:Str} (h:H a=UA (.ext (excAt K c a))) (n:a∉m) (xt:∃ C,XT K c C):RW P w K m H (.ref a) (.x c)
 | g {f:Of}{x:Str} (h:OI K Og x=UA (UA (.ref f))) (r:O3 K (.ref f)=UC):RW P w K m H (.ref f) (.c (.f x) [])
inductive RFs (K:NV) (m:List Of) (H:Hp):List (Str×V)->List (Str×BT.W)->Prop where
 | nil:RFs K m H [] []
 | cons {f:Str}{v:V}{x:BT.W}{vs:List (Str×V)}{fs:List (Str×BT.W)} (r:RA K m H v x) (t:RFs K m H vs fs):RFs K m H ((f,v)::vs) ((f,x)::fs)
theorem CN.inj (h:CN K c C) (h':CN K c C'):C=C':=by have e:=h.symm.trans h';simpa using e
structure jV (K:NV) (c:Str) (C:Of):Prop where
 cn:CN K c C
 cls:Cls K C
 no:∀ f,attrName f=UC->fW K C f
noncomputable def gj (K:NV) (m:List Of) (H:Hp) (a:Of):BT.Cl->Prop
 | .l xs=>∃ vs,H a=UA (.lst vs)/\RDs K m H vs xs| .o c fs=>∃ C dx vs,H a=UA (.ins C dx vs)/\jV K c C/\RFs K m H vs fs| .d kvs=>∃ vs,H a=UA (.dK vs)/\RKs K m H vs kvs
inductive RWs (P:Ot) (w:OR) (K:NV) (m:List Of) (H:Hp):List V->List BT.W->Prop where
 | nil:RWs P w K m H [] []
 | cons {v:V}{x:BT.W}{vs:List V}{xs:List BT.W} (r:RW P w K m H v x) (t:RWs P w K m H vs xs):RWs P w K m H (v::vs) (x::xs)
structure RH (K:NV) (m:List Of) (H:Hp) (h:BT.HH):Prop where
 nd:m.Nodup
 len:m.length=h.length
 cl:∀ (i:Nat) (a:Of) (c:BT.Cl),m[i]?=UA a->h[i]?=UA c->gj K m H a c
 tb:TB K H
theorem xX (e:BT.lat h n=UA xs):h[n]?=UA (.l xs):=by
 unfold BT.lat at e;cases g:h[n]? with
 | none=>rw[g] at e;cases e| some c=>rw[g] at e;cases c<;>simp[BT.nE] at e;rw[e]
theorem xY (e:BT.oat h n=UA (c,fs)):h[n]?=UA (.o c fs):=by
 unfold BT.oat at e;cases g:h[n]? with
 | none=>rw[g] at e;cases e| some c=>rw[g] at e;cases c<;>simp[BT.pI] at e;rw[e.1,e.2]
theorem xZ (e:BT.dat h n=UA kvs):h[n]?=UA (.d kvs):=by
 unfold BT.dat at e;cases g:h[n]? with
 | none=>rw[g] at e;cases e| some c=>rw[g] at e;cases c<;>simp[BT.uZ] at e;rw[e]
theorem RH.DQ (R:RH K m H h) (i:Nat) (a:Of) (kvs:List (BT.Ky×BT.D)) (e:m[i]?=UA a) (g:BT.dat h i=UA kvs):∃ vs,H a=UA (.dK vs)/\RKs K m H vs kvs:=R.cl i a _ e (xZ g)
theorem RH.cell (R:RH K m H h) (i:Nat) (a:Of) (xs:List BT.D) (e:m[i]?=UA a) (g:BT.lat h i=UA xs):∃ vs,H a=UA (.lst vs)/\RDs K m H vs xs:=R.cl i a _ e (xX g)
inductive OC (K:NV) (m:List Of) (H:Hp) (a:Of) (c:Str) (fs:List (Str×BT.W)):Prop where
 | mk (C:Of) (dx:_) (vs:_) (h1:H a=UA (.ins C dx vs)) (h2:jV K c C) (h3:RFs K m H vs fs):OC K m H a c fs
theorem RH.mU (R:RH K m H h) (i:Nat) (a:Of) (c:Str) (fs:List (Str×BT.W)) (e:m[i]?=UA a) (g:BT.oat h i=UA (c,fs)):OC K m H a c fs:=by obtain ⟨C,dx,vs,h1,h2,h3⟩:=R.cl i a _ e (xY g);exact ⟨C,dx,vs,h1,h2,h3⟩
structure RS (P:Ot) (w:OR) (K:NV) (m:List Of) (H:Hp) (σ:L2.St) (s:BT.Sl):Prop where
 len:σ.length=s.length
 get:∀ (i:Nat) (x:BT.W),s[i]?=UA (UA x)->∃ v,σ[i]?=UA (UA v)/\RW P w K m H v x
noncomputable def ya:HO->Bool
 | .tbl _=>UC| _=>UD
structure Ext (m:List Of) (H:Hp) (m':List Of) (H':Hp):Prop where
 pre:∃ e,m'=m++e/\∀ a∈e,H a=UB
 keep:∀ a o,H a=UA o->a∉m->ya o=UD->H' a=UA o
 live:∀ a,H' a=UB->H a=UB
theorem Ext.refl (m:List Of) (H:Hp):Ext m H m H:=⟨⟨[],by simp,by simp⟩,λ_ _ h _ _=>h,λ_ h=>h⟩
theorem Ext.cY (x:Ext m H m' H') (h:H a=UA o) (n:a∉m):a∉m':=by
 obtain ⟨e,rfl,he⟩:=x.pre;intro q;rcases List.mem_append.mp q with q|q
 exact n q;rw[he a q] at h;cases h
theorem Ext.trans (x:Ext m H m1 H1) (y:Ext m1 H1 m2 H2):Ext m H m2 H2:=by
 obtain ⟨e,rfl,he⟩:=x.pre;obtain ⟨e',rfl,he'⟩:=y.pre;refine ⟨⟨e++e',by rw[OY],λa ha=>?_⟩,λa o h n t=>y.keep a o (x.keep a o h n t) (x.cY h n) t,λa h=>x.live a (y.live a h)⟩;rcases List.mem_append.mp ha with q|q
 exact he a q;exact x.live a (he' a q)
theorem Rd.ext (x:Ext m H m' H') (h:Rd H a u) (n:a∉m) (t:ya u=UD:=by rfl):Rd H' a u/\a∉m':=by
 rcases h with h|⟨o,h⟩
 exact ⟨.inl (x.keep _ _ h n t),x.cY h n⟩;exact ⟨.inr ⟨o,x.keep _ _ h n rfl⟩,x.cY h n⟩
theorem Tr.ext (x:Ext m H m' H') (h:Tr m H a o):Tr m' H' a o:=⟨x.keep _ _ h.1 h.2 rfl,x.cY h.1 h.2⟩
theorem fU.ext (x:Ext m H m' H') (r:fU m H cl xs vs):fU m' H' cl xs vs:=by
 induction r with
 | nil=>exact .nil| cons h1 h2 h3 r t ih=>exact .cons h1 (h2.ext x) h3 r ih
theorem fS.ext (x:Ext m H m' H') (h:fS m H f L vs):fS m' H' f L vs:=by obtain ⟨bt,ps,fs,pa,be,sc,cl,pm,ctv,c',oc,os,t,q,h0,h1,h2,h3,h4,h5,h6,h7,h8,h9,h10⟩:=h;exact ⟨bt,ps,fs,pa,be,sc,cl,pm,ctv,c',oc,os,t,q,h0,h1,h2,h3,h4,h5,h6.ext x,h7.ext x,h8,h9,h10.ext x⟩
section
variable {K:NV}
mutual
theorem RD.ext (x:Ext m H m' H'):∀ {v:V}{d:BT.D},RD K m H v d->RD K m' H' v d
 | _,_,.non=>.non| _,_,.bl b=>.bl b| _,_,.int i=>.int i| _,_,.str y h=>.str y h| _,_,.tup h r=>.tup (h.elim (λq=>.inl (Rd.ext x q.1 q.2)) .inr) (RDs.ext x r)| _,_,.lst h r=>.lst (h.elim (λq=>.inl (Rd.ext x q.1 q.2)) .inr) (RDs.ext x r)
theorem RDs.ext (x:Ext m H m' H'):∀ {vs:List V}{ds:List BT.D},RDs K m H vs ds->RDs K m' H' vs ds
 | _,_,.nil=>.nil| _,_,.cons r t=>.cons (RD.ext x r) (RDs.ext x t)
end
theorem RA.rw (r:RA K m H v d):RW P w K m H v d:=by
 cases r with
 | p r=>exact .p r| r h=>exact .r h| o h=>exact .o h
theorem RW.ra (r:RW P w K m H v d) (h0:BT.attrOk d=UC):RA K m H v d:=by
 cases r with
 | p r=>exact .p r| r h=>exact .r h| o h=>exact .o h| _=>cases h0
theorem Ext.ix (x:Ext m H m' H') {n:Nat} (h:m[n]?=UA a):m'[n]?=UA a:=by obtain ⟨e,rfl,_⟩:=x.pre;rw[N5 (by rcases Os _ m.length with q|q;exact q;rw[Od q] at h;cases h)];exact h
theorem RA.ext (x:Ext m H m' H') (r:RA K m H v d):RA K m' H' v d:=by
 cases r with
 | p r=>exact .p (r.ext x)| r h=>exact .r (x.ix h)| o h=>exact .o (x.ix h)
theorem RCs.ext (x:Ext m H m' H') (r:RCs K m H vs cs):RCs K m' H' vs cs:=by
 induction r with
 | nil=>exact .nil| cons r t ih=>exact .cons (r.ext x) ih
theorem RKs.ext (x:Ext m H m' H') (r:RKs K m H vs kvs):RKs K m' H' vs kvs:=by
 induction r with
 | nil=>exact .nil| cons hk r t ih=>exact .cons (hk.ext x) (r.ext x) ih
theorem RW.ext (x:Ext m H m' H') (r:RW P w K m H v d):RW P w K m' H' v d:=by
 cases r with
 | p r=>exact .p (r.ext x)
 | r h =>
  obtain ⟨e,rfl,_⟩:=x.pre;refine .r ?_;rw[N5 (by rcases Os _ m.length with q|q;exact q;rw[Od q] at h;cases h)];exact h
 | k h r=>exact .k h r| kl h r=>exact .kl ⟨x.keep _ _ h.1 h.2 rfl,x.cY h.1 h.2⟩ (r.ext x)| c h r=>exact .c (h.ext x) (r.ext x)| g h r=>exact .g h r| x h n xt=>exact .x (x.keep _ _ h n rfl) (x.cY h n) xt
 | o h =>
  obtain ⟨e,rfl,_⟩:=x.pre;refine .o ?_;rw[N5 (by rcases Os _ m.length with q|q;exact q;rw[Od q] at h;cases h)];exact h
theorem RFs.ext (x:Ext m H m' H') (r:RFs K m H vs fs):RFs K m' H' vs fs:=by
 induction r with
 | nil=>exact .nil| cons r t ih=>exact .cons (r.ext x) ih
theorem gj.ext (x:Ext m H m' H') (e:H' a=H a) (r:gj K m H a c):gj K m' H' a c:=by
 cases c with
 | o c fs=>obtain ⟨C,dx,vs,h1,h2,h3⟩:=r;exact ⟨C,dx,vs,e.trans h1,h2,h3.ext x⟩| _=>obtain ⟨vs,h1,h2⟩:=r;exact ⟨vs,e.trans h1,h2.ext x⟩
theorem gj.some (r:gj K m H a c):∃ o,H a=UA o:=by
 cases c with
 | o c fs=>obtain ⟨C,dx,vs,h1,h2,h3⟩:=r;exact ⟨_,h1⟩| _=>obtain ⟨vs,h1,h2⟩:=r;exact ⟨_,h1⟩
theorem RWs.ext (x:Ext m H m' H') (r:RWs P w K m H vs ds):RWs P w K m' H' vs ds:=by
 induction r with
 | nil=>exact .nil| cons r t ih=>exact .cons (r.ext x) ih
theorem RS.ext (x:Ext m H m' H') (r:RS P w K m H σ s):RS P w K m' H' σ s :=
 ⟨r.len,λi y e=>by obtain ⟨v,h,q⟩:=r.get i y e;exact ⟨v,h,q.ext x⟩⟩
theorem RDs.length:∀ {vs:List V}{ds:List BT.D},RDs K m H vs ds->vs.length=ds.length
 | _,_,.nil=>rfl
 | _,_,.cons _ t=>by rw[Oq,Oq,RDs.length t]
theorem RWs.length:∀ {vs:List V}{ds:List BT.W},RWs P w K m H vs ds->vs.length=ds.length
 | _,_,.nil=>rfl
 | _,_,.cons _ t=>by rw[Oq,Oq,RWs.length t]
theorem RDs.get:∀ {vs:List V}{ds:List BT.D}{i:Nat}{d:BT.D},RDs K m H vs ds->ds[i]?=UA d->∃ v,vs[i]?=UA v/\RD K m H v d
 | _,_,_,_,.nil,e=>by simp at e
 | _,_,0,_,.cons r _,e=>by simp at e;subst e;exact ⟨_,rfl,r⟩
 | _,_,i+1,d,.cons _ t,e=>by obtain ⟨u,h1,h2⟩:=RDs.get (i:=i) (d:=d) t (by simpa using e);exact ⟨u,by simpa using h1,h2⟩
theorem RDs.append:∀ {vs ws:List V}{ds es:List BT.D},RDs K m H vs ds->RDs K m H ws es->RDs K m H (vs++ws) (ds++es)
 | _,_,_,_,.nil,s=>s| _,_,_,_,.cons r t,s=>.cons r (RDs.append t s)
theorem RDs.take:∀ {vs:List V}{ds:List BT.D} (n:Nat),RDs K m H vs ds->RDs K m H (vs.take n) (ds.take n)
 | _,_,0,_=>.nil| _,_,_+1,.nil=>.nil| _,_,n+1,.cons r t=>.cons r (RDs.take n t)
theorem RDs.drop:∀ {vs:List V}{ds:List BT.D} (n:Nat),RDs K m H vs ds->RDs K m H (vs.drop n) (ds.drop n)
 | _,_,0,r=>r| _,_,_+1,.nil=>.nil| _,_,n+1,.cons _ t=>RDs.drop n t
theorem RDs.set (r:RD K m H v d):∀ {vs:List V}{ds:List BT.D} (i:Nat),RDs K m H vs ds->RDs K m H (vs.set i v) (ds.set i d)
 | _,_,_,.nil=>.nil| _,_,0,.cons _ t=>.cons r t| _,_,i+1,.cons q t=>.cons q (RDs.set r i t)
theorem RDs.reverse (r:RDs K m H vs ds):RDs K m H vs.reverse ds.reverse:=by
 match r with
 | .nil=>exact .nil| .cons r t=>rw[QT,QT];exact RDs.append (RDs.reverse t) (.cons r .nil)
theorem RDs.pick (r:RDs K m H vs ds):∀ l:List Nat,RDs K m H (l.filterMap λi=>vs[i]?) (l.filterMap λi=>ds[i]?)
 | []=>.nil
 | i::l=>by
  rw[OE,OE];cases g:ds[i]? with
  | none =>
   have:vs[i]?=UB:=by have h:=r.length;rw[SR] at g ⊢;lia
   rw[this];exact RDs.pick r l
  | some d =>
   obtain ⟨v,e,q⟩:=r.get g;rw[e];exact .cons q (RDs.pick r l)
theorem RDs.dropLast:∀ {vs:List V}{ds:List BT.D},RDs K m H vs ds->RDs K m H vs.dropLast ds.dropLast
 | _,_,.nil=>.nil| _,_,.cons _ .nil=>.nil| _,_,.cons r (.cons q t)=>.cons r (RDs.dropLast (.cons q t))
theorem RDs.rep (r:RDs K m H vs ds):∀ k:Nat,RDs K m H (Oo k vs).flatten (Oo k ds).flatten
 | 0=>.nil
 | k+1=>by rw[Pd,Pd,PX,PX];exact RDs.append r (RDs.rep r k)
theorem mV {N:List Of} (hN:N.Nodup) {i j:Nat}{x:Of} (a:N[i]?=UA x) (b:N[j]?=UA x):i=j:=by
 have hi:i < N.length:=by
  rcases Os i N.length with z|z
  exact z;rw[Od z] at a;cases a
 have hj:j < N.length:=by
  rcases Os j N.length with z|z
  exact z;rw[Od z] at b;cases b
 rw[N7 hi] at a;rw[N7 hj] at b;exact (List.getElem_inj hN).mp ((Ob a).trans (Ob b).symm)
inductive RR (K:NV) (m:List Of) (H:Hp):V->BT.D->Prop where
 | d {v:V}{d:BT.D} (r:RD K m H v d):RR K m H v d
 | l {a:Of}{vs:List V}{ds:List BT.D} (h:H a=UA (.lst vs)) (r:RDs K m H vs ds):RR K m H (.ref a) (.lst ds)
theorem aC (RHh:RH K m H h) (r:RW P w K m H v x) (e:BT.rd x h=UA d):RR K m H v d:=by
 cases r with
 | p r=>cases e;exact .d r
 | @r a n q =>
  simp only[BT.rd] at e;cases g:BT.lat h n with
  | none=>rw[g] at e;cases e
  | some xs =>
   rw[g] at e;cases e;obtain ⟨vs,h1,h2⟩:=RHh.cell n a xs q g;exact .l h1 h2
 | _=>cases e
inductive RLs (K:NV) (m:List Of) (H:Hp) (v:V) (ds:List BT.D):Prop where
 | mk (a:Of) (vs:List V) (e:v=.ref a) (l:LL K H a vs) (r:RDs K m H vs ds):RLs K m H v ds
inductive RTs (K:NV) (m:List Of) (H:Hp) (v:V) (ds:List BT.D):Prop where
 | mk (a:Of) (vs:List V) (e:v=.ref a) (l:SqT K H a vs) (r:RDs K m H vs ds):RTs K m H v ds
theorem RR.lst {v:V}{ds:List BT.D} (r:RR K m H v (.lst ds)):RLs K m H v ds:=by
 cases r with
 | d r=>cases r with|lst h r=>exact ⟨_,_,rfl,h.elim (λq=>.inl q.1) .inr,r⟩
 | l h r=>exact ⟨_,_,rfl,.inl (.inl h),r⟩
theorem RR.tup {v:V}{ds:List BT.D} (r:RR K m H v (.tup ds)):RTs K m H v ds:=by
 cases r with
 | d r=>cases r with|tup h r=>exact ⟨_,_,rfl,h.elim (λq=>.inl q.1) (λ⟨o,its,n,q,_⟩=>.inr ⟨o,its,n,q⟩),r⟩
theorem RR.int {v:V}{i:Int} (r:RR K m H v (.int i)):v=.int i:=by cases r with|d r=>cases r;rfl
theorem RR.str {v:V}{x:Str} (r:RR K m H v (.str x)):v=.str x/\PyData.strOk x=UC:=by cases r with|d r=>cases r with|str _ h=>exact ⟨rfl,h⟩
theorem RR.bl {v:V}{b:Bool} (r:RR K m H v (.bl b)):v=.bl b:=by cases r with|d r=>cases r;rfl
theorem RR.non (r:RR K m H v .non):v=.non:=by cases r with|d r=>cases r;rfl
theorem TB.new (hp:H p=UB) (h:TB K H):TB K (upd H p o) :=
 h.mono (λP ps e=>by rw[av (az e hp)];exact e) λa o _ _ e=>by rw[av (az e hp)];exact e
theorem d9 (hp:H p=UB):Ext m H m (upd H p o) :=
 ⟨⟨[],by simp,by simp⟩,λa q h _ _=>by rw[av (az h hp)];exact h,λa h=>by
  by_cases e:a=p
  rw[e];exact hp
  ·rw[av e] at h;exact h⟩
theorem RH.cY (R:RH K m H h) (hp:H p=UB):p∉m:=by
 intro q;obtain ⟨i,hi⟩:=OT q;have hl:i < h.length:=by
  rw[← R.len];rcases Os i m.length with z|z
  exact z;rw[Od z] at hi;cases hi
 obtain ⟨o,e⟩:=(R.cl i p h[i] hi (N7 hl)).some;rw[e] at hp;cases hp
def Le (H H':Hp):Prop:=∀ a u,H a=UA u->H' a=UA u
theorem Le.tb (q:Le H H') (t:TB K H):TB K H':=t.mono (λ_ _ e=>q _ _ e) λ_ _ _ _ e=>q _ _ e
theorem rG (hp:H p=UB):Le H (upd H p o):=λa u e=>by rw[av (az e hp)];exact e
theorem RH.ext (R:RH K m H h) (x:Ext m H m H') (k:Le H H'):RH K m H' h :=
 ⟨R.nd,R.len,λi a c e1 e2=>by obtain ⟨o,e⟩:=(R.cl i a c e1 e2).some;exact (R.cl i a c e1 e2).ext x (by rw[e];exact k _ _ e),k.tb R.tb⟩
noncomputable def Fk:HO->Bool
 | .lst _=>UC| .ins _ _ _=>UC| .dK _=>UC| _=>UD
theorem RH.mu (R:RH K m H h) (ha:a∈m):∃ o,H a=UA o/\Fk o=UC:=by
 obtain ⟨i,hi⟩:=OT ha;have hl:i < h.length:=by
  rw[← R.len];rcases Os i m.length with z|z
  exact z;rw[Od z] at hi;cases hi
 have z:=R.cl i a h[i] hi (N7 hl);cases g:h[i] with
 | o c fs=>rw[g] at z;obtain ⟨C,dx,vs,h1,h2,h3⟩:=z;exact ⟨_,h1,rfl⟩| _=>rw[g] at z;obtain ⟨vs,h1,h2⟩:=z;exact ⟨_,h1,rfl⟩
theorem RH.nin (R:RH K m H h) (e:H a=UA o) (n:Fk o=UD):a∉m:=λz=>by obtain ⟨u,h1,h2⟩:=R.mu z;rw[e] at h1;cases h1;rw[n] at h2;cases h2
theorem RH.new (R:RH K m H h) (hp:H p=UB):RH K m (upd H p o) h :=
 R.ext (d9 hp) (rG hp)
theorem gk (hp:H p=UB):Ext m H (m++[p]) (upd H p o) :=
 ⟨⟨[p],rfl,by simpa using hp⟩,λa q h _ _=>by rw[av (az h hp)];exact h,λa h=>by
  by_cases e:a=p
  rw[e];exact hp
  ·rw[av e] at h;exact h⟩
theorem RH.Fo (R:RH K m H h) (hp:H p=UB) (r:gj K (m++[p]) (upd H p o) p c):RH K (m++[p]) (upd H p o) (h++[c]):=by
 have np:=R.cY hp;have x:Ext m H (m++[p]) (upd H p o):=gk hp;refine ⟨List.nodup_append.mpr ⟨R.nd,by simp,λa ha b hb=>by simp at hb;subst hb;exact λe=>np (e ▸ ha)⟩,by simp[R.len],λi a ys e1 e2=>?_,R.tb.new hp⟩
 by_cases c:i < m.length
 ·rw[N5 c] at e1;rw[N5 (by rw[← R.len];exact c)] at e2;have ne:a≠p:=by intro e;subst e;exact np (N9 e1)
  exact (R.cl i a ys e1 e2).ext x (av ne)
 ·have e:i=m.length:=by
   rcases Os i (m++[p]).length with z|z
   simp at z;lia;rw[Od z] at e1;cases e1
  subst e;simp at e1;rw[R.len] at e2;simp at e2;subst e1 e2;exact r
theorem RH.MA (R:RH K m H h) (hp:H p=UB) (r:RDs K m H vs xs):RH K (m++[p]) (upd H p (.lst vs)) (h++[.l xs]) :=
 R.Fo hp ⟨vs,aB,r.ext (gk hp)⟩
theorem TB.set (hm:∃ u,H a=UA u/\Fk u=UC) (h:TB K H):TB K (upd H a o):=by obtain ⟨w,hw,hu⟩:=hm;refine h.mono (λP ps e=>?_) λb ob _ _ e=>?_;rw[av (λz=>by subst z;rw[hw] at e;cases e;cases hu)];exact e;rw[av (λz=>by subst z;rw[hw] at e;cases e;cases hu)];exact e
theorem iV (ha:a∈m):Ext m H m (upd H a o) :=
 ⟨⟨[],by simp,by simp⟩,λb u q n _=>by
  have ne:b≠a:=by intro e;subst e;exact n ha
  rw[av ne];exact q,λb q=>by
  by_cases e:b=a
  subst e;rw[aB] at q;cases q
  ·rw[av e] at q;exact q⟩
theorem fy (ha:a∈m) (h:H a=UA (.lst us)):Ext m H m (upd H a (.lst vs)):=iV ha
theorem RH.setC {h:BT.HH} (R:RH K m H h) {n:Nat}{a:Of}{o:HO}{c:BT.Cl} (hn:m[n]?=UA a) (r:gj K m (upd H a o) a c):RH K m (upd H a o) (h.set n c):=by
 have x:Ext m H m (upd H a o):=iV (N9 hn);refine ⟨R.nd,by simp[R.len],λi b ys e1 e2=>?_,R.tb.set (R.mu (N9 hn))⟩
 by_cases c:i=n
 ·subst c;rw[hn] at e1;cases e1;have hl:i < h.length:=by
   rw[← R.len];rcases Os i m.length with z|z
   exact z;rw[Od z] at hn;cases hn
  rw[O2 hl] at e2;cases e2;exact r
 ·rw[OH (Pb c)] at e2;have ne:b≠a:=by intro e;subst e;exact c (mV R.nd e1 hn)
  exact (R.cl i b ys e1 e2).ext x (av ne)
theorem RH.set (R:RH K m H h) (hn:m[n]?=UA a) (hH:H a=UA (.lst us)) (r:RDs K m H vs xs):RH K m (upd H a (.lst vs)) (h.set n (.l xs)) :=
 R.setC hn ⟨vs,aB,r.ext (fy (N9 hn) hH)⟩
end
end BS
end
section
namespace BS
open PySem PySem.Spec PyProof.Rows L2 PySem.SeqAt
theorem j4 {E:N1->N4->Prop} (f:Nat->β->Sem (ForInStep β)) (n:Nat) (I:Nat->β->N4->Prop) (Q:β->N4->Prop)
 (turn:∀ i b s,i < n->I i b s->wpAny M A (f i b) (λr s'=>match r with | .yield b'=>I (i+1) b' s' | .done b'=>Q b' s') E s)
 (fin:∀ b s,I n b s->Q b s) (b:β) (h:I 0 b s):wpAny M A (forIn [:n] b f) Q E s:=by
 rw[Std.Legacy.Range.forIn_eq_forIn_range'];have e:Ud [:n].start [:n].size [:n].step=Ud 0 (n - 0):=by simp[Std.Legacy.Range.size]
 rw[e];refine wpAny_forIn_list f (λrest b s=>∃ i,i<=n/\rest=Ud i (n - i)/\I i b s) Q (λx rest b s ⟨i,hi,hr,q⟩=>?_) (λb s ⟨i,hi,hr,q⟩=>?_) _ b ⟨0,O5 _,rfl,h⟩
 ·have hlt:i < n:=by
   rcases Os i n with z|z
   exact z;rw[show n - i=0 by lia] at hr;simp at hr
  rw[show n - i=(n - (i+1))+1 by lia,List.range'_succ] at hr
  injection hr with e1 e2
  subst e1;refine wpAny_mono (turn x b s hlt q) (λr s' z=>?_) λ_ _ z=>z;cases r with
  | yield b'=>exact ⟨x+1,hlt,e2,z⟩| done b'=>exact z
 ·have:i=n:=by
   rcases Os i n with z|z
   rw[show n - i=(n - (i+1))+1 by lia,List.range'_succ] at hr;simp at hr;lia
  subst this;exact fin b s q
theorem mh (l:Of) (items:Array N1) (n:Nat) (dd:Option Of) (sl:Array (Option N1)) (x:N1) (e:N1->Bool) (j:Nat) (hj:j < items.size)
 (hit:e items[j]=UC) (hno:∀ m (hm:m < items.size),m < j->e items[m]=UD) :
 Meets (Builtin.«tuple.index» ⟨[.ref l,x],[]⟩)
  (λA R s=>s.heap.get? l=UA { cls:=.type "tuple",dict:=dd,data:=.seq items n,slots:=sl }/\(∀ y,y∈items->EqAt A.in1 s y x (e y))/\R (.ok (.ret (.int j s.toks))) { s with toks:=s.toks+1 }) :=
 .of_wp λprog w A R s h=>by
 obtain ⟨hp,g,d,tk,os⟩:=s;obtain ⟨hl,he,h⟩:=h
 wp_walk using Qn hl,j4 _ _ (λi b s'=>i<=j/\b.1=UB/\s'=⟨hp,g,d,tk,os⟩) _
 case turn =>
  rintro i b s' hi ⟨hij,hb,rfl⟩
  have hi':i < items.size:=by lia
  rw[Array.getElem?_eq_getElem hi'];refine NZ (he _ (Array.getElem_mem hi') prog w _ _ ?_)
  by_cases c:i=j
  ·subst c;rw[hit]
   wp_walk
   exact ⟨_,rfl,h⟩
  ·rw[hno i hi' (by lia)]
   wp_walk
   exact ⟨by lia,rfl,rfl⟩
 case fin =>
  rintro b s' ⟨hij,_,_⟩
  lia
 case h=>exact ⟨O5 _,rfl,rfl⟩
theorem rH (l:Of) (items:Array N1) (n:Nat) (dd:Option Of) (sl:Array (Option N1)) (k:Int) (t:Tok) (h1:-1000<=k) (h2:k<=1000) (c1:¬ items.isEmpty=UC) (c2:k≠1) (c3:0 < k) (hz:items.size*k.toNat<=sizeLine) :
 Meets (Builtin.«tuple.__mul__» ⟨[.ref l,.int k t],[]⟩)
  (λA R s=>s.heap.get? l=UA { cls:=.type "tuple",dict:=dd,data:=.seq items n,slots:=sl }/\R (.ok (.ret (.ref s.heap.objs.size))) { s with heap:=s.heap.push { cls:=.type "tuple",data:=.seq ((Oo k.toNat items).foldl (λx1 x2=>x1++x2) #[]) } }) :=
 .of_wp λprog w A R s h=>by
 obtain ⟨hp,g,d,tk,os⟩:=s;obtain ⟨hl,h⟩:=h;have f1:=TY;have a1:¬ (decide (k < -2 ^ 63)||decide (k ≥ 2 ^ 63))=UC:=by simp;lia
 have a2:¬ (items.isEmpty||k==1)=UC:=by simp at c1 ⊢;exact ⟨c1,c2⟩
 have a3:¬ (decide (k<=0)||items.isEmpty)=UC:=by simp at c1 ⊢;exact ⟨by lia,c1⟩
 have kk:(k.toNat:Int)=k:=by lia
 have a4:¬ ((items.size:Int)*k > (2 ^ 63 - 1) / 8):=by
  have z:((items.size*k.toNat:Nat):Int)<=(sizeLine:Nat):=Int.ofNat_le.mpr hz;rw[Int.natCast_mul,kk] at z;have z2:((sizeLine:Nat):Int)<=(2 ^ 63 - 1) / 8:=by decide
  lia
 have a5:¬ Rr ((items.size:Int)*k)=UC:=by have z:((items.size*k.toNat:Nat):Int)<=(sizeLine:Nat):=Int.ofNat_le.mpr hz;rw[Int.natCast_mul,kk] at z;simp only[Rr,decide_eq_true_eq];lia
 have hsz:sizeOk (.seq ((Oo k.toNat items).foldl (λx1 x2=>x1++x2) #[])):=by show ((Oo k.toNat items).foldl (λx1 x2=>x1++x2) #[]).size<=sizeLine;rw[AutoListH.size_joined,Array.size_empty,Qc];lia
 wp_walk using Qn hl
 rw[if_neg a1]
 wp_walk using Qn hl
 refine wpAny_ite_split (λc=>absurd c ?_) (λ_=>?_);intro c;have a6:=a4;simp at a6 c;lia
 wp_walk using Qn hl
 refine wpAny_ite_false (decide_eq_false (Nat.not_lt.mpr hsz)) ?_
 wp_walk
 exact ⟨_,rfl,h⟩
theorem jC:fillsNumberSlot (.type "tuple") "mul"=pure UD :=
 PySem.fillsNumberSlot_seq (id:="tuple.__mul__") (r:=UA (.builtin "tuple.__rmul__")) F.slot_tuple_mul.lookup (by decide +kernel) F.slot_tuple_rmul.lookup (by decide +kernel)
theorem nO:seqRepeat? (.type "tuple")=pure (UA (.builtin "tuple.__mul__")):=by unfold seqRepeat?;rw[PySem.seqSlot_of (T:="tuple") (name:="__mul__") (id:="tuple.__mul__") F.slot_tuple_mul.lookup (by decide +kernel),PySem.seqSlot_of (T:="tuple") (name:="__rmul__") (id:="tuple.__rmul__") F.slot_tuple_rmul.lookup (by decide +kernel)];rfl
theorem kW (a:Int) (t:Tok) (l:Of) (items:Array N1) (n:Nat) (dd:Option Of) (sl:Array (Option N1)) :
 Meets (Builtin.«int.__rmul__» ⟨[.int a t,.ref l],[]⟩) (λ_ R s=>s.heap.get? l=UA { cls:=.type "tuple",dict:=dd,data:=.seq items n,slots:=sl }/\R (.ok (.ret Value.notImplemented)) s) :=
 .of_wp λprog w A R s h=>by obtain ⟨hp,g,d,tk,os⟩:=s;obtain ⟨hl,h⟩:=h;wp_walk;exact ⟨_,rfl,h⟩
theorem j5 (l:Of) (items:Array N1) (n:Nat) (b:Of) (items2:Array N1) (n2:Nat) (dd:Option Of) (sl:Array (Option N1)) (hs0:¬(!items.isEmpty&&O4 (items.size+items2.size))=UC) (hs1:items.size<=sizeLine) (hs2:items.size+items2.size<=sizeLine+1) :
 Meets (Builtin.«list.extend» ⟨[.ref l,.ref b],[]⟩) (λ_ R s=>s.heap.get? l=UA { cls:=.type "list",dict:=UB,data:=.seq items n,slots:=#[] }/\s.heap.get? b=UA { cls:=.type "tuple",dict:=dd,data:=.seq items2 n2,slots:=sl }/\R (.ok (.ret SN)) { s with heap:=s.heap.update l (Qa λx=>x++items2),toks:=s.toks }) :=
 .of_wp λprog w A R s h=>by
  obtain ⟨hp,g,d,tk,os⟩:=s;obtain ⟨hl,hb,h⟩:=h;have f1:=TY;have f2:=AutoSeq1.sub_tuple_tuple;have f3:=AutoSeq1.sub_list_list;have f4:=AutoSeq1.sub_tuple_list;have f5:=AutoSeq1.sub_list_tuple;have hz':(items++items2).size<=sizeLine+1:=by rw[Array.size_append];exact hs2
  wp_walk using (wpAny_updateSeq hl rfl (hz:=hs1) (_hz':=hz')),Qn hl,Qn hb;exact ⟨_,rfl,h⟩
end BS
end
section
namespace BS
open PySem PySem.Spec PyProof.Rows L2
variable {K:NV}{ep:Nat}
inductive Bnd {α β:Type} (x:Option (α×BT.HH)) (k:α->BT.HH->Option β) (r:β):Prop where
 | mk (a:α) (g:BT.HH) (h1:x=UA (a,g)) (h2:k a g=UA r):Bnd x k r
inductive Jh {α β:Type} (x:Option α) (f:α->β) (r:β):Prop where
 | mk (a:α) (h1:x=UA a) (h2:f a=r):Jh x f r
inductive Bind (o:BT.Bin) (x y:BT.W) (h:BT.HH) (z:BT.W) (h':BT.HH):Prop where
 | mk (d d' q:BT.D) (h1:BT.rd x h=UA d) (h2:BT.rd y h=UA d') (h3:BT.jw o d d'=UA q) (h4:z=.p q) (h5:h'=h):Bind o x y h z h'
theorem ah {α β:Type}{x:Option (α×BT.HH)}{k:α->BT.HH->Option β}{r:β} (h:BT.bnd x k=UA r):Bnd x k r:=by
 cases x with
 | none=>cases h| some q=>exact ⟨q.1,q.2,rfl,h⟩
theorem ay {α β:Type}{x:Option α}{f:α->β}{r:β} (h:x.map f=UA r):Jh x f r:=by
 cases x with
 | none=>cases h| some a=>exact ⟨a,rfl,Ob h⟩
def Post (P:Ot) (w:OR) (K:NV) (m:List Of) (H:Hp) (z:BT.W) (h':BT.HH) (Q:VK):Prop :=
 ∀ v H' m',Ext m H m' H'->RH K m' H' h'->RW P w K m' H' v z->Q v H'
inductive rOp (P:Ot) (w:OR) (K:NV) (f:BT.W->BT.W->BT.HH->Option (BT.W×BT.HH)) (v u:V) (H:Hp) (Q:VK):Prop where
 | mk (m:List Of) (h:BT.HH) (x y z:BT.W) (h':BT.HH) (R:RH K m H h) (rx:RW P w K m H v x) (ry:RW P w K m H u y) (e:f x y h=UA (z,h')) (p:Post P w K m H z h' Q):rOp P w K f v u H Q
theorem gJ {o:BT.Bin}{x y:BT.W}{h:BT.HH}{z:BT.W}{h':BT.HH} (e:BT.lW o x y h=UA (z,h')):Bind o x y h z h':=by
 unfold BT.lW at e;cases e1:BT.rd x h with
 | none=>rw[e1] at e;cases e
 | some d =>
  cases e2:BT.rd y h with
  | none=>rw[e1,e2] at e;cases e
  | some d' =>
   rw[e1,e2] at e;obtain ⟨q,eq,er⟩:=ay e;cases er;exact ⟨d,d',q,e1,e2,eq,rfl,rfl⟩
section
variable {X:Cx}
theorem bN:BT.lim<=sizeLine:=by decide
inductive Ji (s:N4) (a:Of) (xs:List V):Prop where
 | mk (z:xs.length<=sizeLine) (its:List N1) (n:Nat) (r:ao xs its) (l:xs.length=its.length) (e:s.heap.get? a=UA { cls:=.type "list",data:=.seq its.toArray n }):Ji s a xs
theorem rdL (I:Inv X zt σ H s) (r:LL X.K H a xs):Ji s a xs:=by
 rcases r with r|⟨its,n,h1,h2,h3⟩
 ·obtain ⟨z,its,n,r,e⟩:=r.ok I.hok;exact ⟨z,its,n,r,r.length,e⟩
 exact ⟨by rw[h3.length];exact h2,its,n,h3,h3.length,I.kIn a _ h1⟩
theorem pP (I:Inv X zt σ H s) (ha:LL X.K H a xs) (hb:LL X.K H b ys) (hz:xs.length+ys.length<=sizeLine)
 (q:∀ p,H p=UB->Q (.ref p) (upd H p (.lst (xs++ys)))):wpAny (Ow X.prog X.w) X.A (Pa .Add (.ref a) (.ref b)) (EP X zt σ Q) X.xe s:=by
 obtain ⟨z,its,n,r,hl,e⟩:=rdL I ha;obtain ⟨z2,its2,n2,r2,hl2,e2⟩:=rdL I hb;refine PySem.P.add_list e e2 ?_ (by rw[N2,N2];lia);have ea:its.toArray++its2.toArray=(its++its2).toArray:=by simp
 rw[ea];exact ⟨.ref _,_,I.Ij (t':=s.toks) (r.append r2) (by rw[Oj];lia),rfl,q _ I.fresh⟩
theorem vg (I:Inv X zt σ H s) (ha:SqT X.K H a xs) (hb:SqT X.K H b ys) (hz:xs.length+ys.length<=sizeLine)
 (q0:xs=[]->Q (.ref b) H) (q1:ys=[]->Q (.ref a) H) (q:∀ p,H p=UB->Q (.ref p) (upd H p (.tup (xs++ys)))):wpAny (Ow X.prog X.w) X.A (Pa .Add (.ref a) (.ref b)) (EP X zt σ Q) X.xe s:=by
 by_cases c:xs=[]
 ·obtain ⟨its,r1,p1,_⟩:=I.tuple ha;obtain ⟨its2,r2,p2,_⟩:=I.tuple hb;obtain ⟨⟨cls,dd,data,sl⟩,ho,hc,n,hd⟩:=id p1;obtain ⟨⟨cls2,dd2,data2,sl2⟩,ho2,hc2,n2,hd2⟩:=id p2;simp only at hc hd hc2 hd2;subst hc hd hc2 hd2;have z:its=[]:=r1.iP.mpr c;exact concat_meets ⟨_,ho,rfl⟩ ⟨_,ho2,rfl⟩ SY Uo QU QO (QJ _ _)
   (tuple_addW0 a b its.toArray its2.toArray n n2 dd dd2 sl sl2 (by simp[z])) ⟨ho,ho2,⟨.ref b,H,I,rfl,q0 c⟩⟩
 exact AQ zt s σ H (.ref a) (.ref b) _ _ Q I rfl rfl ⟨a,b,xs,ys,rfl,rfl,ha,hb,c,hz,q1,λ_=>q⟩
theorem iW (R:RH X.K m H h) (hp:H p=UB) (r:RDs X.K m H vs ds) (zr:Post X.prog X.w X.K m H (.p (.tup ds)) h Q):Q (.ref p) (upd H p (.tup vs)) :=
 zr _ _ m (d9 hp) (R.new hp) (.p (.tup (.inl ⟨.inl aB,R.cY hp⟩) (r.ext (d9 hp))))
theorem gK (R:RH X.K m H h) (hp:H p=UB) (r:RDs X.K m H vs ds) (zr:Post X.prog X.w X.K m H (.p (.lst ds)) h Q):Q (.ref p) (upd H p (.lst vs)) :=
 zr _ _ m (d9 hp) (R.new hp) (.p (.lst (.inl ⟨.inl aB,R.cY hp⟩) (r.ext (d9 hp))))
theorem sR (R:RH X.K m H h) (hp:H p=UB) (r:RDs X.K m H vs ds) (zr:Post X.prog X.w X.K m H (.r h.length) (h++[.l ds]) Q):Q (.ref p) (upd H p (.lst vs)) :=
 zr _ _ (m++[p]) (gk hp) (R.MA hp r) (.r (by rw[← R.len];simp))
theorem iX (R:RH X.K m H h) (hp:H p=UB) (r:RDs X.K m H vs ds) (zr:Post X.prog X.w X.K m H (BT.new mu ds h).1 (BT.new mu ds h).2 Q):Q (.ref p) (upd H p (.lst vs)):=by
 cases mu with
 | false=>exact gK R hp r zr| true=>exact sR R hp r zr
theorem Post.here (R:RH X.K m H h) (zr:Post X.prog X.w X.K m H (.p d) h Q) (r:RD X.K m H v d):Q v H:=zr v H m (.refl _ _) R (.p r)
theorem nQ (hx:PyData.strOk x=UC) (hy:PyData.strOk y=UC):PyData.strOk (x++y)=UC:=by show (x.cps++y.cps).all _=UC;rw[Array.all_append];simp only[PyData.strOk] at hx hy;rw[hx,hy];rfl
theorem MB:OpR X (Pa .Add) (rOp X.prog X.w X.K BT.IU):=by
 intro zt s σ H v u v' u' Q I rv ru h;obtain ⟨m,h,x,y,z,h',R,rx,ry,e,zr⟩:=h;unfold BT.IU at e;cases e1:BT.rd x h with
 | none=>rw[e1] at e;cases e
 | some d =>
  cases e2:BT.rd y h with
  | none=>rw[e1,e2] at e;cases d<;>cases e
  | some d' =>
   rw[e1,e2] at e;have r1:=aC R rx e1;have r2:=aC R ry e2;cases d<;>cases d'<;>first|(cases e;done)|skip
   simp only at e;split at e
   ·rename_i c;obtain ⟨a,vs,rfl,ha,ra⟩:=r1.lst;obtain ⟨b,us,rfl,hb,rb⟩:=r2.lst;cases rv;cases ru;have l1:=ra.length;have l2:=rb.length;have:=bN;have ez:=Ob e;exact pP I ha hb (by lia) λp hp=>iX (mu:=UC) R hp (ra.append rb) (by rw[ez];exact zr)
   cases e
theorem Fp:OpR X (Pa .Add) (rOp X.prog X.w X.K (BT.lW .add)):=by
 intro zt s σ H v u v' u' Q I rv ru h;obtain ⟨m,h,x,y,z,h',R,rx,ry,e,zr⟩:=h;obtain ⟨d,d',q,e1,e2,e3,rfl,rfl⟩:=gJ e;have r1:=aC R rx e1;have r2:=aC R ry e2;cases d<;>cases d'<;>first|(cases e3;done)|simp only[BT.ff,BT.cH,BT.cI,BT.cJ,BT.fh,BT.fj,BT.cK,BT.cL,BT.fk,BT.dD,BT.fm] at e3
 ·cases e3;cases r1.int;cases r2.int;exact Eu zt s σ H _ _ _ _ Q I rv ru ⟨_,_,rfl,rfl,zr.here R (.int _)⟩
 ·split at e3
  ·rename_i c;cases e3;obtain ⟨ev,ov⟩:=r1.str;obtain ⟨eu,ou⟩:=r2.str;subst ev;subst eu;have:=bN;exact qP zt s σ H _ _ _ _ Q I rv ru ⟨_,_,rfl,rfl,by lia,zr.here R (.str _ (nQ ov ou))⟩
  cases e3
 ·split at e3
  ·rename_i c;cases e3;obtain ⟨a,vs,rfl,ha,ra⟩:=r1.tup;obtain ⟨b,us,rfl,hb,rb⟩:=r2.tup;cases rv;cases ru;have l1:=ra.length;have l2:=rb.length;have:=bN;refine vg I ha hb (by lia) (λz=>?_) (λz=>?_) λp hp=>iW R hp (ra.append rb) zr
   ·subst z;cases ra;cases r2 with|d r=>exact zr.here R r
   ·subst z;cases rb;rw[OM] at zr;cases r1 with|d r=>exact zr.here R r
  cases e3
 ·split at e3
  ·rename_i c;cases e3;obtain ⟨a,vs,rfl,ha,ra⟩:=r1.lst;obtain ⟨b,us,rfl,hb,rb⟩:=r2.lst;cases rv;cases ru;have l1:=ra.length;have l2:=rb.length;have:=bN;exact pP I ha hb (by lia) λp hp=>gK R hp (ra.append rb) zr
  cases e3
theorem Fq:OpR X (Pa .Sub) (rOp X.prog X.w X.K (BT.lW .sub)):=by
 intro zt s σ H v u v' u' Q I rv ru h;obtain ⟨m,h,x,y,z,h',R,rx,ry,e,zr⟩:=h;obtain ⟨d,d',q,e1,e2,e3,rfl,rfl⟩:=gJ e;have r1:=aC R rx e1;have r2:=aC R ry e2;cases d<;>cases d'<;>first|(cases e3;done)|simp only[BT.ff,BT.cH,BT.cI,BT.cJ,BT.fh,BT.fj,BT.cK,BT.cL,BT.fk,BT.dD,BT.fm] at e3
 cases e3;cases r1.int;cases r2.int;exact Ew zt s σ H _ _ _ _ Q I rv ru ⟨_,_,rfl,rfl,zr.here R (.int _)⟩
theorem Ft:OpR X (Pa .Mod) (rOp X.prog X.w X.K (BT.lW .mod)):=by
 intro zt s σ H v u v' u' Q I rv ru h;obtain ⟨m,h,x,y,z,h',R,rx,ry,e,zr⟩:=h;obtain ⟨d,d',q,e1,e2,e3,rfl,rfl⟩:=gJ e;have r1:=aC R rx e1;have r2:=aC R ry e2;cases d<;>cases d'<;>first|(cases e3;done)|simp only[BT.ff,BT.cH,BT.cI,BT.cJ,BT.fh,BT.fj,BT.cK,BT.cL,BT.fk,BT.dD,BT.fm] at e3
 split at e3
 ·rename_i c;cases e3;cases r1.int;cases r2.int;exact Ey zt s σ H _ _ _ _ Q I rv ru ⟨_,_,rfl,rfl,c,zr.here R (.int _)⟩
 cases e3
theorem Bg:OpR X (Pa .FloorDiv) (rOp X.prog X.w X.K (BT.lW .fdiv)):=by
 intro zt s σ H v u v' u' Q I rv ru h;obtain ⟨m,h,x,y,z,h',R,rx,ry,e,zr⟩:=h;obtain ⟨d,d',q,e1,e2,e3,rfl,rfl⟩:=gJ e;have r1:=aC R rx e1;have r2:=aC R ry e2;cases d<;>cases d'<;>first|(cases e3;done)|simp only[BT.ff,BT.cH,BT.cI,BT.cJ,BT.fh,BT.fj,BT.cK,BT.cL,BT.fk,BT.dD,BT.fm] at e3
 split at e3
 ·rename_i c;simp only[NY,decide_eq_true_eq] at c;cases e3;cases r1.int;cases r2.int;exact AC zt s σ H _ _ _ _ Q I rv ru ⟨_,_,rfl,rfl,⟨c.1,c.2⟩,zr.here R (.int _)⟩
 cases e3
theorem nR (h:BT.big i=UC):-(2 ^ 64) < i/\i < 2 ^ 64:=by unfold BT.big at h;have:=of_decide_eq_true h;lia
theorem Fv:OpR X (Pa .Pow) (rOp X.prog X.w X.K (BT.lW .pow)):=by
 intro zt s σ H v u v' u' Q I rv ru h;obtain ⟨m,h,x,y,z,h',R,rx,ry,e,zr⟩:=h;obtain ⟨d,d',q,e1,e2,e3,rfl,rfl⟩:=gJ e;have r1:=aC R rx e1;have r2:=aC R ry e2;cases d<;>cases d'<;>first|(cases e3;done)|simp only[BT.ff,BT.cH,BT.cI,BT.cJ,BT.fh,BT.fj,BT.cK,BT.cL,BT.fk,BT.dD,BT.fm] at e3
 split at e3
 ·rename_i c;simp only[NY,decide_eq_true_eq] at c;cases e3;cases r1.int;cases r2.int;refine Ez zt s σ H _ _ _ _ Q I rv ru ⟨_,_,rfl,rfl,⟨c.1.1,by lia,?_⟩,zr.here R (.int _)⟩;exact of_decide_eq_true c.2
 cases e3
theorem vh (I:Inv X zt σ H s) (ha:SqT X.K H a xs) (h1:2<=k) (h2:k<=1000) (hne:xs≠[]) (hz:xs.length*k.toNat<=sizeLine)
 (q:∀ p,H p=UB->Q (.ref p) (upd H p (.tup (Oo k.toNat xs).flatten))):wpAny (Ow X.prog X.w) X.A (Pa .Mult (.ref a) (.int k t)) (EP X zt σ Q) X.xe s:=by
 obtain ⟨its,r,p,_⟩:=I.tuple ha;obtain ⟨⟨cls,dd,data,sl⟩,e,hc,n,hd⟩:=id p;simp only at hc hd;subst hc hd;have hl:=r.length;have hlen:its.toArray.size*k.toNat<=sizeLine:=by rw[N2,← hl];exact hz
 have f0:S6 (λx1 x2=>x1++x2) #[] (Oo k.toNat its.toArray)=(Oo k.toNat its).flatten.toArray:=by have:=foldl_rep its k.toNat [];rw[Qe] at this;exact this
 have hi:¬ its.toArray.isEmpty=UC:=by
  intro z;have z2:its=[]:=by simpa using z
  exact hne (r.iP.mp z2)
 refine TQ (T:="tuple") (U:="int") (by decide) ⟨_,e,rfl⟩ (λs'=>typeIs_int s' k t) jC F.fills_int_mul F.slot_int_rmul nO F.slot_int_index.lookup
  (P1 F.slot_int_rmul (typeIs_int s k t) F.entry_int_rmul (F.args_int_rmul_2 _ _) (kW k t a its.toArray n dd sl)
   ⟨e,rfl,⟨_,e,rfl⟩,P1 F.slot_tuple_mul ⟨_,e,rfl⟩ F.entry_tuple_mul (F.args_tuple_mul_2 _ _) (rH a its.toArray n dd sl k t (by lia) h2 hi (by lia) (by lia) hlen) ⟨e,?_⟩⟩)
 rw[f0];have hf:H s.heap.objs.size=UB:=I.hok.fresh (N3 _);refine ⟨.ref s.heap.objs.size,_,I.laid (t':=s.toks) (o:=.tup (Oo k.toNat xs).flatten) (λb ob q=>NW _ q) (N3 _) ?_,rfl,q _ hf⟩;exact ⟨by rw[len_rep,Qc];exact hz,_,r.rep k.toNat,IsTup.new _ _⟩
theorem yb (I:Inv X zt σ H s) (hH:LL X.K H l xs) (h1:-(2 ^ 63)<=k) (h2:k<=1000) (hz:xs.length*k.toNat<=sizeLine)
 (q:∀ p,H p=UB->Q (.ref p) (upd H p (.lst (Oo k.toNat xs).flatten))):wpAny (Ow X.prog X.w) X.A (Pa .Mult (.ref l) (.int k t)) (EP X zt σ Q) X.xe s:=by
 have h2':k < 2 ^ 63:=by lia
 obtain ⟨z,its,n,r,hl,e⟩:=rdL I hH;have hlen:its.toArray.size*k.toNat<=sizeLine:=by rw[N2,← hl];exact hz
 have hcap:¬ its.toArray.size*k.toNat > (2 ^ 63 - 1) / 8:=by
  have:(sizeLine:Nat)<=(2 ^ 63 - 1) / 8:=by decide
  lia
 have hfit:¬ (!Builtin.List.listFitsIndex k)=UC:=by rw[fitsIndex_both h1 h2'];exact PF
 have hlong:¬ O4 (its.toArray.size*k.toNat)=UC:=by rw[kL hlen];exact PF
 have hnew:S6 (λx1 x2=>x1++x2) #[] (Oo (if its.toArray.isEmpty=UC then 0 else k.toNat) its.toArray)=(Oo k.toNat its).flatten.toArray:=by
  have f0:∀ m:Nat,S6 (λx1 x2=>x1++x2) #[] (Oo m its.toArray)=(Oo m its).flatten.toArray:=λm=>by have:=foldl_rep its m [];rw[Qe] at this;exact this
  rw[f0];cases its with
  | nil=>simp| cons a r'=>rw[if_neg (by simp)]
 refine TQ (T:="list") (U:="int") (by decide) ⟨_,e,rfl⟩ (λs'=>typeIs_int s' k t) noFill_list_mul F.fills_int_mul F.slot_int_rmul repeat_list F.slot_int_index.lookup
  (P1 F.slot_int_rmul (typeIs_int s k t) F.entry_int_rmul (F.args_int_rmul_2 _ _) (int___rmul___int_list k t l its.toArray n)
   ⟨e,rfl,⟨_,e,rfl⟩,P1 F.slot_list_mul ⟨_,e,rfl⟩ F.entry_list_mul (F.args_list_mul_2 _ _) (AutoListH.list___mul___list_int_3 l its.toArray n k t hfit hcap hlong) ⟨e,?_⟩⟩)
 rw[hnew];exact ⟨.ref _,_,I.Ij (t':=s.toks) (r.rep k.toNat) (by rw[len_rep,Qc];exact hz),rfl,q _ I.fresh⟩
theorem Fw:OpR X (Pa .Mult) (rOp X.prog X.w X.K (BT.lW .mul)):=by
 intro zt s σ H v u v' u' Q I rv ru h;obtain ⟨m,h,x,y,z,h',R,rx,ry,e,zr⟩:=h;obtain ⟨d,d',q,e1,e2,e3,rfl,rfl⟩:=gJ e;have r1:=aC R rx e1;have r2:=aC R ry e2;cases d<;>cases d'<;>first|(cases e3;done)|simp only[BT.ff,BT.cH,BT.cI,BT.cJ,BT.fh,BT.fj,BT.cK,BT.cL,BT.fk,BT.dD,BT.fm] at e3
 ·split at e3
  ·rename_i c;cases e3;cases r1.int;cases r2.int;refine Ex zt s σ H _ _ _ _ Q I rv ru ⟨_,_,rfl,rfl,?_,zr.here R (.int _)⟩;rcases PP _ _ ▸ c with c|c
   exact .inl (nR c);exact .inr (nR c)
  cases e3
 ·split at e3
  ·rename_i c;simp only[NY,decide_eq_true_eq] at c;cases e3;obtain ⟨a,vs,rfl,ha,ra⟩:=r1.tup;cases r2.int;obtain ⟨t,rfl⟩:=ru;cases rv;have l1:=ra.length;have:=bN;simp only[Qm,List.isEmpty_eq_false_iff] at c;refine vh I ha (by lia) (by lia) (λz=>?_) (by rw[l1];lia) λp hp=>iW R hp (ra.rep _) zr;subst z;cases ra;exact c.1.2 rfl
  cases e3
 ·split at e3
  ·rename_i c;simp only[NY,decide_eq_true_eq] at c;cases e3;obtain ⟨a,vs,rfl,ha,ra⟩:=r1.lst;cases r2.int;obtain ⟨t,rfl⟩:=ru;cases rv;have l1:=ra.length;have:=bN;refine yb I ha (by lia) (by lia) (by rw[l1];lia) λp hp=>gK R hp (ra.rep _) zr
  cases e3
end
mutual
noncomputable def pd:BT.D->PyData
 | .non=>.none| .bl b=>.bool b| .int i=>.int i| .str x=>.str x| .tup xs=>.tuple (pds xs)| .lst xs=>.list (pds xs)
noncomputable def pds:List BT.D->List PyData
 | []=>[]| x::r=>pd x::pds r
end
mutual
theorem kX:∀ x y:BT.D,PyData.eqv (pd x) (pd y)=BT.eqv x y
 | .non,.non=>rfl| .non,.bl _=>rfl| .non,.int _=>rfl| .non,.str _=>rfl
 | .non,.tup _=>by simp[pd,PyData.eqv,BT.eqv]
 | .non,.lst _=>by simp[pd,PyData.eqv,BT.eqv]
 | .bl _,.non=>rfl| .bl _,.bl _=>rfl| .bl _,.int _=>rfl| .bl _,.str _=>rfl
 | .bl _,.tup _=>by simp[pd,PyData.eqv,BT.eqv]
 | .bl _,.lst _=>by simp[pd,PyData.eqv,BT.eqv]
 | .int _,.non=>rfl| .int _,.bl _=>rfl| .int _,.int _=>rfl| .int _,.str _=>rfl
 | .int _,.tup _=>by simp[pd,PyData.eqv,BT.eqv]
 | .int _,.lst _=>by simp[pd,PyData.eqv,BT.eqv]
 | .str _,.non=>rfl| .str _,.bl _=>rfl| .str _,.int _=>rfl| .str _,.str _=>rfl
 | .str _,.tup _=>by simp[pd,PyData.eqv,BT.eqv]
 | .str _,.lst _=>by simp[pd,PyData.eqv,BT.eqv]
 | .tup _,.non=>by simp[pd,PyData.eqv,BT.eqv]
 | .tup _,.bl _=>by simp[pd,PyData.eqv,BT.eqv]
 | .tup _,.int _=>by simp[pd,PyData.eqv,BT.eqv]
 | .tup _,.str _=>by simp[pd,PyData.eqv,BT.eqv]
 | .tup xs,.tup ys=>by simp only[pd,PyData.eqv,BT.eqv];exact nT xs ys
 | .tup _,.lst _=>by simp[pd,PyData.eqv,BT.eqv]
 | .lst _,.non=>by simp[pd,PyData.eqv,BT.eqv]
 | .lst _,.bl _=>by simp[pd,PyData.eqv,BT.eqv]
 | .lst _,.int _=>by simp[pd,PyData.eqv,BT.eqv]
 | .lst _,.str _=>by simp[pd,PyData.eqv,BT.eqv]
 | .lst _,.tup _=>by simp[pd,PyData.eqv,BT.eqv]
 | .lst xs,.lst ys=>by simp only[pd,PyData.eqv,BT.eqv];exact nT xs ys
theorem nT:∀ xs ys:List BT.D,PyData.eqvAll (pds xs) (pds ys)=BT.lV xs ys
 | [],[]=>by simp[pds,PyData.eqvAll,BT.lV]
 | [],_::_=>by simp[pds,PyData.eqvAll,BT.lV]
 | _::_,[]=>by simp[pds,PyData.eqvAll,BT.lV]
 | x::xs,y::ys=>by simp only[pds,PyData.eqvAll,BT.lV];rw[kX x y,nT xs ys]
end
theorem gn:∀ {xs:List BT.D},(∀ x∈xs,(pd x).depth<=n)->PyData.depthAll (pds xs)<=n
 | [],_=>by simp[pds,PyData.depthAll]
 | x::xs,h=>by simp only[pds,PyData.depthAll];exact Nat.max_le.mpr ⟨h x Oe,gn λy hy=>h y (Oa _ hy)⟩
theorem gM:∀ (n:Nat) (d:BT.D),BT.dok n d=UC->(pd d).depth<=n
 | n,.non,_=>by simp[pd,PyData.depth]
 | n,.bl _,_=>by simp[pd,PyData.depth]
 | n,.int _,_=>by simp[pd,PyData.depth]
 | n,.str _,_=>by simp[pd,PyData.depth]
 | 0,.tup _,h=>by simp[BT.dok] at h
 | 0,.lst _,h=>by simp[BT.dok] at h
 | n+1,.tup xs,h=>by simp only[pd,PyData.depth];rw[BT.sH,O8] at h;exact Nat.succ_le_succ (gn λx hx=>gM n x (h x hx))
 | n+1,.lst xs,h=>by simp only[pd,PyData.depth];rw[BT.sI,O8] at h;exact Nat.succ_le_succ (gn λx hx=>gM n x (h x hx))
section
variable {K:NV}
mutual
theorem dF:∀ {v:V}{d:BT.D},RD K m H v d->(pd d).canLay0=UC
 | _,_,.non=>rfl| _,_,.bl _=>rfl| _,_,.int _=>rfl
 | _,_,.str _ h=>by simpa [pd,PyData.canLay0] using h
 | _,_,.tup _ r=>by simp only[pd,PyData.canLay0];exact fG r
 | _,_,.lst _ r=>by simp only[pd,PyData.canLay0];exact fG r
theorem fG:∀ {vs:List V}{ds:List BT.D},RDs K m H vs ds->PyData.canLayAll0 (pds ds)=UC
 | _,_,.nil=>by simp[pds,PyData.canLayAll0]
 | _,_,.cons r t=>by simp only[pds,PyData.canLayAll0];rw[dF r,fG t];rfl
end
mutual
theorem gq (I:Inv X zt σ H s):∀ {v:V}{d:BT.D}{u:N1},RD X.K m H v d->RelV v u->∃ as,Reads s.heap u (pd d) as
 | _,_,_,.non,r=>by cases r;exact ⟨_,.none⟩
 | _,_,_,.bl b,r=>by cases r;exact ⟨_,.bool b⟩
 | _,_,_,.int i,r=>by obtain ⟨t,rfl⟩:=r;exact ⟨_,.int i t⟩
 | _,_,_,.str x _,r=>by obtain ⟨t,rfl⟩:=r;exact ⟨_,.str x t⟩
 | _,_,_,.tup h r,q=>by cases q;obtain ⟨its,r1,⟨o,e1,e2,n,e3⟩,_⟩:=I.tuple (h.elim (λq=>.inl q.1) (λ⟨o,its,n,q,_⟩=>.inr ⟨o,its,n,q⟩));obtain ⟨as,ra⟩:=gO I r r1;exact ⟨_,.tuple e1 e2 e3 (by simpa using ra)⟩
 | _,_,_,.lst h r,q=>by cases q;obtain ⟨z,its,n,r1,_,e⟩:=rdL I (h.elim (λq=>.inl q.1) .inr);obtain ⟨as,ra⟩:=gO I r r1;exact ⟨_,.list e rfl rfl (by simpa using ra)⟩
theorem gO (I:Inv X zt σ H s):∀ {vs:List V}{ds:List BT.D}{us:List N1},RDs X.K m H vs ds->ao vs us->∃ as,ReadsAll s.heap us (pds ds) as
 | _,_,_,.nil,q=>by cases q;exact ⟨_,.nil⟩
 | _,_,_,.cons r t,q=>by
  cases q with
  | cons q1 q2 =>
   obtain ⟨as,ra⟩:=gq I r q1;obtain ⟨bs,rb⟩:=gO I t q2;exact ⟨_,.cons ra rb⟩
end
theorem gr (I:Inv X zt σ H s) (r:RR X.K m H v d) (q:RelV v u):∃ as,Reads s.heap u (pd d) as:=by
 cases r with
 | d r=>exact gq I r q
 | l h r =>
  cases q;obtain ⟨z,its,n,r1,_,e⟩:=rdL I (.inl (.inl h));obtain ⟨as,ra⟩:=gO I r r1;exact ⟨_,.list e rfl rfl (by simpa using ra)⟩
theorem fz (r:RR K m H v d):(pd d).canLay0=UC:=by
 cases r with
 | d r=>exact dF r| l h r=>simp only[pd,PyData.canLay0];exact fG r
theorem nU (h:BT.aT x y=UC):min (pd x).depth (pd y).depth<=100:=by
 unfold BT.aT at h;rcases PP _ _ ▸ h with h|h
 have:=gM 100 x h;lia;have:=gM 100 y h;lia
theorem cR (e:BT.fT o x y h=UA (z,h')) :
 (∃ kvs b,y=.k kvs/\BT.inK o x kvs=UA b/\z=.p (.bl b)/\h'=h)\/∃ d d' b,BT.rd x h=UA d/\BT.rd y h=UA d'/\BT.dg o d d'=UA b/\z=.p (.bl b)/\h'=h:=by
 unfold BT.fT at e;split at e
 ·rename_i kvs;obtain ⟨b,e1,e2⟩:=ay e;cases e2;exact .inl ⟨kvs,b,rfl,e1,rfl,rfl⟩
 ·refine .inr ?_;cases e1:BT.rd x h with
  | none=>rw[e1] at e;cases e
  | some d =>
   cases e2:BT.rd y h with
   | none=>rw[e1,e2] at e;cases e
   | some d' =>
    rw[e1,e2] at e;obtain ⟨q,eq,er⟩:=ay e;cases er;exact ⟨d,d',q,rfl,rfl,eq,rfl,rfl⟩
theorem Jj (hu:X.A.units+150 < cLine):OpR X (OQ .Eq) (rOp X.prog X.w X.K (BT.fT .eq)):=by
 intro zt s σ H v u v' u' Q I rv ru h;obtain ⟨m,h,x,y,z,h',R,rx,ry,e,zr⟩:=h;rcases cR e with ⟨kvs,b,rfl,e1,_,_⟩|⟨d,d',b,e1,e2,e3,rfl,rfl⟩
 exact absurd e1 (BT.gi rfl)
 ·have r1:=aC R rx e1;have r2:=aC R ry e2;rw[BT.iS] at e3;split at e3
  ·rename_i c;cases e3;obtain ⟨as,ra⟩:=gr I r1 rv;obtain ⟨bs,rb⟩:=gr I r2 ru;have:=nU c;refine SeqAt.compareEq_reads ra rb (fz r1) (fz r2) (by lia) ?_;rw[kX];exact ⟨.bl _,H,I,rfl,zr.here R (.bl _)⟩
  cases e3
theorem Jk (hu:X.A.units+150 < cLine):OpR X (OQ .NotEq) (rOp X.prog X.w X.K (BT.fT .ne)):=by
 intro zt s σ H v u v' u' Q I rv ru h;obtain ⟨m,h,x,y,z,h',R,rx,ry,e,zr⟩:=h;rcases cR e with ⟨kvs,b,rfl,e1,_,_⟩|⟨d,d',b,e1,e2,e3,rfl,rfl⟩
 exact absurd e1 (BT.gi rfl)
 ·have r1:=aC R rx e1;have r2:=aC R ry e2;rw[BT.kg] at e3;split at e3
  ·rename_i c;cases e3;obtain ⟨as,ra⟩:=gr I r1 rv;obtain ⟨bs,rb⟩:=gr I r2 ru;have:=nU c;refine SeqAt.compareNe_reads ra rb (fz r1) (fz r2) (by lia) ?_;rw[kX];exact ⟨.bl _,H,I,rfl,zr.here R (.bl _)⟩
  cases e3
theorem Jl:OpR X (OQ .Lt) (rOp X.prog X.w X.K (BT.fT .lt)):=by
 intro zt s σ H v u v' u' Q I rv ru h;obtain ⟨m,h,x,y,z,h',R,rx,ry,e,zr⟩:=h;rcases cR e with ⟨kvs,b,rfl,e1,_,_⟩|⟨d,d',b,e1,e2,e3,rfl,rfl⟩
 exact absurd e1 (BT.gi rfl)
 ·have r1:=aC R rx e1;have r2:=aC R ry e2;cases d<;>cases d'<;>first|(cases e3;done)|simp only[BT.dX,BT.dY,BT.dZ,BT.d7,BT.cX,BT.b8,BT.bz,BT.bC,BT.bq,BT.br] at e3
  cases e3;cases r1.int;cases r2.int;exact HV zt s σ H _ _ _ _ Q I rv ru ⟨_,_,rfl,rfl,zr.here R (.bl _)⟩
theorem Jm:OpR X (OQ .LtE) (rOp X.prog X.w X.K (BT.fT .le)):=by
 intro zt s σ H v u v' u' Q I rv ru h;obtain ⟨m,h,x,y,z,h',R,rx,ry,e,zr⟩:=h;rcases cR e with ⟨kvs,b,rfl,e1,_,_⟩|⟨d,d',b,e1,e2,e3,rfl,rfl⟩
 exact absurd e1 (BT.gi rfl)
 ·have r1:=aC R rx e1;have r2:=aC R ry e2;cases d<;>cases d'<;>first|(cases e3;done)|simp only[BT.dX,BT.dY,BT.dZ,BT.d7,BT.cX,BT.b8,BT.bz,BT.bC,BT.bq,BT.br] at e3
  cases e3;cases r1.int;cases r2.int;exact HW zt s σ H _ _ _ _ Q I rv ru ⟨_,_,rfl,rfl,zr.here R (.bl _)⟩
theorem Jo:OpR X (OQ .Gt) (rOp X.prog X.w X.K (BT.fT .gt)):=by
 intro zt s σ H v u v' u' Q I rv ru h;obtain ⟨m,h,x,y,z,h',R,rx,ry,e,zr⟩:=h;rcases cR e with ⟨kvs,b,rfl,e1,_,_⟩|⟨d,d',b,e1,e2,e3,rfl,rfl⟩
 exact absurd e1 (BT.gi rfl)
 ·have r1:=aC R rx e1;have r2:=aC R ry e2;cases d<;>cases d'<;>first|(cases e3;done)|simp only[BT.dX,BT.dY,BT.dZ,BT.d7,BT.cX,BT.b8,BT.bz,BT.bC,BT.bq,BT.br] at e3
  cases e3;cases r1.int;cases r2.int;exact HX zt s σ H _ _ _ _ Q I rv ru ⟨_,_,rfl,rfl,zr.here R (.bl _)⟩
theorem Jp:OpR X (OQ .GtE) (rOp X.prog X.w X.K (BT.fT .ge)):=by
 intro zt s σ H v u v' u' Q I rv ru h;obtain ⟨m,h,x,y,z,h',R,rx,ry,e,zr⟩:=h;rcases cR e with ⟨kvs,b,rfl,e1,_,_⟩|⟨d,d',b,e1,e2,e3,rfl,rfl⟩
 exact absurd e1 (BT.gi rfl)
 ·have r1:=aC R rx e1;have r2:=aC R ry e2;cases d<;>cases d'<;>first|(cases e3;done)|simp only[BT.dX,BT.dY,BT.dZ,BT.d7,BT.cX,BT.b8,BT.bz,BT.bC,BT.bq,BT.br] at e3
  cases e3;cases r1.int;cases r2.int;exact HY zt s σ H _ _ _ _ Q I rv ru ⟨_,_,rfl,rfl,zr.here R (.bl _)⟩
theorem sU (r:RR K m H v d):decide (v=.non)=BT.f9 d:=by
 cases r with
 | d r=>cases r<;>rfl| l h r=>rfl
theorem Fx:OpR X (OQ .Is) (rOp X.prog X.w X.K (BT.fT .isN)):=by
 intro zt s σ H v u v' u' Q I rv ru h;obtain ⟨m,h,x,y,z,h',R,rx,ry,e,zr⟩:=h;rcases cR e with ⟨kvs,b,rfl,e1,_,_⟩|⟨d,d',b,e1,e2,e3,rfl,rfl⟩
 exact absurd e1 (BT.gi rfl)
 ·have r1:=aC R rx e1;have r2:=aC R ry e2;cases d'<;>first|(cases e3;done)|simp only[BT.dX,BT.dY,BT.dZ,BT.d7,BT.cX,BT.b8,BT.bz,BT.bC,BT.bq,BT.br] at e3
  cases e3;cases r2.non;refine EA zt s σ H _ _ _ _ Q I rv ru ⟨rfl,?_⟩;rw[sU r1];exact zr.here R (.bl _)
theorem Bh:OpR X (OQ .IsNot) (rOp X.prog X.w X.K (BT.fT .notN)):=by
 intro zt s σ H v u v' u' Q I rv ru h;obtain ⟨m,h,x,y,z,h',R,rx,ry,e,zr⟩:=h;rcases cR e with ⟨kvs,b,rfl,e1,_,_⟩|⟨d,d',b,e1,e2,e3,rfl,rfl⟩
 exact absurd e1 (BT.gi rfl)
 ·have r1:=aC R rx e1;have r2:=aC R ry e2;cases d'<;>first|(cases e3;done)|simp only[BT.dX,BT.dY,BT.dZ,BT.d7,BT.cX,BT.b8,BT.bz,BT.bC,BT.bq,BT.br] at e3
  cases e3;cases r2.non;refine AD zt s σ H _ _ _ _ Q I rv ru ⟨rfl,?_⟩;rw[sU r1];exact zr.here R (.bl _)
open Classical in
noncomputable def bK (h:Heap) (dx:PyData) (y:N1):Bool:=if q:∃ db as,Reads h y db as/\db.canLay0=UC then PyData.eqv (Classical.choose q) dx else UD
theorem rJ (r:Reads h y db as) (c:db.canLay0=UC):bK h dx y=PyData.eqv db dx:=by have q:∃ db as,Reads h y db as/\db.canLay0=UC:=⟨db,as,r,c⟩;unfold bK;rw[dif_pos q];obtain ⟨as',r',c'⟩:=Classical.choose_spec q;rw[SeqAt.Reads.unique _ _ _ _ _ c r r']
theorem iY (I:Inv X zt σ H s):∀ {vs:List V}{ds:List BT.D}{us:List N1},RDs X.K m H vs ds->ao vs us->us.any (bK s.heap (pd d))=ds.any λy=>BT.eqv y d
 | _,_,_,.nil,q=>by cases q;rfl
 | _,_,_,.cons r t,q=>by
  cases q with
  | cons q1 q2 =>
   obtain ⟨as,ra⟩:=gq I r q1;rw[QA,QA,iY I t q2,rJ ra (dF r),kX]
theorem ef (hu:X.A.units+150 < cLine) (I:Inv X zt σ H s) (rx:RR X.K m H v d) (rv:RelV v u):∀ {vs:List V}{ds:List BT.D}{us:List N1},RDs X.K m H vs ds->ao vs us->(ds.all λy=>BT.aT y d)=UC →
 ∀ y∈us,SeqAt.EqAt X.A.in1 s y u (bK s.heap (pd d) y)
 | _,_,_,.nil,q,_=>by cases q;intro y hy;simp at hy
 | _,_,_,.cons r t,q,c=>by
  cases q with
  | cons q1 q2 =>
   rw[Te,NY] at c;intro y hy;rcases List.mem_cons.mp hy with rfl|hy
   ·obtain ⟨as,ra⟩:=gq I r q1;obtain ⟨bs,rb⟩:=gr I rx rv;rw[rJ ra (dF r)];have:=nU c.1;refine SeqAt.eqAt_reads _ _ _ _ _ _ _ _ ra rb (dF r) (fz rx) ?_;show X.A.units+1+_ < _;lia
   exact ef hu I rx rv t q2 c.2 y hy
theorem Fy (hu:X.A.units+150 < cLine) (hk:∀ {kvs:BT.Kd}{x:BT.W}{b:Bool}{m:List Of}{H:Hp}{v u:V}{v' u':N1}{zt σ s Q},Inv X zt σ H s->RelV v v'->RelV u u'->RW X.prog X.w X.K m H v x->RW X.prog X.w X.K m H u (.k kvs)->BT.inK .mem x kvs=UA b->Q (V.bl b) H →
 wpAny (Ow X.prog X.w) X.A (OQ .In v' u') (EP X zt σ Q) X.xe s):OpR X (OQ .In) (rOp X.prog X.w X.K (BT.fT .mem)):=by
 intro zt s σ H v u v' u' Q I rv ru h;obtain ⟨m,h,x,y,z,h',R,rx,ry,e,zr⟩:=h;rcases cR e with ⟨kvs,b,rfl,e1,rfl,rfl⟩|⟨d,d',b,e1,e2,e3,rfl,rfl⟩
 exact hk I rv ru rx ry e1 (zr.here R (.bl _))
 ·have r1:=aC R rx e1;have r2:=aC R ry e2;cases d'<;>first|(cases e3;done)|simp only[BT.dX,BT.dY,BT.dZ,BT.d7,BT.cX,BT.b8,BT.bz,BT.bC,BT.bq,BT.br] at e3
  ·split at e3
   ·rename_i c;cases e3;obtain ⟨a,vs,rfl,ha,ra⟩:=r2.tup;cases ru;obtain ⟨its,q1,q2,_⟩:=I.tuple ha;refine SeqAt.in_tupleAt (bK s.heap (pd d)) q2 (λy hy=>ef hu I r1 rv ra q1 c y (by simpa using hy)) ⟨.bl _,H,I,rfl,?_⟩;rw[show its.toArray.any (bK s.heap (pd d))=its.any (bK s.heap (pd d)) by simp,iY I ra q1];exact zr.here R (.bl _)
   cases e3
  ·split at e3
   ·rename_i c;cases e3;obtain ⟨a,vs,rfl,ha,ra⟩:=r2.lst;cases ru;obtain ⟨z,its,n,q1,_,q2⟩:=rdL I ha;refine SeqAt.in_listAt (bK s.heap (pd d)) ⟨_,q2,rfl,_,rfl⟩ (λy hy=>ef hu I r1 rv ra q1 c y (by simpa using hy)) ⟨.bl _,H,I,rfl,?_⟩;rw[show its.toArray.any (bK s.heap (pd d))=its.any (bK s.heap (pd d)) by simp,iY I ra q1];exact zr.here R (.bl _)
   cases e3
theorem Bj (hu:X.A.units+150 < cLine) (hk:∀ {kvs:BT.Kd}{x:BT.W}{b:Bool}{m:List Of}{H:Hp}{v u:V}{v' u':N1}{zt σ s Q},Inv X zt σ H s->RelV v v'->RelV u u'->RW X.prog X.w X.K m H v x->RW X.prog X.w X.K m H u (.k kvs)->BT.inK .nmem x kvs=UA b->Q (V.bl b) H →
 wpAny (Ow X.prog X.w) X.A (OQ .NotIn v' u') (EP X zt σ Q) X.xe s):OpR X (OQ .NotIn) (rOp X.prog X.w X.K (BT.fT .nmem)):=by
 intro zt s σ H v u v' u' Q I rv ru h;obtain ⟨m,h,x,y,z,h',R,rx,ry,e,zr⟩:=h;rcases cR e with ⟨kvs,b,rfl,e1,rfl,rfl⟩|⟨d,d',b,e1,e2,e3,rfl,rfl⟩
 exact hk I rv ru rx ry e1 (zr.here R (.bl _))
 ·have r1:=aC R rx e1;have r2:=aC R ry e2;cases d'<;>first|(cases e3;done)|simp only[BT.dX,BT.dY,BT.dZ,BT.d7,BT.cX,BT.b8,BT.bz,BT.bC,BT.bq,BT.br] at e3
  ·split at e3
   ·rename_i c;cases e3;obtain ⟨a,vs,rfl,ha,ra⟩:=r2.tup;cases ru;obtain ⟨its,q1,q2,_⟩:=I.tuple ha;refine SeqAt.notIn_tupleAt (bK s.heap (pd d)) q2 (λy hy=>ef hu I r1 rv ra q1 c y (by simpa using hy)) ⟨.bl _,H,I,rfl,?_⟩;rw[show its.toArray.any (bK s.heap (pd d))=its.any (bK s.heap (pd d)) by simp,iY I ra q1];exact zr.here R (.bl _)
   cases e3
  ·split at e3
   ·rename_i c;cases e3;obtain ⟨a,vs,rfl,ha,ra⟩:=r2.lst;cases ru;obtain ⟨z,its,n,q1,_,q2⟩:=rdL I ha;refine SeqAt.notIn_listAt (bK s.heap (pd d)) ⟨_,q2,rfl,_,rfl⟩ (λy hy=>ef hu I r1 rv ra q1 c y (by simpa using hy)) ⟨.bl _,H,I,rfl,?_⟩;rw[show its.toArray.any (bK s.heap (pd d))=its.any (bK s.heap (pd d)) by simp,iY I ra q1];exact zr.here R (.bl _)
   cases e3
end
section
variable {P:Ot}{w:OR}{K:NV}{m m':List Of}{H H':Hp}
theorem RKs.length {vs:List (Key×V)}{kvs:List (BT.Ky×BT.D)} (r:RKs K m H vs kvs):vs.length=kvs.length:=by
 induction r with
 | nil=>rfl| cons _ _ _ ih=>simp[ih]
theorem vj {p:BT.Ky×BT.D}{r:List (BT.Ky×BT.D)}{k:BT.Ky} (e:p.1=k):BT.bB (p::r) k=UA p.2:=by simp[BT.bB,PM,e]
theorem vm {p:BT.Ky×BT.D}{r:List (BT.Ky×BT.D)}{k:BT.Ky} (e:¬ p.1=k):BT.bB (p::r) k=BT.bB r k:=by simp[BT.bB,PM,e]
theorem RKs.get {vs:List (Key×V)}{kvs:List (BT.Ky×BT.D)} (r:RKs K m H vs kvs) (k:Key):(BT.bB kvs k=UB/\pB vs k=UB)\/∃ v d,BT.bB kvs k=UA d/\pB vs k=UA v/\RD K m H v d:=by
 induction r with
 | nil=>exact .inl ⟨rfl,rfl⟩
 | @cons j v d vs kvs hk r t ih =>
  by_cases c:j=k
  exact .inr ⟨v,d,vj c,pC c,r⟩;rw[vm (p:=(j,d)) c,pF (p:=(j,v)) c];exact ih
theorem nV {v:V}{d:BT.D}{k:Key} (r:RD K m H v d) (e:BT.fY d=UA k):v=kV k:=by cases r<;>cases e<;>rfl
theorem yc {v:V}{d:BT.D}{k:Key} (r:RD K m H v d) (e:BT.fY d=UA k):RD K m H (kV k) (BT.gW k):=by
 cases r with
 | int i=>cases e;exact .int i| str x h=>cases e;exact .str x h| _=>cases e
inductive yd (X:Cx) (m:List Of) (H:Hp) (s:N4) (a:Of) (kvs:List (BT.Ky×BT.D)) (k:Key):Prop where
 | no (vs:List (Key×N1)) (d:s.heap.DictOf (au X.prog X.w) a vs) (n:(a==Py)=UD) (e1:BT.bB kvs k=UB) (e2:valueAt vs k=UB):yd X m H s a kvs k
 | is (vs:List (Key×N1)) (d:s.heap.DictOf (au X.prog X.w) a vs) (n:(a==Py)=UD) (x:BT.D) (v:V) (u:N1) (e1:BT.bB kvs k=UA x) (e2:valueAt vs k=UA u) (r:RelV v u) (q:RD X.K m H v x):yd X m H s a kvs k
theorem ye {X:Cx}{zt:List (Of×Obj)}{σ:L2.St}{H:Hp}{s:N4}{m:List Of}{a:Of}{ws:List (Key×V)}{kvs:List (BT.Ky×BT.D)} (I:Inv X zt σ H s) (h:Rd H a (.dK ws)) (rk:RKs X.K m H ws kvs) (k:Key):yd X m H s a kvs k:=by
 obtain ⟨z,hd,vs,rel,dd⟩:=mQ I.hok h;have rv:=rel.val k;rcases rk.get k with ⟨g1,g2⟩|⟨v,d,g1,g2,g3⟩
 ·rw[g2] at rv;cases e:valueAt vs k with
  | none=>exact .no vs dd hd g1 e| some u=>rw[e] at rv;exact rv.elim
 ·rw[g2] at rv;cases e:valueAt vs k with
  | none=>rw[e] at rv;exact rv.elim| some u=>rw[e] at rv;exact .is vs dd hd d v u g1 e rv g3
end
section
theorem RDs.atI {K:NV} (r:RDs K m H vs ds) (e:BT.atP ds i=UA d):∃ v,L2.atI vs i=UA v/\RD K m H v d:=by unfold BT.atP at e;unfold L2.atI;obtain ⟨j,h1,h2⟩:=Option.bind_eq_some_iff.mp e;obtain ⟨v,q1,q2⟩:=r.get h2;refine ⟨v,?_,q2⟩;rw[r.length];show ((BT.place ds.length i).bind λj=>vs[j]?)=UA v;rw[h1];exact q1
theorem Bk {x y:BT.W}{h:BT.HH}{z:BT.W}{h':BT.HH} (e:BT.A4 x y h=UA (z,h')) :
 (∃ kvs k d,x=.k (.t kvs)/\y=.p (.str k)/\BT.cG k kvs=UA d/\z=.p d/\h'=h)\/(∃ kvs e k d,x=.k (.l kvs)/\y=.p e/\BT.fY e=UA k/\BT.bB kvs k=UA d/\z=.p d/\h'=h)\/∃ d d' b,BT.rd x h=UA d/\BT.rd y h=UA d'/\BT.aG d d'=UA b/\z=.p b/\h'=h:=by
 unfold BT.A4 at e;split at e
 ·rename_i kvs;obtain ⟨b,e1,e2⟩:=ay e;cases e2;cases kvs with
  | t kvs =>
   cases y with
   | p d =>
    cases d with
    | str x=>exact .inl ⟨kvs,_,b,rfl,rfl,e1,rfl,rfl⟩| _=>cases e1
   | _=>cases e1
  | l kvs =>
   cases y with
   | p d =>
    obtain ⟨k,g1,g2⟩:=Option.bind_eq_some_iff.mp (show (BT.fY d).bind (BT.bB kvs)=UA b from e1);exact .inr (.inl ⟨kvs,d,k,b,rfl,rfl,g1,g2,rfl,rfl⟩)
   | _=>cases e1
 ·refine .inr (.inr ?_);cases e1:BT.rd x h with
  | none=>rw[e1] at e;cases e
  | some d =>
   cases e2:BT.rd y h with
   | none=>rw[e1,e2] at e;cases e
   | some d' =>
    rw[e1,e2] at e;obtain ⟨q,eq,er⟩:=ay e;cases er;exact ⟨d,d',q,rfl,rfl,eq,rfl,rfl⟩
theorem yf {K:NV}:∀ {es:List (Str×V)}{kvs:List (Str×BT.D)}{vs:List (Key×N1)},RDk K es kvs->KV (es.map λq=>((Sum.inr q.1:Key),q.2)) vs->BT.cG k kvs=UA d →
 ∃ u v,valueAt vs (Sum.inr k)=UA u/\RelV v u/\∀ m H,RD K m H v d
 | _,_,_,.nil,_,e=>by simp[BT.cG] at e
 | _,_,_,@RDk.cons _ x v dd es kvs r t,q,e=>by
  cases q with
  | @cons p z l1 l2 q1 q2 =>
   obtain ⟨z1,z2⟩:=z;obtain ⟨q11,q12⟩:=q1;simp only at q11 q12;subst q11;rw[BT.cG] at e
   by_cases c:k=x
   ·rw[if_pos c] at e;cases e;subst c;exact ⟨z2,v,by simp[valueAt],q12,r⟩
   ·rw[if_neg c] at e;obtain ⟨u,v',h1,h2,h3⟩:=yf t q2 e;refine ⟨u,v',?_,h2,h3⟩;have ne:¬ ((Sum.inr x:Key)=Sum.inr k):=λz=>c (Sum.inr.inj z).symm;simp only[valueAt] at h1 ⊢;rw[Q5 (by simpa using ne)];exact h1
theorem vn (h:PyData.strOk x=UC) (hc:c∈x.cps.toList):PyData.strOk ⟨#[c]⟩=UC:=by simp only[PyData.strOk,Array.all_eq_true_iff_forall_mem] at h ⊢;intro y hy;simp at hy;subst hy;exact h y (by simpa using hc)
theorem Fz:IxR X (rOp X.prog X.w X.K BT.A4):=by
 intro value slice zt s σ H v u v' u' Q I rv ru h hs;obtain ⟨m,h,x,y,z,h',R,rx,ry,e,zr⟩:=h;rcases Bk e with ⟨kvs,k,d,rfl,rfl,e1,rfl,rfl⟩|⟨kvs,e',k,d,rfl,rfl,e0,e1,rfl,rfl⟩|⟨d,d',b,e1,e2,e3,rfl,rfl⟩
 ·cases rx with
  | @k a es _ kd rk =>
   cases rv;cases ry with
   | p ry =>
    cases ry with
    | str _ ok =>
     obtain ⟨t,rfl⟩:=ru;obtain ⟨hm,vs,kv,dd⟩:=kd;obtain ⟨w',z,h1,h2,h3⟩:=yf rk kv e1;have D:=dd s.heap I.kIn;refine Ul (ops:=[.ref a,.str k t]) D.typeIs slot_dict_getitem.lookup ?_ hs;exact wpAny_getItem_of (knd:=au X.prog X.w) (dU _ _ k t) D.mapOf h1 ⟨z,H,I.tok _,h2,zr.here R (h3 _ _)⟩
 ·cases rx with
  | @kl a ob ws _ hh rk =>
   cases rv;cases ry with
   | p ry =>
    have ek:=nV ry e0;subst ek;cases ye I (.inr ⟨_,hh.1⟩) rk k with
    | no _ _ _ g1 _=>rw[g1] at e1;cases e1
    | is vs dd n x v1 u1 g1 g2 g3 g4 =>
     rw[g1] at e1;cases e1;refine Ul (ops:=[.ref a,u']) dd.typeIs slot_dict_getitem.lookup ?_ hs;exact wpAny_getItem_of (knd:=au X.prog X.w) (pG ru) dd.mapOf g2 ⟨v1,H,I.tok _,g3,zr.here R g4⟩
 ·have r1:=aC R rx e1;have r2:=aC R ry e2;cases d<;>cases d'<;>first|(cases e3;done)|simp only[BT.jy,BT.aX,BT.gc] at e3
  ·split at e3
   ·rename_i c;obtain ⟨cc,e4,e5⟩:=ay e3;subst e5;obtain ⟨rfl,ok⟩:=r1.str;cases r2.int;have:=bN;refine EL value slice zt s σ H _ _ _ _ Q I rv ru ⟨_,_,cc,rfl,rfl,by lia,e4,zr.here R (.str _ (vn ok ?_))⟩ hs;obtain ⟨j,h1,h2⟩:=Option.bind_eq_some_iff.mp e4;exact N9 h2
   cases e3
  ·obtain ⟨a,vs,rfl,ha,ra⟩:=r1.tup;cases r2.int;obtain ⟨z,q1,q2⟩:=ra.atI e3;exact EK value slice zt s σ H _ _ _ _ Q I rv ru ⟨a,vs,_,z,rfl,rfl,ha,q1,zr.here R q2⟩ hs
  ·obtain ⟨a,vs,rfl,ha,ra⟩:=r1.lst;cases r2.int;obtain ⟨z,q1,q2⟩:=ra.atI e3;exact AR value slice zt s σ H _ _ _ _ Q I rv ru ⟨a,vs,_,z,rfl,rfl,ha.sq,q1,zr.here R q2⟩ hs
theorem iZ (n d:Nat) (o:Option Int):BT.clip n d o=HT.sIx n d o:=by
 cases o with
 | none=>rfl
 | some v =>
  simp only[BT.clip,HT.sIx];split;rfl
  ·split;lia;lia
theorem mj {E:N1->N4->Prop}{lo:Option Int} (ht:IsTup s.heap t items) (hs:s.heap.IsSliceOf sl vl vu .none) (pl:SV vl lo) (pu:SV vu hi)
 (hw:HT.sIx items.size 0 lo=0/\HT.sIx items.size items.size hi=items.size) (h:Q (.ref t) s):wpAny (Ow prog w) A (Sz (.ref t) (.ref sl)) Q E s:=by
 obtain ⟨os,hos,hcs,hds⟩:=id hs;have hTs:s.TypeIs (.ref sl) "slice":=⟨os,hos,hcs⟩;unfold Sz
 try with_reducible refine PB ?_
 first|refine NZ (wpAny_pure ?_)|skip
 refine NZ (wpAny_sequenceKey ht.typeIs (by decide) ?_);refine NZ (Uj (name:=Om "__getitem__") ht.typeIs Ph
  (SX Ph ht.typeIs entry_tuple_getitem ?_ (args_tuple_getitem _ _)))
 show wpAny _ _ (Rt (.ref t) >>= _) _ _ s;refine NZ (tupleItemsOf_ ht ?_);refine NZ (QB hTs ?_);rw[if_pos (by decide)];refine NZ (HT.e9 hs pl pu ?_);have hno:(((HT.sIx items.size 0 lo:Nat):Int)==0&&(1:Int)==1&&(HT.sIx items.size items.size hi - HT.sIx items.size 0 lo)==items.size)=UC:=by rw[hw.1,hw.2];simp
 show wpAny _ _ (if (((HT.sIx items.size 0 lo:Nat):Int)==0&&(1:Int)==1&&(HT.sIx items.size items.size hi - HT.sIx items.size 0 lo)==items.size)=UC then _ else _) _ _ s;rw[if_pos hno];unfold Builtin.Tuple.tupleIsExact;refine NZ (NZ (QB ht.typeIs (wpAny_pure ?_)));rw[if_pos (by decide)];refine NZ (wpAny_rule ?_)
 first
  | exact wpAny_pure ⟨_,rfl,wpAny_pure h⟩
  | exact wpAny_pure ⟨_,rfl,h⟩
  | exact NZ (wpAny_pure (wpAny_pure ⟨_,rfl,wpAny_pure h⟩))
inductive rSl (P:Ot) (w:OR) (K:NV) (v:V) (lo hi:Option Int) (H:Hp) (Q:VK):Prop where
 | mk (m:List Of) (h:BT.HH) (x:BT.W) (d b:BT.D) (R:RH K m H h) (rx:RW P w K m H v x) (e:BT.rd x h=UA d) (e2:BT.rf d lo hi=UA b) (p:Post P w K m H (.p b) h Q):rSl P w K v lo hi H Q
theorem RDs.cut {K:NV} (r:RDs K m H vs ds) (lo hi:Option Int):RDs K m H (pq vs lo hi) (BT.cut ds lo hi):=by unfold pq BT.cut;rw[iZ,iZ,r.length];exact (r.drop _).take _
theorem vo {lo:Option Int} (h1:HT.sIx ds.length 0 lo=0) (h2:HT.sIx ds.length ds.length hi=ds.length):BT.cut ds lo hi=ds:=by unfold BT.cut;rw[iZ,iZ,h1,h2];simp
theorem osl:SlR X (rSl X.prog X.w X.K):=by
 intro zt s σ H v v' vl vu lo hi sl Q I rv hs pl pu h;obtain ⟨m,h,x,d,b,R,rx,e1,e2,zr⟩:=h;have r1:=aC R rx e1;cases d<;>simp only[BT.rf] at e2<;>try contradiction
 ·cases e2;obtain ⟨a,vs,rfl,ha,ra⟩:=r1.tup;cases rv
  by_cases c:HT.sIx vs.length 0 lo=0/\HT.sIx vs.length vs.length hi=vs.length
  ·obtain ⟨its,q1,q2,_⟩:=I.tuple ha;have hl:its.toArray.size=vs.length:=by rw[N2];exact q1.length.symm
   refine ⟨"tuple",_,PyProof.Rows.slot_tuple_getitem.lookup,q2.typeIs,mj q2 hs pl pu (by rw[hl];exact c) ⟨.ref a,H,I,rfl,?_⟩⟩;cases r1 with
   | d r =>
    refine zr.here R ?_;rw[vo (by rw[← ra.length];exact c.1) (by rw[← ra.length];exact c.2)];exact r
  exact EJ zt s σ H (.ref a) (.ref a) vl vu lo hi sl Q I rfl hs pl pu ⟨a,vs,rfl,ha,c,λp hp=>iW R hp (ra.cut lo hi) zr⟩
 ·cases e2;obtain ⟨a,vs,rfl,ha,ra⟩:=r1.lst;exact AS zt s σ H _ _ vl vu lo hi sl Q I rv hs pl pu ⟨a,vs,rfl,ha.sq,λp hp=>gK R hp (ra.cut lo hi) zr⟩
end
theorem pQ (m:BT.Me) (d:BT.D) (as:List BT.W) (h:BT.HH):BT.meW m (.p d) as h=(match BT.aE as with|some ds=>(BT.meD m d ds).map λx=>(.p x,h)|none=>UB):=by cases m<;>rfl
section
inductive rMe (P:Ot) (w:OR) (K:NV) (me:BT.Me) (v:V) (vs:List V) (H:Hp) (Q:VK):Prop where
 | mk (m:List Of) (h:BT.HH) (x:BT.W) (ws:List BT.W) (z:BT.W) (h':BT.HH) (R:RH K m H h) (rx:RW P w K m H v x) (rs:RWs P w K m H vs ws) (e:BT.meW me x ws h=UA (z,h')) (p:Post P w K m H z h' Q):rMe P w K me v vs H Q
theorem getD_some {α:Type}{xs:List α}{n:Nat}{a:α} (h:xs[n]?=UA a):n < xs.length:=by
 rcases Os n xs.length with z|z
 exact z;rw[Od z] at h;cases h
theorem vp:MtR X "list.append" (rMe X.prog X.w X.K .append):=by
 intro zt s σ H v vs v' us Q I rv rus h;obtain ⟨m,h,x,ws,z,h',R,rx,rws,e,zr⟩:=h;cases x with
 | p d=>cases ws with
  | nil=>exact aA e| cons _ _=>rw[pQ] at e;split at e<;>(try cases e)
 | r n =>
  cases rws with
  | nil=>(first|(cases e;done)|simp[BT.meW] at e)
  | @cons y wy _ _ ry t =>
   cases t with
   | cons _ _=>cases ry<;>(first|(cases e;done)|simp[BT.meW] at e)
   | nil =>
    cases ry with
    | p ry =>
     rw[BT.rj] at e;cases g:BT.lat h n with
     | none=>rw[g] at e;cases e
     | some xs =>
      rw[g] at e;simp only at e;split at e
      ·rename_i c;cases e;cases rx with
       | @r a _ hn =>
        obtain ⟨us',hH,r⟩:=R.cell n a xs hn g;have:=bN;have hl:=r.length;exact uR zt s σ H _ _ _ _ Q I rv rus ⟨a,us',y,rfl,rfl,hH,by lia,zr _ _ m (fy (N9 hn) hH) (R.set hn hH (r.append (.cons ry .nil))) (.p .non)⟩
      cases e
    | _=>(first|(cases e;done)|simp[BT.meW] at e)
 | _=>(first|(cases e;done)|simp[BT.meW] at e)
theorem yh {α:Type}{xs:List α}{d:α} (h:xs.getLast?=UA d):xs[xs.length - 1]?=UA d:=by rw[← P0];exact h
theorem FA:MtR X "list.pop" (rMe X.prog X.w X.K .pop):=by
 intro zt s σ H v vs v' us Q I rv rus h;obtain ⟨m,h,x,ws,z,h',R,rx,rws,e,zr⟩:=h;cases x with
 | p d=>cases ws with
  | nil=>exact aA e| cons _ _=>rw[pQ] at e;split at e<;>(try cases e)
 | r n =>
  cases rws with
  | cons _ _=>(first|(cases e;done)|simp[BT.meW] at e)
  | nil =>
   rw[BT.A3] at e;cases g:BT.lat h n with
   | none=>rw[g] at e;cases e
   | some xs =>
    rw[g] at e;simp only at e;cases gl:xs.getLast? with
    | none=>rw[gl] at e;cases e
    | some d =>
     rw[gl] at e;cases e;cases rx with
     | @r a _ hn =>
      obtain ⟨us',hH,r⟩:=R.cell n a xs hn g;have hl:=r.length;obtain ⟨y,hy,ry⟩:=r.get (yh gl);have x1:Ext m H m (upd H a (.lst us'.dropLast)):=fy (N9 hn) hH;exact EO zt s σ H _ _ _ _ Q I rv rus ⟨a,us',y,rfl,rfl,hH,by rw[hl];exact hy,zr _ _ m x1 (R.set hn hH r.dropLast) (.p (ry.ext x1))⟩
 | _=>(first|(cases e;done)|simp[BT.meW] at e)
theorem yi (I:Inv X zt σ H s) (hH:H l=UA (.lst xs)) (hB:LL X.K H b zs) (hz:xs.length+zs.length<=sizeLine) (q:Q .non (upd H l (.lst (xs++zs)))) :
 wpAny (Ow X.prog X.w) X.A (call (.builtin "list.extend") [.ref l,.ref b]) (EP X zt σ Q) X.xe s:=by
 obtain ⟨z,its,n,r,hl,e⟩:=I.AV hH;obtain ⟨z2,its2,n2,r2,hl2,e2⟩:=rdL I hB;have hsz:its.toArray.size+its2.toArray.size<=sizeLine:=by rw[N2,N2];lia
 have hlong:¬ (!its.toArray.isEmpty&&O4 (its.toArray.size+its2.toArray.size))=UC:=by rw[kL hsz,Bool.and_false];exact PF
 refine P1 F.slot_list_extend ⟨_,e,rfl⟩ F.entry_list_extend (F.args_list_extend_2 _ _)
  (AutoSeq1.list_extend_list_list_0 l its.toArray n b its2.toArray n2 hlong (by rw[N2];lia) (by lia)) ⟨e,e2,?_⟩
 refine ⟨.non,_,I.AU (its':=its++its2) hH e (by simp) (r.append r2) ?_,rfl,q⟩;rw[Oj];lia
theorem Bl (I:Inv X zt σ H s) (hH:H l=UA (.lst xs)) (hB:SqT X.K H b zs) (hz:xs.length+zs.length<=sizeLine) (q:Q .non (upd H l (.lst (xs++zs)))) :
 wpAny (Ow X.prog X.w) X.A (call (.builtin "list.extend") [.ref l,.ref b]) (EP X zt σ Q) X.xe s:=by
 obtain ⟨z,its,n,r,hl,e⟩:=I.AV hH;obtain ⟨its2,r2,p2,_⟩:=I.tuple hB;obtain ⟨⟨cls,dd,data,sl⟩,e2,hc,n2,hd⟩:=id p2;simp only at hc hd;subst hc hd;have hl2:=r2.length;have hsz:its.toArray.size+its2.toArray.size<=sizeLine:=by rw[N2,N2];lia
 have hlong:¬ (!its.toArray.isEmpty&&O4 (its.toArray.size+its2.toArray.size))=UC:=by rw[kL hsz,Bool.and_false];exact PF
 refine P1 F.slot_list_extend ⟨_,e,rfl⟩ F.entry_list_extend (F.args_list_extend_2 _ _)
  (j5 l its.toArray n b its2.toArray n2 dd sl hlong (by rw[N2];lia) (by lia)) ⟨e,e2,?_⟩
 refine ⟨.non,_,I.AU (its':=its++its2) hH e (by simp) (r.append r2) ?_,rfl,q⟩;rw[Oj];lia
theorem vq:MtR X "list.extend" (rMe X.prog X.w X.K .extend):=by
 intro zt s σ H v vs v' us Q I rv rus h;obtain ⟨m,h,x,ws,z,h',R,rx,rws,e,zr⟩:=h;cases x with
 | p d=>cases ws with
  | nil=>exact aA e| cons _ _=>rw[pQ] at e;split at e<;>(try cases e)
 | r n =>
  cases rws with
  | nil=>(first|(cases e;done)|simp[BT.meW] at e)
  | @cons y wy _ _ ry t =>
   cases t with
   | cons _ _=>(first|(cases e;done)|simp[BT.meW] at e)
   | nil =>
    rw[BT.rm] at e;cases g:BT.lat h n with
    | none=>rw[g] at e;cases e
    | some xs =>
     cases g2:(BT.rd wy h).bind BT.nG with
     | none=>rw[g,g2] at e;cases e
     | some ys =>
      rw[g,g2] at e;simp only at e;split at e
      ·rename_i c;cases e;obtain ⟨d,e1,e2⟩:=Option.bind_eq_some_iff.mp g2;have r2:=aC R ry e1;cases rx with
       | @r a _ hn =>
        obtain ⟨us',hH,r⟩:=R.cell n a xs hn g;cases rv;obtain ⟨u,rfl,ru⟩:=rus.one;have:=bN;have hl:=r.length;cases d<;>simp only[BT.nG] at e2<;>try contradiction
        ·cases e2;obtain ⟨b,vb,rfl,hb,rb⟩:=r2.tup;cases ru;have hl2:=rb.length;exact Bl I hH hb (by lia) (zr _ _ m (fy (N9 hn) hH) (R.set hn hH (r.append rb)) (.p .non))
        ·cases e2;obtain ⟨b,vb,rfl,hb,rb⟩:=r2.lst;cases ru;have hl2:=rb.length;exact yi I hH hb (by lia) (zr _ _ m (fy (N9 hn) hH) (R.set hn hH (r.append rb)) (.p .non))
      cases e
 | _=>(first|(cases e;done)|simp[BT.meW] at e)
theorem RWs.pure:∀ {vs:List V}{ws:List BT.W}{ds:List BT.D},RWs P w K m H vs ws->BT.aE ws=UA ds->RDs K m H vs ds:=by
 intro vs ws
 induction ws generalizing vs with
 | nil =>
  intro ds r e;cases r;cases e;exact .nil
 | cons x ws ih =>
  intro ds r e;cases r with
  | cons r t =>
   cases r with
   | p r =>
    simp only[BT.aE] at e;obtain ⟨q,e1,e2⟩:=ay e;subst e2;exact .cons r (ih t e1)
   | _=>cases e
theorem iB:∀ {ds:List BT.D}{k j:Nat},BT.fF x ds k=UA j->∃ i,j=k+i/\∃ (hi:i < ds.length),BT.eqv ds[i] x=UC/\∀ m (hm:m < ds.length),m < i->BT.eqv ds[m] x=UD
 | [],_,_,e=>by cases e
 | y::r,k,j,e=>by
  simp only[BT.fF] at e;split at e
  ·rename_i c;cases e;exact ⟨0,rfl,by simp,c,λm _ h=>by lia⟩
  ·rename_i c;obtain ⟨i,rfl,hi,h1,h2⟩:=iB e;refine ⟨i+1,by lia,by simp;lia,by simpa using h1,λm hm hlt=>?_⟩;cases m with
   | zero=>simpa using c| succ m=>simpa using h2 m (by simpa using hm) (by lia)
theorem gP (I:Inv X zt σ H s):∀ {vs:List V}{ds:List BT.D}{us:List N1},RDs X.K m H vs ds->ao vs us->∀ (i:Nat) (h1:i < us.length) (h2:i < ds.length),bK s.heap (pd d) us[i]=BT.eqv ds[i] d
 | _,_,_,.nil,q=>by cases q;intro i h1;simp at h1
 | _,_,_,.cons r t,q=>by
  cases q with
  | cons q1 q2 =>
   intro i h1 h2;cases i with
   | zero =>
    obtain ⟨as,ra⟩:=gq I r q1;simp only[List.getElem_cons_zero];rw[rJ ra (dF r),kX]
   | succ i=>simpa using gP I t q2 i (by simpa using h1) (by simpa using h2)
theorem vv (hu:X.A.units+150 < cLine):MtR X "tuple.index" (rMe X.prog X.w X.K .tindex):=by
 intro zt s σ H v vs v' us Q I rv rus h;obtain ⟨m,h,x,ws,z,h',R,rx,rws,e,zr⟩:=h;cases x with
 | r n=>cases ws with
  | _=>(first|(cases e;done)|simp[BT.meW] at e)
 | p d =>
  rw[BT.kP] at e;cases g:BT.aE ws with
  | none=>rw[g] at e;cases e
  | some ds =>
   rw[g] at e;obtain ⟨b,e1,e2⟩:=ay e;cases e2;have rds:=rws.pure g;cases d<;>first|exact aA e1|skip
   rename_i xs;cases ds with
   | nil=>exact aA e1
   | cons d0 dr =>
    cases dr with
    | cons _ _=>exact aA e1
    | nil =>
     rw[BT.xw] at e1;split at e1
     ·rename_i c;obtain ⟨j,e3,e4⟩:=ay e1;subst e4;obtain ⟨i,rfl,hi,h1,h2⟩:=iB e3;cases rds with
      | cons r0 rn =>
       cases rn;obtain ⟨u,rfl,ru⟩:=rus.one;cases rx with
       | p rx =>
        obtain ⟨a,vt,rfl,ha,ra⟩:=RR.tup (.d rx);cases rv;obtain ⟨its,q1,q2,_⟩:=I.tuple ha;obtain ⟨⟨cls,dd,data,sl⟩,ho,hc,n,hd⟩:=id q2;simp only at hc hd;subst hc hd;have hl:=q1.length;have hl2:=ra.length;have hi':i < its.toArray.size:=by rw[N2];lia
        refine P1 F.slot_tuple_index ⟨_,ho,rfl⟩ F.entry_tuple_index (F.args_tuple_index_2 _ _)
         (mh a its.toArray n dd sl u (bK s.heap (pd d0)) i hi' ?_ ?_) ⟨ho,?_,?_⟩
        rw[show its.toArray[i]=its[i]'(by lia) by simp,gP I ra q1 i (by lia) hi];exact h1
        ·intro k hk hlt;have hk':k < its.length:=by simpa using hk
         rw[show its.toArray[k]=its[k]'hk' by simp,gP I ra q1 k hk' (by lia)];exact h2 k (by lia) hlt
        ·intro y hy;exact ef hu I (.d r0) ru ra q1 c y (by simpa using hy)
        ·refine ⟨.int (((0+i:Nat):Nat):Int),H,I.tok _,⟨s.toks,?_⟩,zr.here R (.int _)⟩;simp
     cases e1
 | _=>(first|(cases e;done)|simp[BT.meW] at e)
theorem vz:MtR X "str.index" (rMe X.prog X.w X.K .sindex):=by
 intro zt s σ H v vs v' us Q I rv rus h;obtain ⟨m,h,x,ws,z,h',R,rx,rws,e,zr⟩:=h;cases x with
 | r n=>cases ws with
  | _=>(first|(cases e;done)|simp[BT.meW] at e)
 | p d =>
  rw[BT.kQ] at e;cases g:BT.aE ws with
  | none=>rw[g] at e;cases e
  | some ds =>
   rw[g] at e;obtain ⟨b,e1,e2⟩:=ay e;cases e2;have rds:=rws.pure g;cases d<;>first|exact aA e1|skip
   cases ds with
   | nil=>exact aA e1
   | cons d0 dr =>
    cases dr with
    | cons _ _=>cases d0<;>exact aA e1
    | nil =>
     cases d0<;>first|exact aA e1|skip
     rename_i x y;rw[BT.EW] at e1;cases ho:QH x y 0 x.length 1 with
     | nil=>rw[ho] at e1;cases e1
     | cons j rest =>
      rw[ho] at e1;cases e1;cases rds with
      | cons r0 rn =>
       cases rn;cases r0;obtain ⟨u,rfl,t0,rfl⟩:=rus.one;cases rx with
       | p rx =>
        cases rx;obtain ⟨t,rfl⟩:=rv;exact call_gives F.slot_str_index (typeIs_str s x t) F.entry_str_index (F.args_str_index_2 _ _) (gives_str_index x y t t0 j rest ho) ⟨.int j,H,I.tok _,⟨_,rfl⟩,zr.here R (.int _)⟩
 | _=>(first|(cases e;done)|simp[BT.meW] at e)
end
section
inductive rBi (P:Ot) (w:OR) (K:NV) (b:BT.Bi) (mu:Bool) (vs:List V) (H:Hp) (Q:VK):Prop where
 | mk (m:List Of) (h:BT.HH) (ws:List BT.W) (z:BT.W) (h':BT.HH) (R:RH K m H h) (rs:RWs P w K m H vs ws) (e:BT.kBi b mu ws h=UA (z,h')) (p:Post P w K m H z h' Q):rBi P w K b mu vs H Q
inductive RRs (K:NV) (m:List Of) (H:Hp):List V->List BT.D->Prop where
 | nil:RRs K m H [] []
 | cons {v:V}{d:BT.D}{vs:List V}{ds:List BT.D} (r:RR K m H v d) (t:RRs K m H vs ds):RRs K m H (v::vs) (d::ds)
theorem fH {K:NV} (R:RH K m H h):∀ {vs:List V}{ws:List BT.W}{ds:List BT.D},RWs P w K m H vs ws->BT.rds ws h=UA ds->RRs K m H vs ds
 | _,_,_,.nil,e=>by cases e;exact .nil
 | _,_,_,.cons r t,e=>by simp only[BT.rds] at e;obtain ⟨d,e1,e2⟩:=Option.bind_eq_some_iff.mp e;obtain ⟨q,e3,e4⟩:=ay e2;subst e4;exact .cons (aC R r e1) (fH R t e3)
inductive BiI (b:BT.Bi) (mu:Bool) (ws:List BT.W) (h:BT.HH) (z:BT.W) (h':BT.HH):Prop where
 | mk (ds:List BT.D) (d:BT.D) (h1:BT.rds ws h=UA ds) (h2:BT.biD b ds=UA d) (h3:(mu=UD/\z=.p d/\h'=h)\/∃ xs,mu=UC/\d=.lst xs/\z=.r h.length/\h'=h++[.l xs]):BiI b mu ws h z h'
theorem iC (e:BT.kBi b mu ws h=UA (z,h')):BiI b mu ws h z h':=by
 unfold BT.kBi at e;cases e1:BT.rds ws h with
 | none=>rw[e1] at e;cases e
 | some ds =>
  rw[e1] at e;simp only at e;cases e2:BT.biD b ds with
  | none=>rw[e2] at e;cases e
  | some d =>
   rw[e2] at e;simp only at e;cases mu with
   | false=>cases e;exact ⟨ds,d,e1,e2,.inl ⟨rfl,rfl,rfl⟩⟩
   | true =>
    simp only[if_true] at e;cases d<;>simp only at e<;>try contradiction
    cases e;exact ⟨ds,_,e1,e2,.inr ⟨_,rfl,rfl,rfl,rfl⟩⟩
theorem RRs.one {K:NV}{m:List Of}{H:Hp}{vs:List V}{d:BT.D} (r:RRs K m H vs [d]):∃ v,vs=[v]/\RR K m H v d:=by
 cases r with
 | cons r t=>cases t;exact ⟨_,rfl,r⟩
theorem FD:cF X (.builtin "len") (rBi X.prog X.w X.K .len UD):=by
 intro zt s σ H vs us Q I rus h;obtain ⟨m,h,ws,z,h',R,rws,e,zr⟩:=h;obtain ⟨ds,d,e1,e2,⟨_,rfl,rfl⟩|⟨_,q,_⟩⟩:=iC e
 ·have rr:=fH R rws e1
  match ds,e2 with
  | [.tup xs],e2 =>
   cases e2;obtain ⟨v,rfl,r⟩:=rr.one;obtain ⟨a,vt,rfl,ha,ra⟩:=r.tup;exact iQ zt s σ H _ us Q I rus ⟨a,vt,rfl,.inr ha,by rw[ra.length];exact zr.here R (.int _)⟩
  | [.lst xs],e2 =>
   cases e2;obtain ⟨v,rfl,r⟩:=rr.one;obtain ⟨a,vt,rfl,ha,ra⟩:=r.lst;exact iQ zt s σ H _ us Q I rus ⟨a,vt,rfl,.inl ha.sq,by rw[ra.length];exact zr.here R (.int _)⟩
  | [.str x],e2 =>
   rw[BT.u5] at e2;split at e2
   ·rename_i c;cases e2;obtain ⟨v,rfl,r⟩:=rr.one;obtain ⟨rfl,_⟩:=r.str;have:=bN;exact nA zt s σ H _ us Q I rus ⟨x,rfl,by lia,zr.here R (.int _)⟩
   cases e2
 cases q
theorem FE:cF X (.builtin "abs") (rBi X.prog X.w X.K .abs UD):=by
 intro zt s σ H vs us Q I rus h;obtain ⟨m,h,ws,z,h',R,rws,e,zr⟩:=h;obtain ⟨ds,d,e1,e2,⟨_,rfl,rfl⟩|⟨_,q,_⟩⟩:=iC e
 ·have rr:=fH R rws e1
  match ds,e2 with
  | [.int i],e2 =>
   cases e2;obtain ⟨v,rfl,r⟩:=rr.one;cases r.int;exact wV zt s σ H _ us Q I rus ⟨i,rfl,zr.here R (.int _)⟩
 cases q
theorem FG:cF X (.type "int") (rBi X.prog X.w X.K .int UD):=by
 intro zt s σ H vs us Q I rus h;obtain ⟨m,h,ws,z,h',R,rws,e,zr⟩:=h;obtain ⟨ds,d,e1,e2,⟨_,rfl,rfl⟩|⟨_,q,_⟩⟩:=iC e
 ·have rr:=fH R rws e1
  match ds,e2 with
  | [.int i],e2 =>
   cases e2;obtain ⟨v,rfl,r⟩:=rr.one;cases r.int;exact mJ zt s σ H _ us Q I rus (.inl ⟨i,rfl,zr.here R (.int _)⟩)
  | [.bl i],e2 =>
   cases e2;obtain ⟨v,rfl,r⟩:=rr.one;cases r.bl;exact mJ zt s σ H _ us Q I rus (.inr ⟨i,rfl,zr.here R (.int _)⟩)
 cases q
theorem sV:cF X (.type "list") (rBi X.prog X.w X.K .list mu):=by
 intro zt s σ H vs us Q I rus h;obtain ⟨m,h,ws,z,h',R,rws,e,zr⟩:=h;obtain ⟨ds,d,e1,e2,hz⟩:=iC e;have rr:=fH R rws e1;have fin:∀ {p:Of}{vt:List V}{xs:List BT.D},d=.lst xs->H p=UB->RDs X.K m H vt xs->Q (.ref p) (upd H p (.lst vt)):=by
  intro p vt xs ed hp r;rcases hz with ⟨_,rfl,rfl⟩|⟨ys,_,e3,rfl,rfl⟩
  subst ed;exact gK R hp r zr;rw[ed] at e3;cases e3;exact sR R hp r zr
 match ds,e2 with
 | [.tup xs],e2 =>
  cases e2;obtain ⟨v,rfl,r⟩:=rr.one;obtain ⟨a,vt,rfl,ha,ra⟩:=r.tup;exact iR zt s σ H _ us Q I rus ⟨a,vt,rfl,.inr ha,λp hp=>fin rfl hp ra⟩
 | [.lst xs],e2 =>
  cases e2;obtain ⟨v,rfl,r⟩:=rr.one;obtain ⟨a,vt,rfl,ha,ra⟩:=r.lst;exact iR zt s σ H _ us Q I rus ⟨a,vt,rfl,.inl ha.sq,λp hp=>fin rfl hp ra⟩
theorem i6 {K:NV}:∀ {ns:List Int}{vs:List V},RDs K m H vs (ns.map BT.D.int)->vs=ns.map V.int
 | [],vs,r=>by cases r;rfl
 | n::ns,vs,r=>by
  cases r with
  | cons r t=>cases r;rw[i6 t];rfl
theorem pR {K:NV}:∀ (ns:List Int),RDs K m H (ns.map V.int) (ns.map BT.D.int)
 | []=>.nil| n::ns=>.cons (.int n) (pR ns)
theorem yj:cF X (.type "tuple") (rBi X.prog X.w X.K .tuple UD):=by
 intro zt s σ H vs us Q I rus h;obtain ⟨m,h,ws,z,h',R,rws,e,zr⟩:=h;obtain ⟨ds,d,e1,e2,⟨_,rfl,rfl⟩|⟨_,q,_⟩⟩:=iC e
 ·have rr:=fH R rws e1
  match ds,e2 with
  | [.tup xs],e2 =>
   cases e2;obtain ⟨v,rfl,r⟩:=rr.one;obtain ⟨a,vt,rfl,ha,ra⟩:=r.tup;refine gX zt s σ H _ us Q I rus ⟨a,vt,rfl,.inr ⟨ha,?_⟩⟩;cases r with
   | d r=>exact zr.here R r
  | [.lst xs],e2 =>
   cases e2;obtain ⟨v,rfl,r⟩:=rr.one;obtain ⟨a,vt,rfl,ha,ra⟩:=r.lst;exact gX zt s σ H _ us Q I rus ⟨a,vt,rfl,.inl ⟨ha.sq,λp hp=>iW R hp ra zr⟩⟩
 cases q
noncomputable def tyD:BT.D->String
 | .non=>"NoneType"| .bl _=>"bool"| .int _=>"int"| .str _=>"str"| .tup _=>"tuple"| .lst _=>"list"
theorem Bm {E:N1->N4->Prop}
 (I:Inv X zt σ H s) (r:RR X.K m H v d) (rv:RelV v u) (e:Pi X.K (.type (tyD d)) (.type c)=UA b) (h:∀ tk,Q (.bool b) { s with toks:=tk }) :
 wpAny (Ow X.prog X.w) A (call (.builtin "isinstance") [u,.type c]) Q E s:=by
 cases d with
 | non=>cases r.non;cases rv;exact P5 PySem.W.kitx_none I.kIn QD e (λz=>nomatch z) h| bl y=>cases r.bl;cases rv;exact P5 PySem.W.kitx_bool I.kIn QD e (λz=>nomatch z) h| int i=>cases r.int;obtain ⟨t,rfl⟩:=rv;exact P5 PySem.W.kitx_int I.kIn QD e (λz=>nomatch z) h| str y=>obtain ⟨rfl,_⟩:=r.str;obtain ⟨t,rfl⟩:=rv;exact P5 PySem.W.kitx_str I.kIn QD e (λz=>nomatch z) h
 | tup xs =>
  obtain ⟨a,vt,rfl,ha,_⟩:=r.tup;cases rv;obtain ⟨its,_,⟨o,h1,h2,_⟩,_⟩:=I.tuple ha;exact P5 PySem.W.kitx_tuple I.kIn ⟨o,h1,h2⟩ e (λz=>nomatch z) h
 | lst xs =>
  obtain ⟨a,vt,rfl,ha,_⟩:=r.lst;cases rv;obtain ⟨_,its,n,_,_,h1⟩:=rdL I ha;exact P5 PySem.W.kitx_list I.kIn ⟨_,h1,rfl⟩ e (λz=>nomatch z) h
theorem yk (K:NV) (t:String):Pi K (.type t) (.type t)=UA UC:=by unfold Pi;rw[if_pos (by simp)]
theorem yl (h:pM b=UA (c,f)) (d:BT.D):BT.biD b [d]=UA (.bl (f d)):=by
 cases b<;>simp only[pM] at h<;>try contradiction
 all_goals (cases h;rfl)
theorem ym (h:pM b=UA (c,f)) (K:NV) (d:BT.D):Pi K (.type (tyD d)) (.type c)=UA (f d):=by
 cases b<;>simp only[pM] at h<;>try contradiction
 all_goals (cases h;cases d)
 all_goals first
  | exact yk K _
  | (simp only[tyD];unfold Pi;rw[if_neg (by decide)];unfold PySem.W.kitCls;first|rfl|kernel_rfl|decide +kernel)
end
noncomputable abbrev FT:=BT.FK->List BT.W->BT.HH->Option (BT.W×BT.HH)
inductive spF (P:Ot) (w:OR) (K:NV) (g:List BT.W->BT.HH->Option (BT.W×BT.HH)) (vs:List V) (H:Hp) (Q:VK) (E:XK):Prop where
 | mk (m:List Of) (ws:List BT.W) (h:BT.HH) (z:BT.W) (h':BT.HH) (R:RH K m H h) (r:RWs P w K m H vs ws) (e:g ws h=UA (z,h')) (p:Post P w K m H z h' Q):spF P w K g vs H Q E
inductive tD (X:Cx) (F:FT) (G:Str->Option BT.W) (e:BT.E) (σ:L2.St) (H:Hp) (Q:VK):Prop where
 | mk (m:List Of) (s:BT.Sl) (h:BT.HH) (z:BT.W) (h':BT.HH) (R:RH X.K m H h) (S:RS X.prog X.w X.K m H σ s) (q:BT.ev F G e s h=UA (z,h')) (p:Post X.prog X.w X.K m H z h' Q):tD X F G e σ H Q
inductive tDs (X:Cx) (F:FT) (G:Str->Option BT.W) (es:BT.Es) (σ:L2.St) (H:Hp) (Q:List V->Hp->Prop):Prop where
 | mk (m:List Of) (s:BT.Sl) (h:BT.HH) (zs:List BT.W) (h':BT.HH) (R:RH X.K m H h) (S:RS X.prog X.w X.K m H σ s) (q:BT.evs F G es s h=UA (zs,h')) (p:∀ vs H' m',Ext m H m' H'->RH X.K m' H' h'->RWs X.prog X.w X.K m' H' vs zs->Q vs H'):tDs X F G es σ H Q
inductive tDT (X:Cx) (F:FT) (G:Str->Option BT.W) (e:BT.E) (σ:L2.St) (H:Hp) (Q:Bool->Hp->Prop):Prop where
 | mk (m:List Of) (s:BT.Sl) (h:BT.HH) (b:Bool) (h':BT.HH) (R:RH X.K m H h) (S:RS X.prog X.w X.K m H σ s) (q:BT.ev F G e s h=UA (.p (.bl b),h')) (p:∀ H' m',Ext m H m' H'->RH X.K m' H' h'->Q b H'):tDT X F G e σ H Q
def pS (P:Ot) (w:OR) (K:NV) (mg:Str->Option N1) (base:Heap) (k L:Nat) (g:List BT.W->BT.HH->Option (BT.W×BT.HH)):Prop :=
 ∀ (A:PK) (outer:List Env) (s:N4) (H:Hp) (f:Of) (us:List N1) (vs cvs:List V) (m:List Of) (ws:List BT.W) (cs:List BT.Cp) (h:BT.HH) (z:BT.W) (h':BT.HH) (Q:VK) (E:XK),bO k A->kI P w K mg base A outer s H->ao vs us →
  RH K m H h->RWs P w K m H vs ws->BT.noC ws=UC->fS m H f L cvs->RCs K m H cvs cs->g (ws++cs.map BT.Cp.w) h=UA (z,h')->Post P w K m H z h' Q->codeAny (Ow P w) A (.call (.ref f) ⟨us,[]⟩) (CR CX0 outer P w H s Q E) s
structure LX (X:Cx) (x:Str):Prop where
 mem:x∈BT.cQ
 ex:∃ c P,OS X.K x=UA (c,P)/\X.env.code=.ref c/\PySem.W.CodeHd X.base c P/\∀ y∈BT.cQ,∀ c2,OS X.K y=UA (c2,P)->y=x
 ql:X.env.qual=x++".<locals>."
 bm:∃ bm ob,X.mg "__builtins__"=UA (.ref bm)/\bm≠PL/\X.base.get? bm=UA ob/\ob.cls=.type "module"/\ob.dict=UA PL/\ob.data=.plain
noncomputable def FH:List Str:=["len","abs","int","list","tuple","isinstance","str","bool","range","reversed","enumerate","zip","min","max","sorted","sum","all","any","set","ValueError","dict"]
inductive OkC (P:Ot) (w:OR) (K:NV) (mg:Str->Option N1) (base:Heap) (A:PK) (f:Str) (sp:Sp):Prop where
 | mk (fa:Of) (fd:Qh) (ps:List Str) (k:Nat) (h1:mg f=UA (.ref fa)) (h2:O3 K (.ref fa)=UC) (h3:Binds K fd ps []) (h4:bO k A) (h5:fD P w K mg base CX0 k fa fd ps sp):OkC P w K mg base A f sp
inductive OkM (P:Ot) (w:OR) (K:NV) (mg:Str->Option N1) (base:Heap) (A:PK) (CX:CXT) (c m:Str) (sp:Sp):Prop where
 | mk (C g:Of) (fd:Qh) (ps:List Str) (k:Nat) (h1:jV K c C) (h2:qR K C m g) (h3:Binds K fd ps []) (h4:bO k A) (h5:fD P w K mg base CX k g fd ps sp):OkM P w K mg base A CX c m sp
inductive OkN (P:Ot) (w:OR) (K:NV) (mg:Str->Option N1) (base:Heap) (A:PK) (c:Str) (sp:Sp):Prop where
 | mk (C g:Of) (fd:Qh) (ps:List Str) (k:Nat) (h1:jV K c C) (h2:mg c=UA (.ref C)) (h3:Mk K C g) (h4:Binds K fd ps []) (h5:bO (k+1) A) (h6:fD P w K mg base CX0 k g fd ps sp):OkN P w K mg base A c sp
structure Ok (X:Cx) (F:FT) (G:Str->Option BT.W) (sc:OD) (N:List Str):Prop where
 hsc:X.env.scope=sc
 hN:X.N=N
 nd:X.N.Nodup
 calm:b9 N=UC->X.calm=UC
 hu:X.A.units+150 < cLine
 own:PassesOwn (Ow X.prog X.w) X.A X.env X.xe
 glob:∀ x z,G x=UA z->∃ u v,X.mg x=UA u/\RelV v u/\∀ m H,RW X.prog X.w X.K m H v z
 call:∀ (f:Str) ws h r,F (.f f) ws h=UA r->OkC X.prog X.w X.K X.mg X.base X.A f (spF X.prog X.w X.K (F (.f f)))
 meth:∀ (c m:Str) ws h r,F (.m c m) ws h=UA r->OkM X.prog X.w X.K X.mg X.base X.A CX0 c m (spF X.prog X.w X.K (F (.m c m)))
 mkc:∀ (c:Str) ws h r,F (.m c "__init__") ws h=UA r->OkN X.prog X.w X.K X.mg X.base X.A c (spF X.prog X.w X.K (F (.m c "__init__")))
 blt:∀ x∈FH,X.mg x=UB
 lam:∀ (L:Nat) ws h r,F (.l L) ws h=UA r->∃ k,bO k X.A/\pS X.prog X.w X.K X.mg X.base k L (F (.l L))
 lamx:(∀ x,X.fn x=UC)->∀ x,N.contains (BT.bM x)=UC->LX X x
theorem PE.weak (h:PE X e t) (q:∀ σ H Q,t' σ H Q->t σ H Q):PE X e t':=λzt s σ H Q I hw=>h zt s σ H Q I (q _ _ _ hw)
theorem PT.weak (h:PT X e t) (q:∀ σ H Q,t' σ H Q->t σ H Q):PT X e t':=λzt s σ H Q I hw=>h zt s σ H Q I (q _ _ _ hw)
theorem PW.weak (h:PW X e t) (q:∀ σ H Q,t' σ H Q->t σ H Q):PW X e t':=λwh zt s σ H Q I hw=>h wh zt s σ H Q I (q _ _ _ hw)
theorem PA.weak (h:PA X es t) (q:∀ σ H Q,t' σ H Q->t σ H Q):PA X es t':=λpos zt s σ H Q I hw=>h pos zt s σ H Q I (q _ _ _ hw)
theorem ai (h:noStar e=UC):OA (e::es) env=(UD,eval e env)::OA es env:=by cases e<;>first|rfl|cases h
theorem yo (h:iU b=UC):sG b:=λo i=>by cases b<;>first|rfl|cases h
theorem i7 (h:aD o=UC):Rg o name env (eval o env)=eval o env:=by
 cases o with
 | Call fn as ks p =>
  cases fn with
  | Attribute _ _ _=>rfl| _=>cases h
 | _=>first|rfl|cases h
noncomputable def aq:List NX->Bool
 | []=>UC| e::es=>noStar e&&aq es
theorem aH:∀ {es:List NX},aq es=UC->(PU pos (OA es env)).any (·.1)=UD
 | [],_=>rfl
 | e::es,h=>by simp only[aq,NY] at h;rw[ai h.1];show (UD||(PU pos (OA es env)).any (·.1))=UD;rw[aH h.2];rfl
theorem i8:∀ {es:List NX},aq es=UC->(PU pos (OA es env)).all (λx=>!x.1)=UC
 | [],_=>rfl
 | e::es,h=>by simp only[aq,NY] at h;rw[ai h.1];show (!UD&&(PU pos (OA es env)).all (λx=>!x.1))=UC;rw[i8 h.2];rfl
theorem cM:∀ {sc:OD}{N:List Str}{as:BT.Es}{es:List NX},CEs sc N as es->aq es=UC
 | _,_,_,_,.nil=>rfl
 | _,_,_,_,.cons hs _ hr=>by simp only[aq,NY];exact ⟨hs,cM hr⟩
section
theorem nW (he:∀ s h,BT.ev F G e s h=BT.bnd (BT.ev F G a s h) (BT.k2 (BT.ev F G b s) f)) (σ:L2.St) (H:Hp) (Q:VK) (q:tD X F G e σ H Q) :
 tOp (rOp X.prog X.w X.K f) (tD X F G a) (tD X F G b) σ H Q:=by
 obtain ⟨m,s,h,z,h',R,S,ee,zr⟩:=q;rw[he] at ee;obtain ⟨x,h1,e1,e2⟩:=ah ee;simp only[BT.k2] at e2;obtain ⟨y,h2,e3,e4⟩:=ah e2;refine ⟨m,s,h,x,h1,R,S,e1,λv H1 m1 x1 R1 r1=>?_⟩;refine ⟨m1,s,h1,y,h2,R1,S.ext x1,e3,λu H2 m2 x2 R2 r2=>?_⟩;exact ⟨m2,h2,x,y,z,h',R2,r1.ext x2,r2,e4,λw' H3 m3 x3 R3 r3=>zr w' H3 m3 ((x1.trans x2).trans x3) R3 r3⟩
theorem pT (h:∀ σ H Q,tD X F G e σ H Q->t σ H Q) (σ:L2.St) (H:Hp) (Q:Bool->Hp->Prop) (q:tDT X F G e σ H Q):wQ t σ H Q:=by
 obtain ⟨m,s,h0,b,h',R,S,ee,zr⟩:=q;refine h σ H _ ⟨m,s,h0,_,h',R,S,ee,λv H' m' x R' r=>?_⟩;cases r with
 | p r=>cases r;exact ⟨b,rfl,zr H' m' x R'⟩
theorem opB (h:DM o op=UC):OpR X (Pa op) (rOp X.prog X.w X.K (BT.lW o)):=by cases o<;>cases op<;>cases h;exact Fp;exact Fq;exact Fw;exact Ft;exact Bg;exact Fv
theorem DR:∀ {es:List (Str×V)}{kvs:List (Str×BT.D)}{K:NV},RDk K es kvs->KV (es.map λq=>((Sum.inr q.1:Key),q.2)) vs->(valueAt vs (Sum.inr k)).isSome=(BT.cG k kvs).isSome:=by
 intro es
 induction es generalizing vs with
 | nil =>
  intro kvs K r q;cases r;cases q;rfl
 | cons p es ih =>
  intro kvs K r q;cases r with
  | @cons x v dd _ kvs r t =>
   cases q with
   | @cons p z l1 l2 q1 q2 =>
    obtain ⟨z1,z2⟩:=z;obtain ⟨q11,q12⟩:=q1;simp only at q11 q12;subst q11;rw[BT.cG]
    by_cases c:k=x
    ·subst c;simp[valueAt]
    ·rw[if_neg c];have ne:¬ ((Sum.inr x:Key)=Sum.inr k):=λz=>c (Sum.inr.inj z).symm;have:=ih t q2;simp only[valueAt] at this ⊢;rw[Q5 (by simpa using ne)];exact this
theorem opC (O:Ok X F G sc N) (h:Bd o op=UC):OpR X (OQ op) (rOp X.prog X.w X.K (BT.fT o)):=by
 cases o<;>cases op<;>cases h;exact Jj O.hu;exact Jk O.hu;exact Jl;exact Jm;exact Jo;exact Jp;exact Fx;exact Bh
 ·refine Fy O.hu ?_;intro kvs x b m H v u v' u' zt σ s Q I rv ru rx rk e q;cases kvs with
  | t kvs =>
   cases x with
   | p d =>
    cases d<;>first|exact aA e|skip
    obtain rfl:=Ob e;cases rk with
    | @k a es _ kd rk =>
     cases ru;cases rx with
     | p rx =>
      cases rx with
      | str x ok =>
       obtain ⟨t,rfl⟩:=rv;obtain ⟨hm,vs,kv,dd⟩:=kd;have D:=dd s.heap I.kIn;refine wpAny_in_of (knd:=au X.prog X.w) (dU _ _ _ t) hm D.mapOf ?_;rw[DR rk kv];exact ⟨.bl _,H,I.tok _,rfl,q⟩
   | _=>cases e
  | l kvs =>
   cases x with
   | p d =>
    obtain ⟨k,g1,g2⟩:=ay (show (BT.fY d).map (λk=>(BT.bB kvs k).isSome)=UA b from e);subst g2;cases rk with
    | @kl a ob ws _ hh rk =>
     cases ru;cases rx with
     | p rx =>
      have ek:=nV rx g1;subst ek;cases ye I (.inr ⟨_,hh.1⟩) rk k with
      | no vs dd n g1 g2 =>
       refine wpAny_in_of (knd:=au X.prog X.w) (pG rv) n dd.mapOf ?_;rw[g2];exact ⟨.bl _,H,I.tok _,rfl,by rw[g1] at q;exact q⟩
      | is vs dd n x v1 u1 g1 g2 g3 g4 =>
       refine wpAny_in_of (knd:=au X.prog X.w) (pG rv) n dd.mapOf ?_;rw[g2];exact ⟨.bl _,H,I.tok _,rfl,by rw[g1] at q;exact q⟩
   | _=>cases e
 ·refine Bj O.hu ?_;intro kvs x b m H v u v' u' zt σ s Q I rv ru rx rk e q;cases kvs with
  | t kvs =>
   cases x with
   | p d =>
    cases d<;>first|exact aA e|skip
    obtain rfl:=Ob e;cases rk with
    | @k a es _ kd rk =>
     cases ru;cases rx with
     | p rx =>
      cases rx with
      | str x ok =>
       obtain ⟨t,rfl⟩:=rv;obtain ⟨hm,vs,kv,dd⟩:=kd;have D:=dd s.heap I.kIn;refine wpAny_notIn_of (knd:=au X.prog X.w) (dU _ _ _ t) hm D.mapOf ?_;rw[DR rk kv];exact ⟨.bl _,H,I.tok _,rfl,q⟩
   | _=>cases e
  | l kvs=>cases e
end
section
variable {X:Cx}{F:FT}{G:Str->Option BT.W}{sc:OD}{N:List Str}
theorem Bo (O:Ok X F G sc N) (x:Str):X.env.kindOf x=sc.names.lookup x:=by rw[← O.hsc];rfl
theorem cZ (h:bU x=UC):(x==("__debug__":Str))=UD/\(x==("__classdict__":Str))=UD/\x≠"__name__":=by simp only[bU,NY,Qm] at h;exact ⟨h.1.1,h.1.2,λe=>by rw[e] at h;simp at h⟩
theorem aW (O:Ok X F G sc N) (h:aL sc x=UC):Gl X x:=by show X.env.kindOf x=_;rw[Bo O];exact eq_of_beq h
theorem yp (O:Ok X F G sc N) (h:jU sc x=UC):Vis X.env.scope x:=by
 rw[O.hsc];unfold jU at h;unfold Vis;cases e:sc.names.lookup x with
 | none=>rw[e] at h;cases h
 | some k=>rw[e] at h;cases k<;>first|(exact .inl rfl)|(exact .inr (.inl rfl))|(exact .inr (.inr rfl))|cases h
theorem nX (O:Ok X F G sc N) (h2:N[i]?=UA y) (h3:jU sc y=UC) (h4:bU y=UC):PE X (.Name y pos) (tD X F G (.var i)):=by
 obtain ⟨d1,d2,_⟩:=cZ h4;refine PE.weak (wA (i:=i) (by rw[O.hN];exact h2) (yp O h3) d1 d2) fun σ H Q q=>?_;obtain ⟨m,s,h,z,h',R,S,ee,zr⟩:=q;simp only[BT.ev] at ee;split at ee
 ·rename_i w e;cases ee;obtain ⟨v,hv,r⟩:=S.get i _ e;exact ⟨v,hv,zr v H m (.refl _ _) R r⟩
 cases ee
theorem Bp (h:DN d c=UC):PE X (.Constant c k pos) (tD X F G (.cst d)):=by
 have fin:∀ {v:V},(∀ m H,RD X.K m H v d)->∀ σ H Q,tD X F G (.cst d) σ H Q->tC v σ H Q:=λr σ H Q q=>by obtain ⟨m,s,h,z,h',R,S,ee,zr⟩:=q;simp only[BT.ev] at ee;cases ee;exact zr _ H m (.refl _ _) R (.p (r m H))
 cases d<;>cases c<;>first|(cases h;done)|skip
 exact PE.weak Ec (fin λ_ _=>.non);cases eq_of_beq h;exact PE.weak HA (fin λ_ _=>.bl _);cases eq_of_beq h;exact PE.weak qK (fin λ_ _=>.int _)
 ·have h:=Bool.and_eq_true_iff.mp h;cases eq_of_beq h.1;exact PE.weak Ed (fin λ_ _=>.str _ h.2)
theorem Bq (O:Ok X F G sc N) (h2:aL sc y=UC) (h3:bU y=UC):PE X (.Name y pos) (tD X F G (.glo y)):=by obtain ⟨d1,d2,_⟩:=cZ h3;intro zt s σ H Q I q;obtain ⟨m,s',h,z,h',R,S,ee,zr⟩:=q;simp only[BT.ev] at ee;obtain ⟨w,e1,e2⟩:=ay ee;cases e2;obtain ⟨u,v,hm,r,rw⟩:=O.glob _ _ e1;exact su (aW O h2) hm r d1 zt s σ H Q I (zr v H m (.refl _ _) R (rw m H))
theorem DS (he:∀ s h,BT.ev F G e s h=BT.bnd (BT.ev F G a s h) k) (q:tD X F G e σ H Q)
 (h1:∀ m h x z h' v H1,RH X.K m H1 h->RW X.prog X.w X.K m H1 v x->k x h=UA (z,h')->Post X.prog X.w X.K m H1 z h' Q->R' v H1):tD X F G a σ H R':=by
 obtain ⟨m,s,h,z,h',R,S,ee,zr⟩:=q;rw[he] at ee;obtain ⟨x,g,e1,e2⟩:=ah ee;exact ⟨m,s,h,x,g,R,S,e1,λv H1 m1 x1 R1 r1=>h1 m1 g x z h' v H1 R1 r1 e2 λw' H3 m3 x3 R3 r3=>zr w' H3 m3 (x1.trans x3) R3 r3⟩
theorem i9 (he:∀ s h,BT.ev F G e s h=BT.bnd (BT.evs F G as s h) k) (q:tD X F G e σ H Q)
 (h1:∀ m h xs z h' vs H1,RH X.K m H1 h->RWs X.prog X.w X.K m H1 vs xs->k xs h=UA (z,h')->Post X.prog X.w X.K m H1 z h' Q->R' vs H1):tDs X F G as σ H R':=by
 obtain ⟨m,s,h,z,h',R,S,ee,zr⟩:=q;rw[he] at ee;obtain ⟨x,g,e1,e2⟩:=ah ee;exact ⟨m,s,h,x,g,R,S,e1,λv H1 m1 x1 R1 r1=>h1 m1 g x z h' v H1 R1 r1 e2 λw' H3 m3 x3 R3 r3=>zr w' H3 m3 (x1.trans x3) R3 r3⟩
theorem ty_list (R:RH X.K m H h) (r:RW X.prog X.w X.K m H v (.r n)) (ok:BT.lX (.r n) h=UC):tyV X.K "list" v H:=by
 cases r with
 | @r a _ hn =>
  obtain ⟨xs,e⟩:=Option.isSome_iff_exists.mp ok;obtain ⟨vs,e,_⟩:=R.cell n a xs hn e;exact .inl ⟨rfl,vs,.inl (.inl e)⟩
theorem sW (e:BT.kMe m ea x h=UA r):BT.lX x h=UC/\BT.bnd (ea h) (BT.meW m x)=UA r:=by unfold BT.kMe at e;split at e;rename_i c;exact ⟨c,e⟩;cases e
theorem MC (hm:m=.append\/m=.pop\/m=.extend) (e:BT.meW m x ws h=UA (z,h')):∃ n,x=.r n:=by
 cases x with
 | r n=>exact ⟨n,rfl⟩
 | p d =>
  rcases hm with rfl|rfl|rfl<;>cases ws<;>rw[pQ] at e<;>(split at e<;>(try cases e))<;>exact aA e
 | k q =>
  rcases hm with rfl|rfl|rfl<;>cases ws<;>(first|(cases e;done)|simp[BT.meW] at e)
 | x _ =>
  rcases hm with rfl|rfl|rfl<;>cases ws<;>(first|(cases e;done)|simp[BT.meW] at e)
 | c _ _ =>
  rcases hm with rfl|rfl|rfl<;>cases ws<;>(first|(cases e;done)|simp[BT.meW] at e)
 | o q =>
  rcases hm with rfl|rfl|rfl<;>cases ws<;>(first|(cases e;done)|simp[BT.meW] at e)
end
section
theorem nY {X:Cx}{e a:BT.E}{k:BT.Sl->BT.W->BT.HH->Option (BT.W×BT.HH)} (he:∀ s h,BT.ev F G e s h=BT.bnd (BT.ev F G a s h) (k s)) {σ:L2.St}{H:Hp}{Q:VK} (q:tD X F G e σ H Q) {R':V->Hp->Prop}
 (h1:∀ m s h x z h' v H1,RH X.K m H1 h->RS X.prog X.w X.K m H1 σ s->RW X.prog X.w X.K m H1 v x->k s x h=UA (z,h')->Post X.prog X.w X.K m H1 z h' Q->R' v H1):tD X F G a σ H R':=by
 obtain ⟨m,s,h,z,h',R,S,ee,zr⟩:=q;rw[he] at ee;obtain ⟨x,g,e1,e2⟩:=ah ee;exact ⟨m,s,h,x,g,R,S,e1,λv H1 m1 x1 R1 r1=>h1 m1 s g x z h' v H1 R1 (S.ext x1) r1 e2 λw' H3 m3 x3 R3 r3=>zr w' H3 m3 (x1.trans x3) R3 r3⟩
theorem FI {X:Cx}{e a:BT.E}{k:BT.Sl->Bool->BT.HH->Option (BT.W×BT.HH)}{kk:BT.Sl->BT.W->BT.HH->Option (BT.W×BT.HH)} (he:∀ s h,BT.ev F G e s h=BT.bnd (BT.ev F G a s h) (kk s))
 (hk:∀ s x h r,kk s x h=UA r->∃ b,x=.p (.bl b)/\k s b h=UA r) {σ:L2.St}{H:Hp}{Q:VK} (q:tD X F G e σ H Q) {R':Bool->Hp->Prop}
 (h1:∀ m s h b z h' H1,RH X.K m H1 h->RS X.prog X.w X.K m H1 σ s->k s b h=UA (z,h')->Post X.prog X.w X.K m H1 z h' Q->R' b H1):tDT X F G a σ H R':=by
 obtain ⟨m,s,h,z,h',R,S,ee,zr⟩:=q;rw[he] at ee;obtain ⟨x,g,e1,e2⟩:=ah ee;obtain ⟨b,rfl,e3⟩:=hk _ _ _ _ e2;exact ⟨m,s,h,b,g,R,S,e1,λH1 m1 x1 R1=>h1 m1 s g b z h' H1 R1 (S.ext x1) e3 λw' H3 m3 x3 R3 r3=>zr w' H3 m3 (x1.trans x3) R3 r3⟩
theorem jD (r:RW P w K m H v (.p (.bl b))):v=.bl b:=by cases r with|p r=>cases r;rfl
theorem sY (e:BT.A7 eb x h=UA r):∃ b,x=.p (.bl b)/\(if b=UC then eb h else UA (.p (.bl UD),h))=UA r:=by
 cases x with
 | p d =>
  cases d<;>simp only[BT.A7] at e<;>try contradiction
  exact ⟨_,rfl,e⟩
 | _=>cases e
theorem yq (e:BT.kOr eb x h=UA r):∃ b,x=.p (.bl b)/\(if b=UC then UA (.p (.bl UC),h) else eb h)=UA r:=by
 cases x with
 | p d =>
  cases d<;>simp only[BT.kOr] at e<;>try contradiction
  exact ⟨_,rfl,e⟩
 | _=>cases e
theorem Br (e:BT.A8 ea eb x h=UA r):∃ b,x=.p (.bl b)/\(if b=UC then ea h else eb h)=UA r:=by
 cases x with
 | p d =>
  cases d<;>simp only[BT.A8] at e<;>try contradiction
  exact ⟨_,rfl,e⟩
 | _=>cases e
theorem sZ (e:BT.A6 x h=UA r):∃ b,x=.p (.bl b)/\r=(.p (.bl (!b)),h):=by
 cases x with
 | p d =>
  cases d<;>simp only[BT.A6] at e<;>try contradiction
  cases e;exact ⟨_,rfl,rfl⟩
 | _=>cases e
theorem Bs (e:BT.A5 x h=UA r):∃ i,x=.p (.int i)/\r=(.p (.int (-i)),h):=by
 cases x with
 | p d =>
  cases d<;>simp only[BT.A5] at e<;>try contradiction
  cases e;exact ⟨_,rfl,rfl⟩
 | _=>cases e
theorem tw {X:Cx}{a b:BT.E} (σ:L2.St) (H:Hp) (Q:VK) (q:tD X F G (.and a b) σ H Q):Dw (tD X F G a) (tD X F G b) σ H Q:=by
 refine nY (k:=λs=>BT.A7 (BT.ev F G b s)) (λs h=>by simp only[BT.ev]) q λm s h x z h' v H1 R S r e zr=>?_;obtain ⟨c,rfl,e2⟩:=sY e;refine ⟨c,jD r,?_⟩;cases c with
 | true=>rw[if_pos rfl] at e2 ⊢;exact ⟨m,s,h,z,h',R,S,e2,zr⟩| false=>rw[if_neg (by decide)] at e2 ⊢;cases e2;exact zr.here R (.bl _)
theorem yr {X:Cx}{a b:BT.E} (σ:L2.St) (H:Hp) (Q:VK) (q:tD X F G (.or a b) σ H Q):HD (tD X F G a) (tD X F G b) σ H Q:=by
 refine nY (k:=λs=>BT.kOr (BT.ev F G b s)) (λs h=>by simp only[BT.ev]) q λm s h x z h' v H1 R S r e zr=>?_;obtain ⟨c,rfl,e2⟩:=yq e;refine ⟨c,jD r,?_⟩;cases c with
 | true=>rw[if_pos rfl] at e2 ⊢;cases e2;exact zr.here R (.bl _)| false=>rw[if_neg (by decide)] at e2 ⊢;exact ⟨m,s,h,z,h',R,S,e2,zr⟩
theorem tE (σ:L2.St) (H:Hp) (Q:Bool->Hp->Prop) (q:tDT X F G (.and a b) σ H Q):HB (tDT X F G a) (tDT X F G b) σ H Q:=by
 obtain ⟨m,s,h,c,h',R,S,ee,zr⟩:=q;simp only[BT.ev] at ee;obtain ⟨x,g,e1,e2⟩:=ah ee;obtain ⟨d,rfl,e3⟩:=sY e2;refine ⟨m,s,h,d,g,R,S,e1,λH1 m1 x1 R1=>?_⟩;cases d with
 | true=>rw[if_pos rfl] at e3 ⊢;exact ⟨m1,s,g,c,h',R1,S.ext x1,e3,λH2 m2 x2 R2=>zr H2 m2 (x1.trans x2) R2⟩| false=>rw[if_neg (by decide)] at e3 ⊢;cases e3;exact zr H1 m1 x1 R1
theorem yt (σ:L2.St) (H:Hp) (Q:Bool->Hp->Prop) (q:tDT X F G (.or a b) σ H Q):tOr (tDT X F G a) (tDT X F G b) σ H Q:=by
 obtain ⟨m,s,h,c,h',R,S,ee,zr⟩:=q;simp only[BT.ev] at ee;obtain ⟨x,g,e1,e2⟩:=ah ee;obtain ⟨d,rfl,e3⟩:=yq e2;refine ⟨m,s,h,d,g,R,S,e1,λH1 m1 x1 R1=>?_⟩;cases d with
 | true=>rw[if_pos rfl] at e3 ⊢;cases e3;exact zr H1 m1 x1 R1| false=>rw[if_neg (by decide)] at e3 ⊢;exact ⟨m1,s,g,c,h',R1,S.ext x1,e3,λH2 m2 x2 R2=>zr H2 m2 (x1.trans x2) R2⟩
theorem Bt (σ:L2.St) (H:Hp) (Q:Bool->Hp->Prop) (q:tDT X F G (.not a) σ H Q):HC (tDT X F G a) σ H Q:=by obtain ⟨m,s,h,c,h',R,S,ee,zr⟩:=q;simp only[BT.ev] at ee;obtain ⟨x,g,e1,e2⟩:=ah ee;obtain ⟨d,rfl,e3⟩:=sZ e2;cases e3;exact ⟨m,s,h,d,h',R,S,e1,λH1 m1 x1 R1=>zr H1 m1 x1 R1⟩
theorem Bu {X:Cx}{a:BT.E} (σ:L2.St) (H:Hp) (Q:VK) (q:tD X F G (.not a) σ H Q):Dy (tD X F G a) σ H Q:=by refine nY (k:=λs=>BT.A6) (λs h=>by simp only[BT.ev]) q λm s h x z h' v H1 R S r e zr=>?_;obtain ⟨c,rfl,e2⟩:=sZ e;cases e2;exact ⟨c,jD r,zr.here R (.bl _)⟩
theorem FJ {X:Cx}{c a b:BT.E} (σ:L2.St) (H:Hp) (Q:VK) (q:tD X F G (.ite c a b) σ H Q):tIf (tDT X F G c) (tD X F G a) (tD X F G b) σ H Q:=by
 refine FI (k:=λs t h=>if t=UC then BT.ev F G a s h else BT.ev F G b s h) (kk:=λs=>BT.A8 (BT.ev F G a s) (BT.ev F G b s)) (λs h=>by simp only[BT.ev]) (λs x h r e=>Br e) q λm s h t z h' H1 R S e zr=>?_;cases t with
 | true=>rw[if_pos rfl] at e ⊢;exact ⟨m,s,h,z,h',R,S,e,zr⟩| false=>rw[if_neg (by decide)] at e ⊢;exact ⟨m,s,h,z,h',R,S,e,zr⟩
theorem FM {X:Cx}{a:BT.E} (σ:L2.St) (H:Hp) (Q:VK) (q:tD X F G (.neg a) σ H Q):tUn (rU λi=>.int (-i)) (tD X F G a) σ H Q:=by refine nY (k:=λs=>BT.A5) (λs h=>by simp only[BT.ev]) q λm s h x z h' v H1 R S r e zr=>?_;obtain ⟨c,rfl,e2⟩:=Bs e;cases e2;cases r with|p r=>cases r;exact ⟨c,rfl,zr.here R (.int _)⟩
theorem pU (σ:L2.St) (H:Hp) (Q:VK) (q:tD X F G (.chain o o' a b c) σ H Q) :
 qO (rOp X.prog X.w X.K (BT.fT o)) (rOp X.prog X.w X.K (BT.fT o')) (tD X F G a) (tD X F G b) (tD X F G c) σ H Q:=by
 obtain ⟨m,s,h,z,h',R,S,ee,zr⟩:=q;simp only[BT.ev] at ee;obtain ⟨x,h1,e1,e2⟩:=ah ee;simp only[BT.k2] at e2;obtain ⟨y,h2,e3,e4⟩:=ah e2;refine ⟨m,s,h,x,h1,R,S,e1,λv H1 m1 x1 R1 r1=>?_⟩;refine ⟨m1,s,h1,y,h2,R1,S.ext x1,e3,λu H2 m2 x2 R2 r2=>?_⟩;unfold BT.oCh at e4;cases g1:BT.rd x h2 with
 | none=>rw[g1] at e4;cases e4
 | some d =>
  cases y with
  | p d' =>
   rw[g1] at e4;simp only at e4;have ho:∀ (o:BT.Cm) (x':BT.W) (hh:BT.HH) dd,BT.rd x' hh=UA dd->∀ y' dd',BT.rd y' hh=UA dd'->BT.fT o x' y' hh=(BT.dg o dd dd').map λz=>(.p (.bl z),hh):=by
    intro o x' hh dd q1 y' dd' q2;unfold BT.fT;cases y' with
    | k _=>cases q2| c _ _=>cases q2| x _=>cases q2| o _=>cases q2| _=>simp only[q1,q2]
   cases g3:BT.dg o d d' with
   | none=>rw[g3] at e4;cases e4
   | some t =>
    rw[g3] at e4;refine ⟨m2,h2,x,.p d',.p (.bl t),h2,R2,r1.ext x2,r2,by rw[ho o x h2 d g1 (.p d') d' rfl,g3];rfl,λv3 H3 m3 x3 R3 r3=>⟨t,jD r3,?_⟩⟩;cases t with
    | false =>
     rw[if_neg (by decide)];cases e4;exact zr _ H3 m3 ((x1.trans x2).trans x3) R3 (.p (.bl _))
    | true =>
     rw[if_pos rfl];obtain ⟨w3,h3,e5,e6⟩:=ah e4;refine ⟨m3,s,h2,w3,h3,R3,((S.ext x1).ext x2).ext x3,e5,λv4 H4 m4 x4 R4 r4=>?_⟩;unfold BT.IG at e6;cases g4:BT.rd w3 h3 with
     | none=>rw[g4] at e6;cases e6
     | some f =>
      rw[g4] at e6;simp only at e6;refine ⟨m4,h3,.p d',w3,z,h',R4,(r2.ext x3).ext x4,r4,by rw[ho o' (.p d') h3 d' rfl w3 f g4];exact e6,λv5 H5 m5 x5 R5 r5=>zr v5 H5 m5 ((((x1.trans x2).trans x3).trans x4).trans x5) R5 r5⟩
  | _=>rw[g1] at e4;cases e4
theorem FN {lo:BT.Es} (hl:∀ σ H (Q:Option Int->Hp->Prop),(∃ m s h l zs h',RH X.K m H h/\RS X.prog X.w X.K m H σ s/\BT.evs F G lo s h=UA (zs,h')/\(BT.aE zs).bind BT.nF=UA l/\∀ H' m',Ext m H m' H'->RH X.K m' H' h'->Q l H')->tl σ H Q)
 (hh:∀ σ H (Q:Option Int->Hp->Prop),(∃ m s h l zs h',RH X.K m H h/\RS X.prog X.w X.K m H σ s/\BT.evs F G hi s h=UA (zs,h')/\(BT.aE zs).bind BT.nF=UA l/\∀ H' m',Ext m H m' H'->RH X.K m' H' h'->Q l H')->th σ H Q)
 (σ:L2.St) (H:Hp) (Q:VK) (q:tD X F G (.slc a lo hi) σ H Q):tSl (rSl X.prog X.w X.K) (tD X F G a) tl th σ H Q:=by
 obtain ⟨m,s,h,z,h',R,S,ee,zr⟩:=q;simp only[BT.ev] at ee;obtain ⟨x,h1,e1,e2⟩:=ah ee;simp only[BT.IK] at e2;obtain ⟨ls,h2,e3,e4⟩:=ah e2;simp only[BT.IJ] at e4;obtain ⟨us,h3,e5,e6⟩:=ah e4;unfold BT.II at e6;cases g1:BT.rd x h3 with
 | none=>rw[g1] at e6;cases e6
 | some d =>
  cases g2:(BT.aE ls).bind BT.nF with
  | none=>rw[g1,g2] at e6;cases e6
  | some l =>
   cases g3:(BT.aE us).bind BT.nF with
   | none=>rw[g1,g2,g3] at e6;cases e6
   | some u =>
    rw[g1,g2,g3] at e6;simp only at e6;obtain ⟨b,e7,e8⟩:=ay e6;cases e8;refine ⟨m,s,h,x,h1,R,S,e1,λv H1 m1 x1 R1 r1=>hl σ H1 _ ⟨m1,s,h1,l,ls,h2,R1,S.ext x1,e3,g2,λH2 m2 x2 R2=>hh σ H2 _ ⟨m2,s,h2,u,us,h',R2,(S.ext x1).ext x2,e5,g3,λH3 m3 x3 R3=>?_⟩⟩⟩;exact ⟨m3,h',x,d,b,R3,(r1.ext x2).ext x3,g1,e7,λv5 H5 m5 x5 R5 r5=>zr v5 H5 m5 (((x1.trans x2).trans x3).trans x5) R5 r5⟩
end
section
theorem tF (hs:sp=spF X.prog X.w X.K (F (.f f))) (q:tD X F G (.call f as) σ H Q):wZ sp [] E0 (tDs X F G as) σ H Q:=by subst hs;refine i9 (k:=λws h=>F (.f f) ws h) (λs h=>by simp only[BT.ev]) q λm h xs z h' vs H1 R r e zr=>?_;rw[OM];exact ⟨m,xs,h,z,h',R,r,e,zr⟩
theorem gQ (q:tDs X F G .nil σ H Q):wY σ H Q:=by obtain ⟨m,s,h,zs,h',R,S,ee,zr⟩:=q;simp only[BT.evs] at ee;cases ee;exact zr [] H m (.refl _ _) R .nil
theorem yu (O:Ok X F G sc N) (hg:aL sc f=UC) (hn:bU f=UC) (hc:CEs sc N as es) (ha:PA X es (tDs X F G as)) :
 PE X (.Call (.Name f p) es [] pos) (tD X F G (.call f as)):=by
 have hst:=cM hc;intro zt s σ H Q I q;have q0:=q;obtain ⟨m,s',h,z,h',R,S,ee,zr⟩:=q;simp only[BT.ev] at ee;obtain ⟨ws,h1,e1,e2⟩:=ah ee;obtain ⟨fa,fd,ps,k,hm,hk,hb,hr,ok⟩:=O.call _ _ _ _ e2;cases es with
 | nil =>
  cases as with
  | cons a r=>cases hc| nil=>exact (PE.weak (xg ok hr (aW O hg) hm hk hb .nil kM (cZ hn).1) (fun σ H Q z=>gQ (tF (X:=X) rfl z))) zt s σ H Q I q0
 | cons e es =>
  simp only[aq,NY] at hst;exact (PE.weak (AI ok hr (aW O hg) hm hk hb .nil kM ha (cZ hn).1 (ai hst.1) (aH hst.2)) (fun σ H Q z=>tF rfl z)) zt s σ H Q I q0
theorem jE {id:String} (pa:PlainAttrs T) (slot:Slot T name id)
 (hty:typeOf (.builtin id)=pure (.type "method_descriptor")) (hm:MtR X id (rMe X.prog X.w X.K me)) (hb:aD oe=UC) (hl:(apos.endLine==cpos.line)=UC) (hlen:es.length < 20) (ho:PE X oe (tD X F G o)) (hc:CEs sc N as es) (ha:PA X es (tDs X F G as))
 (ty:∀ (m:List Of) (h h2:BT.HH) (H:Hp) (v:V) (x:BT.W) ws r,RH X.K m H h->RW X.prog X.w X.K m H v x->BT.lX x h=UC->BT.meW me x ws h2=UA r->(∃ σ s,RS X.prog X.w X.K m H σ s/\∃ h0,BT.ev F G o s h0=UA (x,h))->tyV X.K T v H) :
 PE X (.Call (.Attribute oe name apos) es [] cpos) (tD X F G (.me me o as)):=by
 have hst:=cM hc;have key:∀ σ H Q,tD X F G (.me me o as) σ H Q->tBM X.K T (rMe X.prog X.w X.K me) (tD X F G o) (tDs X F G as) σ H Q:=by intro σ H Q q;obtain ⟨m,s,h,z,h',R,S,ee,zr⟩:=q;simp only[BT.ev] at ee;obtain ⟨x,h1,e1,e2⟩:=ah ee;obtain ⟨ok,e2⟩:=sW e2;obtain ⟨ws,h2,e3,e4⟩:=ah e2;refine ⟨m,s,h,x,h1,R,S,e1,λv H1 m1 x1 R1 r1=>⟨ty m1 h1 h2 H1 v x ws _ R1 r1 ok e4 ⟨σ,s,S.ext x1,h,e1⟩,m1,s,h1,ws,h2,R1,S.ext x1,e3,λvs H2 m2 x2 R2 r2=>?_⟩⟩;exact ⟨m2,h2,x,ws,z,h',R2,r1.ext x2,r2,e4,λv5 H5 m5 x5 R5 r5=>zr v5 H5 m5 ((x1.trans x2).trans x5) R5 r5⟩
 cases es with
 | nil =>
  cases as with
  | cons a r=>cases hc
  | nil =>
   refine PE.weak (EN pa slot hty hm ho (i7 hb) hl) fun σ H Q q=>?_;obtain ⟨m,s,h,z,h',R,S,ee,zr⟩:=key σ H Q q;exact ⟨m,s,h,z,h',R,S,ee,λv H1 m1 x1 R1 r1=>⟨(zr v H1 m1 x1 R1 r1).1,gQ (zr v H1 m1 x1 R1 r1).2⟩⟩
 | cons e es =>
  simp only[aq,NY] at hst;refine PE.weak (DG pa slot hty hm ho ha (i7 hb) ?_ hl (ai hst.1) (aH hst.2)) key;rw[i8 (es:=e::es) (by simp only[aq,NY];exact hst)];have h30:decide ((e::es).length+([]:List SL).length+(if ([]:List SL).isEmpty then 0 else 1) < 30)=UC:=decide_eq_true (by
   simp only[Oq,O6,List.isEmpty_nil,if_true] at hlen ⊢;lia)
  rw[h30];rfl
theorem jW (q:tD X F G (.bi b mu as) σ H Q):tCB (rBi X.prog X.w X.K b mu) (tDs X F G as) σ H Q:=by refine i9 (k:=λws h=>BT.kBi b mu ws h) (λs h=>by simp only[BT.ev]) q λm h xs z h' vs H1 R r e zr=>?_;exact ⟨m,h,xs,z,h',R,r,e,zr⟩
theorem FO (O:Ok X F G sc N) (hu:b9 N=UC) (hb:DO b mu x=UC) (hg:aL sc x=UC) (hst:aq (e::es)=UC) (ha:PA X (e::es) (tDs X F G as)) :
 PE X (.Call (.Name x p) (e::es) [] pos) (tD X F G (.bi b mu as)):=by
 simp only[aq,NY] at hst;have hx:xT b mu=UA x:=eq_of_beq hb;have hB:=O.blt;cases b<;>cases mu<;>first|(cases hx;done)|(change UA _=UA _ at hx)
 all_goals (cases hx)
 exact PE.weak (fX FD (aW O hg) (hB _ (by decide)) PySem.boot_len ha (by decide) (by decide) (ai hst.1) (aH hst.2)) (fun σ H Q z=>jW z);exact PE.weak (fX FE (aW O hg) (hB _ (by decide)) (by decide +kernel) ha (by decide) (by decide) (ai hst.1) (aH hst.2)) (fun σ H Q z=>jW z);exact PE.weak (gI FG (aW O hg) (hB _ (by decide)) (by decide +kernel) ha (by decide) (by decide) (ai hst.1) (aH hst.2)) (fun σ H Q z=>jW z);exact PE.weak (gI sV (aW O hg) (hB _ (by decide)) (by decide +kernel) ha (by decide) (by decide) (ai hst.1) (aH hst.2)) (fun σ H Q z=>jW z);exact PE.weak (gI sV (aW O hg) (hB _ (by decide)) (by decide +kernel) ha (by decide) (by decide) (ai hst.1) (aH hst.2)) (fun σ H Q z=>jW z);exact PE.weak (gI yj (aW O hg) (hB _ (by decide)) (by decide +kernel) ha (by decide) (by decide) (ai hst.1) (aH hst.2)) (fun σ H Q z=>jW z)
theorem vA (hb:pM b=UA (c,f)):cF X (.builtin "isinstance") (λvs H Q=>∃ v,vs=[v,.ty c]/\rBi X.prog X.w X.K b UD [v] H Q):=by
 intro zt s σ H vs us Q I rus h;obtain ⟨v,rfl,m,h,ws,z,h',R,rws,e,zr⟩:=h;obtain ⟨u,u2,rfl,ru,ru2⟩:=rus.two;cases ru2;obtain ⟨ds,d,e1,e2,⟨_,rfl,rfl⟩|⟨_,q,_⟩⟩:=iC e
 ·have rr:=fH R rws e1;cases rr with
  | cons r t =>
   cases t;rw[yl hb] at e2;cases e2;exact Bm I r ru (ym hb X.K _) λtk=>⟨.bl _,H,I.tok tk,rfl,zr.here R (.bl _)⟩
 cases q
theorem yv (O:Ok X F G sc N) (hb:pM b=UA (c,f)) (hg:aL sc "isinstance"=UC) (hg2:aL sc (Om c)=UC) (hst:noStar e=UC) (ha:PE X e (tD X F G a)) :
 PE X (.Call (.Name "isinstance" p) [e,.Name (Om c) p2] [] pos) (tD X F G (.bi b UD (.cons a .nil))):=by
 have hB:=O.blt;have hc:PE X (.Name (Om c) p2) (tC (.ty c)):=by
  cases b<;>simp only[pM] at hb<;>try contradiction
  all_goals (cases hb)
  exact iM (aW O hg2) (hB _ (by decide)) (u:=.type "int") (by decide +kernel) rfl (by decide) (by decide);exact iM (aW O hg2) (hB _ (by decide)) (u:=.type "bool") (by decide +kernel) rfl (by decide) (by decide);exact iM (aW O hg2) (hB _ (by decide)) (u:=.type "str") (by decide +kernel) rfl (by decide) (by decide);exact iM (aW O hg2) (hB _ (by decide)) (u:=.type "tuple") (by decide +kernel) rfl (by decide) (by decide);exact iM (aW O hg2) (hB _ (by decide)) (u:=.type "list") (by decide +kernel) rfl (by decide) (by decide)
 refine PE.weak (fX (vA hb) (aW O hg) (hB _ (by decide)) (by decide +kernel) (dW ha (dW hc ju) (ai hst)) (by decide) (by decide) (ai hst) rfl) fun σ H Q q=>?_;obtain ⟨m,s,h,z,h',R,S,ee,zr⟩:=q;simp only[BT.ev,BT.evs] at ee;obtain ⟨ws,h1,e1,e2⟩:=ah ee;obtain ⟨x,h2,e3,e4⟩:=ah e1;simp only[BT.kT,BT.aO,BT.ig] at e4;cases e4;refine ⟨m,s,h,x,h1,R,S,e3,λv H1 m1 x1 R1 r1=>?_⟩;exact ⟨v,rfl,m1,h1,[x],z,h',R1,.cons r1 .nil,e2,λv5 H5 m5 x5 R5 r5=>zr v5 H5 m5 (x1.trans x5) R5 r5⟩
theorem FP (σ:L2.St) (H:Hp) (Q:VK) (q:tD X F G (.tup as) σ H Q):Ib (tDs X F G as) σ H Q:=by
 refine i9 (k:=λws h=>BT.E4 ws h) (λs h=>by simp only[BT.ev]) q λm h xs z h' vs H1 R r e zr=>?_;unfold BT.E4 at e;cases g:BT.aE xs with
 | none=>rw[g] at e;cases e
 | some ds =>
  rw[g] at e;simp only at e;split at e
  ·rename_i c;cases e;have rd:=r.pure g;have:=bN;have hl:=rd.length;exact ⟨by lia,λp hp=>iW R hp rd zr⟩
  cases e
theorem FQ (σ:L2.St) (H:Hp) (Q:VK) (q:tD X F G (.lst mu as) σ H Q):Ic (tDs X F G as) σ H Q:=by
 refine i9 (k:=λws h=>BT.E5 mu ws h) (λs h=>by simp only[BT.ev]) q λm h xs z h' vs H1 R r e zr=>?_;unfold BT.E5 at e;cases g:BT.aE xs with
 | none=>rw[g] at e;cases e
 | some ds =>
  rw[g] at e;simp only at e;split at e
  ·rename_i c;have rd:=r.pure g;have:=bN;have hl:=rd.length;have ez:BT.new mu ds h=(z,h'):=Ob e;exact ⟨by lia,λp hp=>iX (mu:=mu) R hp rd (by rw[ez];exact zr)⟩
  cases e
theorem cons_of (σ:L2.St) (H:Hp) (Q:List V->Hp->Prop) (q:tDs X F G (.cons a as) σ H Q):DE (tD X F G a) (tDs X F G as) σ H Q:=by obtain ⟨m,s,h,zs,h',R,S,ee,zr⟩:=q;simp only[BT.evs] at ee;obtain ⟨x,h1,e1,e2⟩:=ah ee;simp only[BT.kT] at e2;obtain ⟨xs,h2,e3,e4⟩:=ah e2;simp only[BT.ig] at e4;cases e4;exact ⟨m,s,h,x,h1,R,S,e1,λv H1 m1 x1 R1 r1=>⟨m1,s,h1,xs,h',R1,S.ext x1,e3,λvs H2 m2 x2 R2 r2=>zr _ H2 m2 (x1.trans x2) R2 (.cons (r1.ext x2) r2)⟩⟩
end
section
variable {K:NV}
theorem RFs.get:∀ {vs:List (Str×V)}{fs:List (Str×BT.W)},RFs K m H vs fs->BT.aU f fs=UA x->∃ v,vs.lookup f=UA v/\RA K m H v x
 | _,_,.nil,e=>by cases e
 | _,_,.cons (f:=g) r t,e=>by
  rw[BT.mS] at e
  by_cases c:f=g
  rw[if_pos c] at e;cases e;subst c;exact ⟨_,by simp,r⟩
  ·rw[if_neg c] at e;obtain ⟨v,h1,h2⟩:=RFs.get t e;exact ⟨v,by rw[OZ];rw[beq_false_of_ne c];exact h1,h2⟩
theorem RFs.none:∀ {vs:List (Str×V)}{fs:List (Str×BT.W)},RFs K m H vs fs->(BT.aU f fs).isNone=UC->vs.lookup f=UB
 | _,_,.nil,_=>rfl
 | _,_,.cons (f:=g) r t,e=>by
  rw[BT.mS] at e
  by_cases c:f=g
  rw[if_pos c] at e;cases e
  ·rw[if_neg c] at e;rw[OZ,beq_false_of_ne c];exact RFs.none t e
theorem RFs.put (q:RA K m H v x):∀ {vs:List (Str×V)}{fs:List (Str×BT.W)},RFs K m H vs fs->RFs K m H (L2.bf f v vs) (BT.bf f x fs)
 | _,_,.nil=>.cons q .nil
 | _,_,.cons (f:=g) r t=>by
  rw[L2.bf,BT.u9]
  by_cases c:f=g
  rw[if_pos c,if_pos c.symm];subst c;exact .cons q t;rw[if_neg c,if_neg (Pb c)];exact .cons r (RFs.put q t)
theorem RFs.length:∀ {vs:List (Str×V)}{fs:List (Str×BT.W)},RFs K m H vs fs->vs.length=fs.length
 | _,_,.nil=>rfl
 | _,_,.cons _ t=>by rw[Oq,Oq,RFs.length t]
end
section
theorem Bv (e:BT.A9 f x h=UA r):∃ n c fs w,x=.o n/\BT.oat h n=UA (c,fs)/\BT.aU f fs=UA w/\r=(w,h):=by
 cases x with
 | o n =>
  rw[BT.E7] at e;cases g:BT.oat h n with
  | none=>rw[g] at e;cases e
  | some q =>
   obtain ⟨c,fs⟩:=q;rw[g] at e;obtain ⟨w,e1,e2⟩:=ay e;exact ⟨n,c,fs,w,rfl,g,e1,e2.symm⟩
 | _=>cases e
theorem Bw {sc:OD}{N:List Str} (hb:aD x=UC) (hf:attrName f=UC) (ha:PE X x (tD X F G a)):PE X (.Attribute x f p) (tD X F G (.fld a f)):=by
 refine PE.weak (EB ha (i7 hb)) fun σ H Q q=>?_;refine DS (k:=BT.A9 f) (λs h=>by simp only[BT.ev]) q λm h x z h' v H1 R r e zr=>?_;obtain ⟨n,c,fs,w,rfl,e1,e2,e3⟩:=Bv e;cases e3;cases r with
 | o hn =>
  obtain ⟨C,dx,vs,h1,h2,h3⟩:=R.mU _ _ _ _ hn e1;obtain ⟨u,l,ra⟩:=h3.get e2;exact ⟨_,C,dx,vs,u,rfl,h1,h2.cls,h2.no f hf,l,zr u H1 m (.refl _ _) R ra.rw⟩
theorem jF (hb:aD o=UC) (hst:aq args=UC) (hlen:args.length < 20) (hl:(apos.endLine==pos.line)=UC) :
 eval (.Call (.Attribute o m apos) args [] pos) env=(do
  let ov ← eval o env
  standAt apos.atName
  let (f,first) ← holding [ov] (Sj ov m (do return (← importBound o env).getD UC))
  callWith pos f first (PU pos (OA args env)) (RK pos (Qz [] env))):=by
 have hf:methodCallForm (args.length+([]:List SL).length) (PU pos (OA args env)) (RK pos (Qz [] env))=UC:=by
  unfold methodCallForm;have h30:decide (args.length+([]:List SL).length+(if (RK pos (Qz [] env)).isEmpty then 0 else 1) < 30)=UC:=decide_eq_true (by
   show args.length+0+0 < 30;lia)
  rw[h30,i8 hst];rfl
 rw[arm_eval_Call,i7 hb];unfold methodCall;rw[hf];have hp:methodCallPos UC o env apos pos=pure pos:=by unfold methodCallPos;rw[hl];rfl
 rw[hp];rfl
theorem yw (e:BT.xD F m ea x h=UA r) :
 ∃ n c fs ws g,x=.o n/\BT.oat h n=UA (c,fs)/\(BT.aU m fs).isNone=UC/\ea h=UA (ws,g)/\F (.m c m) (.o n::ws) g=UA r:=by
 cases x with
 | o n =>
  rw[BT.Ba] at e;cases g:BT.oat h n with
  | none=>rw[g] at e;cases e
  | some q =>
   obtain ⟨c,fs⟩:=q;rw[g] at e;simp only at e;split at e
   ·rename_i c1;obtain ⟨ws,g2,e1,e2⟩:=ah e;exact ⟨n,c,fs,ws,g2,rfl,g,c1,e1,e2⟩
   cases e
 | _=>cases e
theorem yx (O:Ok X F G sc N) (hb:aD oe=UC) (hl:(apos.endLine==cpos.line)=UC) (hlen:es.length < 20) (ho:PE X oe (tD X F G o)) (hc:CEs sc N as es) (ha:PA X es (tDs X F G as)) :
 PE X (.Call (.Attribute oe m apos) es [] cpos) (tD X F G (.meth o m as)):=by
 have hst:=cM hc;intro zt s σ H Q I q;obtain ⟨m0,s',h,z,h',R,S,ee,zr⟩:=q;simp only[BT.ev] at ee;obtain ⟨x,h1,e1,e2⟩:=ah ee;obtain ⟨n,c,fs,ws,g,rfl,e3,e4,e5,e6⟩:=yw e2;obtain ⟨C,ga,fd,ps,k,hC,hM,hB,hR,ok⟩:=O.meth _ _ _ _ _ e6;have key:w6 C m (spF X.prog X.w X.K (F (.m c m))) [] E0 (tD X F G o) (tDs X F G as) σ H Q:=by
  refine ⟨m0,s',h,.o n,h1,R,S,e1,λv H1 m1 x1 R1 r1=>?_⟩;cases r1 with
  | @o a _ hn =>
   obtain ⟨C',dx,vs,q1,q2,q3⟩:=R1.mU _ _ _ _ hn e3;cases q2.cn.inj hC.cn;refine ⟨a,dx,vs,rfl,q1,q3.none e4,m1,s',h1,ws,g,R1,S.ext x1,e5,λus H2 m2 x2 R2 r2=>?_⟩;show spF X.prog X.w X.K (F (.m c m)) (V.ref a::(us++[])) H2 Q E0;rw[OM];exact ⟨m2,.o n::ws,g,z,h',R2,.cons (.o (x2.ix hn)) r2,e6,λv5 H5 m5 x5 R5 r5=>zr v5 H5 m5 ((x1.trans x2).trans x5) R5 r5⟩
 cases es with
 | nil =>
  cases as with
  | cons a r=>cases hc
  | nil =>
   refine xh ho hC.cls hM ok hR hB .nil kM (jF hb hst hlen hl) zt s σ H Q I ?_;obtain ⟨m,s,h,z,h',R,S,ee,zr⟩:=key;refine ⟨m,s,h,z,h',R,S,ee,λv H1 m1 x1 R1 r1=>?_⟩;obtain ⟨a,dx,fs,q1,q2,q3,q4⟩:=zr v H1 m1 x1 R1 r1;exact ⟨a,dx,fs,q1,q2,q3,gQ q4⟩
 | cons e es =>
  have hst':=hst;simp only[aq,NY] at hst';exact AJ ho hC.cls hM ok hR hB .nil kM ha (ai hst'.1) (aH hst'.2) (jF hb hst hlen hl) zt s σ H Q I key
theorem yy (O:Ok X F G sc N) (hg:aL sc c=UC) (hn:bU c=UC) (hc:CEs sc N as es) (ha:PA X es (tDs X F G as)) :
 PE X (.Call (.Name c p) es [] pos) (tD X F G (.make c as)):=by
 have hst:=cM hc;intro zt s σ H Q I q;obtain ⟨m0,s',h,z,h',R,S,ee,zr⟩:=q;simp only[BT.ev] at ee;obtain ⟨ws,h1,e1,e2⟩:=ah ee;rw[BT.xE] at e2;obtain ⟨y,h2,e3,e4⟩:=ah e2;have e5:y=.p .non/\(z,h')=(.o h1.length,h2):=by
  cases y with
  | p d=>cases d<;>simp[BT.sM] at e4;exact ⟨rfl,by rw[e4.1,e4.2]⟩| _=>cases e4
 obtain ⟨rfl,e5⟩:=e5;cases e5;obtain ⟨C,ga,fd,ps,k,hC,hmg,hM,hB,hR,ok⟩:=O.mkc _ _ _ _ e3;have key:w9 C (spF X.prog X.w X.K (F (.m c "__init__"))) [] E0 (tDs X F G as) σ H Q:=by
  refine ⟨m0,s',h,ws,h1,R,S,e1,λus H1 m1 x1 R1 r1 x dx nx ndx ne=>?_⟩;rw[OM];have xa:Ext m1 H1 m1 (upd H1 dx (.own x)):=d9 ndx;have Ra:RH X.K m1 (upd H1 dx (.own x)) h1:=R1.new ndx;have nx':upd H1 dx (.own x) x=UB:=by rw[av (Pb ne)];exact nx
  have xb:Ext m1 (upd H1 dx (.own x)) (m1++[x]) (upd (upd H1 dx (.own x)) x (.ins C dx [])):=gk nx';have Rb:RH X.K (m1++[x]) (upd (upd H1 dx (.own x)) x (.ins C dx [])) (h1++[.o c []]):=Ra.Fo nx' ⟨C,dx,[],aB,hC,.nil⟩;have ix:(m1++[x])[h1.length]?=UA x:=by rw[← R1.len];simp
  refine ⟨m1++[x],.o h1.length::ws,h1++[.o c []],.p .non,h',Rb,.cons (.o ix) (r1.ext (xa.trans xb)),e3,λv H2 m2 x2 R2 r2=>?_⟩;cases r2 with
  | p r2 =>
   cases r2;exact ⟨rfl,zr _ H2 m2 (((x1.trans xa).trans xb).trans x2) R2 (.o (x2.ix ix))⟩
 cases es with
 | nil =>
  cases as with
  | cons a r=>cases hc
  | nil =>
   refine xj hM ok hR (aW O hg) hmg hB .nil kM (cZ hn).1 zt s σ H Q I ?_;exact gQ key
 | cons e es =>
  simp only[aq,NY] at hst;exact AK hM ok hR (aW O hg) hmg hB .nil kM ha (cZ hn).1 (ai hst.1) (aH hst.2) zt s σ H Q I key
def FU (o:BT.Bin):TIp:=λx y H Q=>∃ i j z,x=.int i/\y=.int j/\BT.kO o (.int i) (.int j)=UA (.int z)/\Q (.int z) H
noncomputable def yz:BT.Bin->RN->Bool
 | .add,.Add=>UC| .sub,.Sub=>UC| .mul,.Mult=>UC| _,_=>UD
theorem tG (h:yz o op=UC):PIp X op (FU o):=by
 rintro zt s σ H x y u v Q I rx ry ⟨i,j,z,rfl,rfl,e,q⟩
 obtain ⟨t,rfl⟩:=(show ∃ t,u=Q6 i t from rx);obtain ⟨t',rfl⟩:=(show ∃ t',v=Q6 j t' from ry);cases o<;>cases op<;>cases h;cases e;exact PyProof.Rows.iadd_int ⟨.int (i+j),H,I.tok _,⟨_,rfl⟩,q⟩;cases e;exact PyProof.Rows.isub_int ⟨.int (i - j),H,I.tok _,⟨_,rfl⟩,q⟩
 ·rw[BT.pJ] at e;split at e
  ·rename_i c;cases e;have hc:AB i j:=by
    rcases PP _ _ ▸ c with c|c
    exact .inl (nR c);exact .inr (nR c)
   exact PyProof.Rows.imul_int ⟨.int (i*j),H,I.tok _,⟨_,rfl⟩,q⟩ hc.ok
  cases e
theorem tH (h:BT.kO o d e=UA z):∃ i j k,d=.int i/\e=.int j/\z=.int k:=by
 cases d with
 | int i =>
  cases e with
  | int j =>
   refine ⟨i,j,?_⟩;cases o with
   | add=>exact ⟨_,rfl,rfl,(Ob h).symm⟩| sub=>exact ⟨_,rfl,rfl,(Ob h).symm⟩
   | mul =>
    rw[BT.pJ] at h;split at h;exact ⟨_,rfl,rfl,(Ob h).symm⟩;cases h
   | _=>exact aA h
  | _=>cases o<;>exact aA h
 | _=>cases o<;>exact aA h
end
section
variable {K:NV}
end
theorem jG (r:ao vs us):∀ l:List Nat,ao (l.filterMap λi=>vs[i]?) (l.filterMap λi=>us[i]?)
 | []=>.nil
 | i::l=>by
  rw[OE,OE];cases g:vs[i]? with
  | none =>
   have:us[i]?=UB:=by have h:=r.length;rw[SR] at g ⊢;lia
   rw[this];exact jG r l
  | some d =>
   obtain ⟨v,e,q⟩:=r.get g;rw[e];exact .cons q (jG r l)
noncomputable def pV (k:Int) (xs:List V):List V:=(RJ (OF UB UB (UA k) xs.length).1 (OF UB UB (UA k) xs.length).2.1 (OF UB UB (UA k) xs.length).2.2).filterMap λi=>xs[i]?
section
theorem FW (hk:k≠0) (he:PE X e te) (hs:PE X se (tC (.int k))) :
 PE X (.Subscript e (.Slice UB UB (UA se) p2) pos) (fun σ H Q=>te σ H λx H1=>∃ a xs,x=.ref a/\SqL X.K H1 a xs/\∀ p,H1 p=UB->Q (.ref p) (upd H1 p (.lst (pV k xs)))):=by
 intro zt s σ H Q I h;refine Subscript_ (thn (he zt s σ H _ I h) λv s1 zq=>?_);obtain ⟨x,H1,I1,r1,a,xs,ex,hx,q⟩:=zq;subst ex;cases r1;refine wpAny_Slice ?_;rw[Uq];refine wpAny_pure (wpAny_pure ?_);rw[evalPart_some];refine thn (hs zt s1 σ H1 (λv H'=>v=.int k/\H'=H1) I1 ⟨rfl,rfl⟩) λvs s3 zq=>?_;obtain ⟨y,H3,I3,r3,hy,hh⟩:=zq;subst hy hh;obtain ⟨t,rfl⟩:=r3;have I4:Inv X zt σ H3 { s3 with heap:=s3.heap.push { cls:=.type "slice",data:=.fields #[.none,.none,.int k t] } }:=I3.kept (t':=s3.toks) λb ob q=>NW _ q;obtain ⟨its,rv,p,hz⟩:=I4.list hx;have hg:wpAny (Ow X.prog X.w) X.A (Sz (.ref a) (.ref s3.heap.objs.size)) (EP X zt σ Q) X.xe { s3 with heap:=s3.heap.push { cls:=.type "slice",data:=.fields #[.none,.none,.int k t] } }:=by
  have hlen:=rv.length;refine TZ p.isList (Sq ..) .none .none (.int k t) (by intro z;exact hk (Ob z)) ?_ (by rw[N2];lia);have hp:slicePick its.toArray UB UB (UA k)=((RJ (OF UB UB (UA k) xs.length).1 (OF UB UB (UA k) xs.length).2.1 (OF UB UB (UA k) xs.length).2.2).filterMap λi=>its[i]?).toArray:=by unfold slicePick;rw[N2,← hlen];simp
  rw[hp];have hq:=jG rv (RJ (OF UB UB (UA k) xs.length).1 (OF UB UB (UA k) xs.length).2.1 (OF UB UB (UA k) xs.length).2.2);have hz':(pV k xs).length<=xs.length:=by have:=slicePick_size_le its.toArray UB UB (UA k);rw[hp,N2,N2] at this;have e:=hq.length;unfold pV;lia
  refine ⟨.ref (s3.heap.push { cls:=.type "slice",data:=.fields #[.none,.none,.int k t] }).objs.size,_,I4.laid (t':=s3.toks) (o:=.lst (pV k xs)) (λb ob q=>NW _ q) (N3 _) ?_,rfl,q _ (I4.hok.fresh (N3 _))⟩;exact ⟨by lia,_,0,hq,N8 _ rfl⟩
 show wpAny (Ow X.prog X.w) X.A (Um e (.Slice UB UB (UA se) p2) (.ref a) (.ref s3.heap.objs.size)) (EP X zt σ Q) X.xe { s3 with heap:=s3.heap.push { cls:=.type "slice",data:=.fields #[.none,.none,.int k t] } };exact Ul (ops:=[.ref a,.ref s3.heap.objs.size]) p.isList.typeIs slot_list_getitem.lookup hg (by with_unfolding_all rfl)
theorem tK (h:(Be e).bind cInt=UA k):∃ a b,e=.Constant (.int k) a b:=by
 cases e with
 | Constant c a b =>
  cases c with
  | int j=>cases h;exact ⟨a,b,rfl⟩| _=>exact absurd (show (UB:Option Int)=UA _ from h) (λz=>nomatch z)
 | _=>exact absurd (show (UB:Option Int)=UA _ from h) (λz=>nomatch z)
theorem yC (h:nN k e=UC):(∃ a b,e=.Constant (.int k) a b/\0 < k)\/∃ j a b p,e=.UnaryOp .USub (.Constant (.int j) a b) p/\k=-j/\0 < j:=by
 unfold nN at h;rw[PP,NY,NY,decide_eq_true_eq,decide_eq_true_eq] at h;rcases h with ⟨h1,h2⟩|⟨h1,h2⟩
 ·obtain ⟨a,b,e1⟩:=tK (eq_of_beq h1);exact .inl ⟨a,b,e1,h2⟩
 ·have h1:=eq_of_beq h1;cases e with
  | UnaryOp o e p =>
   by_cases c:o=.USub
   ·subst c;have h3:(Be e).bind cInt=UA (-k):=h1;obtain ⟨a,b,rfl⟩:=tK h3;exact .inr ⟨-k,a,b,p,rfl,by lia,by lia⟩
   ·have:unE (.UnaryOp o e p)=UB:=if_neg c;rw[this] at h1;cases h1
  | _=>exact absurd (show (UB:Option Int)=UA _ from h1) (λz=>nomatch z)
theorem Bx (hk:nN k se=UC) (ha:PE X x (tD X F G a)):PE X (.Subscript x (.Slice UB UB (UA se) p2) p) (tD X F G (.stp mu k a)):=by
 have hs:k≠0/\PE X se (tC (.int k)):=by
  rcases yC hk with ⟨a,b,rfl,h⟩|⟨j,a,b,p,rfl,rfl,h⟩
  exact ⟨by lia,qK⟩;exact ⟨by lia,PE.weak (DB wN qK) fun σ H Q q=>⟨_,rfl,q⟩⟩
 refine PE.weak (FW hs.1 ha hs.2) fun σ H Q q=>?_;refine DS (k:=BT.E6 mu k) (λs h=>by simp only[BT.ev]) q λm h x z h' v H1 R r e zr=>?_;unfold BT.E6 at e;cases g:BT.rd x h with
 | none=>rw[g] at e;cases e
 | some d =>
  rw[g] at e;cases d with
  | lst xs =>
   simp only at e;have r1:=aC R r g;obtain ⟨a,vs,rfl,hl,rr⟩:=r1.lst;have ez:BT.new mu (BT.pL k xs) h=(z,h'):=Ob e;refine ⟨a,vs,rfl,hl.sq,λp hp=>iX (mu:=mu) R hp ?_ (by rw[ez];exact zr)⟩;unfold pV BT.pL;rw[rr.length];exact RDs.pick rr _
  | _=>cases e
theorem yD {X:Cx}{b:BT.Bi}{g:Int->Int->Int} (hb:∀ ds d,BT.biD b ds=UA d->∃ i j,ds=[.int i,.int j]/\d=.int (g i j)) {id:String} (hc:cF X (.builtin id) (λxs H Q=>∃ i j,xs=[.int i,.int j]/\Q (.int (g i j)) H)):cF X (.builtin id) (rBi X.prog X.w X.K b UD):=by
 intro zt s σ H vs us Q I rus h;obtain ⟨m,h,ws,z,h',R,rws,e,zr⟩:=h;obtain ⟨ds,d,e1,e2,⟨_,rfl,rfl⟩|⟨_,q,_⟩⟩:=iC e
 ·have rr:=fH R rws e1;obtain ⟨i,j,rfl,rfl⟩:=hb _ _ e2;cases rr with
  | cons r t =>
   cases t with
   | cons r' t' =>
    cases t';cases r.int;cases r'.int;exact hc zt s σ H _ us Q I rus ⟨i,j,rfl,zr.here R (.int _)⟩
 cases q
theorem By {X:Cx}{sc:OD}{N:List Str} (O:Ok X F G sc N) (hu:b9 N=UC) {b:BT.Bi}{as:BT.Es}{x:Str}{e:NX}{es:List NX}{p pos:Pos} (hb:xU b x=UC) (hg:aL sc x=UC) (hst:aq (e::es)=UC) (ha:PA X (e::es) (tDs X F G as)) :
 PE X (.Call (.Name x p) (e::es) [] pos) (tD X F G (.bi b UD as)):=by
 simp only[aq,NY] at hst;have hB:=O.blt;cases b<;>first|(cases hb;done)|(replace hb:=eq_of_beq hb)
 ·subst hb;refine PE.weak (fX (yD (b:=.min2) (g:=λi j=>if j < i then j else i) (λds d h=>?_) (uM (O.calm hu))) (aW O hg) (hB _ (by decide +kernel)) (by decide +kernel) ha (by decide) (by decide) (ai hst.1) (aH hst.2)) (fun σ H Q z=>jW z)
  match ds,h with
  | [.int i,.int j],h=>exact ⟨i,j,rfl,(Ob h).symm⟩
 ·subst hb;refine PE.weak (fX (yD (b:=.max2) (g:=λi j=>if j > i then j else i) (λds d h=>?_) (uL (O.calm hu))) (aW O hg) (hB _ (by decide +kernel)) (by decide +kernel) ha (by decide) (by decide) (ai hst.1) (aH hst.2)) (fun σ H Q z=>jW z)
  match ds,h with
  | [.int i,.int j],h=>exact ⟨i,j,rfl,(Ob h).symm⟩
end
section
variable {K:NV}
def kY (H H':Hp):Prop:=(∀ a vs,Rd H a (.tup vs)->Rd H' a (.tup vs))/\∀ a vs,Rd H a (.lst vs)->Rd H' a (.lst vs)
mutual
theorem RD.tr (q:kY H H'):∀ {v:V}{d:BT.D},RD K m H v d->RD K m H' v d
 | _,_,.non=>.non| _,_,.bl b=>.bl b| _,_,.int i=>.int i| _,_,.str y h=>.str y h| _,_,.tup h r=>.tup (h.elim (λz=>.inl ⟨q.1 _ _ z.1,z.2⟩) .inr) (RDs.tr q r)| _,_,.lst h r=>.lst (h.elim (λz=>.inl ⟨q.2 _ _ z.1,z.2⟩) .inr) (RDs.tr q r)
theorem RDs.tr (q:kY H H'):∀ {vs:List V}{ds:List BT.D},RDs K m H vs ds->RDs K m H' vs ds
 | _,_,.nil=>.nil| _,_,.cons r t=>.cons (RD.tr q r) (RDs.tr q t)
end
theorem RA.tr (q:kY H H') (r:RA K m H v x):RA K m H' v x:=by
 cases r with
 | p r=>exact .p (r.tr q)| r h=>exact .r h| o h=>exact .o h
theorem RFs.tr (q:kY H H') (r:RFs K m H vs fs):RFs K m H' vs fs:=by
 induction r with
 | nil=>exact .nil| cons r t ih=>exact .cons (r.tr q) ih
theorem RCs.tr (q:kY H H') (r:RCs K m H vs cs):RCs K m H' vs cs:=by
 induction r with
 | nil=>exact .nil| cons r t ih=>exact .cons (r.tr q) ih
theorem RWs.tr (q:kY H H') (r:RWs P w K m H vs ws) (n:BT.noC ws=UC):RWs P w K m H' vs ws:=by
 induction r with
 | nil=>exact .nil
 | cons r t ih =>
  cases r with
  | p r=>exact .cons (.p (r.tr q)) (ih n)| r h=>exact .cons (.r h) (ih n)| o h=>exact .cons (.o h) (ih n)| _=>cases n
theorem RCs.ws (r:RCs K m H vs cs):RWs P w K m H vs (cs.map BT.Cp.w):=by
 induction r with
 | nil=>exact .nil| cons r t ih=>exact .cons r.rw ih
theorem RWs.app (r:RWs P w K m H vs ws) (t:RWs P w K m H us zs):RWs P w K m H (vs++us) (ws++zs):=by
 induction r with
 | nil=>exact t| cons r _ ih=>exact .cons r ih
theorem RKs.tr (q:kY H H') (r:RKs K m H vs kvs):RKs K m H' vs kvs:=by
 induction r with
 | nil=>exact .nil| cons hk r t ih=>exact .cons (hk.tr q) (r.tr q) ih
theorem RH.tr (R:RH K m H h) (q:kY H H') (k:∀ a∈m,H' a=H a) (tb:TB K H'):RH K m H' h:=by
 refine ⟨R.nd,R.len,λi a c e1 e2=>?_,tb⟩;have z:=R.cl i a c e1 e2;have e:=k a (N9 e1);cases c with
 | o c fs=>obtain ⟨C,dx,vs,h1,h2,h3⟩:=z;exact ⟨C,dx,vs,e.trans h1,h2,h3.tr q⟩| _=>obtain ⟨vs,h1,h2⟩:=z;exact ⟨vs,e.trans h1,h2.tr q⟩
theorem Le.sq (q:Le H H'):kY H H':=⟨λa vs r=>r.elim (λz=>.inl (q _ _ z)) λ⟨o,z⟩=>.inr ⟨o,q _ _ z⟩,λa vs r=>r.elim (λz=>.inl (q _ _ z)) λ⟨o,z⟩=>.inr ⟨o,q _ _ z⟩⟩
theorem RH.le (R:RH K m H h) (q:Le H H'):RH K m H' h:=R.tr q.sq (λa ha=>by obtain ⟨o,e,_⟩:=R.mu ha;rw[e];exact q _ _ e) (q.tb R.tb)
theorem fU.le (q:Le H H') (r:fU m H cl xs vs):fU m H' cl xs vs:=by
 induction r with
 | nil=>exact .nil| cons h1 h2 h3 r t ih=>exact .cons h1 ⟨q _ _ h2.1,h2.2⟩ h3 r ih
theorem fS.le (q:Le H H') (h:fS m H f L vs):fS m H' f L vs:=by obtain ⟨bt,ps,fs,pa,be,sc,cl,pm,ctv,c',oc,os,t,ql,h0,h1,h2,h3,h4,h5,h6,h7,h8,h9,h10⟩:=h;exact ⟨bt,ps,fs,pa,be,sc,cl,pm,ctv,c',oc,os,t,ql,h0,h1,h2,h3,h4,h5,⟨q _ _ h6.1,h6.2⟩,⟨q _ _ h7.1,h7.2⟩,h8,h9,h10.le q⟩
theorem RW.le (q:Le H H') {v:V}{x:BT.W} (r:RW P w K m H v x):RW P w K m H' v x:=by
 cases r with
 | p r=>exact .p (r.tr q.sq)| r h=>exact .r h| k h r=>exact .k h r| kl h r=>exact .kl ⟨q _ _ h.1,h.2⟩ (r.tr q.sq)| o h=>exact .o h| c h r=>exact .c (h.le q) (r.tr q.sq)| x h n xt=>exact .x (q _ _ h) n xt| g h r=>exact .g h r
end
def bV (cl:List (Str×Of)) (H:Hp):Prop:=∀ x c,cl.lookup x=UA c->∃ o u,H c=UA (.frz o (.own 0))/\o.data=.cell u
open Classical in
noncomputable def hid (cl:List (Str×Of)) (H:Hp):Hp:=λb=>if ∃ x,cl.lookup x=UA b then UB else H b
open Classical in
noncomputable def ret (cl:List (Str×Of)) (H0 H:Hp):Hp:=λb=>if ∃ x,cl.lookup x=UA b then H0 b else H b
section
theorem rK (e:cl.lookup x=UA b):hid cl H b=UB:=if_pos ⟨x,e⟩
theorem cS (e:¬ ∃ x,cl.lookup x=UA b):hid cl H b=H b:=if_neg e
theorem dM (e:H b=UB):hid cl H b=UB:=by unfold hid;split<;>first|rfl|exact e
theorem nZ (e:cl.lookup x=UA b):ret cl H H' b=H b:=if_pos ⟨x,e⟩
theorem eg (e:¬ ∃ x,cl.lookup x=UA b):ret cl H H' b=H' b:=if_neg e
theorem FY (e:hid cl H b=UA u):H b=UA u/\¬ ∃ x,cl.lookup x=UA b:=by unfold hid at e;split at e;cases e;rename_i c;exact ⟨e,c⟩
noncomputable def kh:HO->Bool
 | .frz o (.own _)=>match o.data with | .cell _=>UC|_=>UD
 | _=>UD
theorem bV.out (C:bV cl H) (e:H b=UA u) (n:kh u=UD):¬ ∃ x,cl.lookup x=UA b:=λ⟨x,q⟩=>by obtain ⟨o,v,h1,h2⟩:=C x b q;rw[e] at h1;cases h1;simp[kh,h2] at n
theorem bV.hid (C:bV cl H) (e:H b=UA u) (n:kh u=UD):BS.hid cl H b=UA u:=by rw[cS (C.out e n)];exact e
theorem bV.sq (C:bV cl H):kY H (BS.hid cl H):=⟨λa vs r=>r.elim (λz=>.inl (C.hid z rfl)) λ⟨o,z⟩=>.inr ⟨o,C.hid z rfl⟩,λa vs r=>r.elim (λz=>.inl (C.hid z rfl)) λ⟨o,z⟩=>.inr ⟨o,C.hid z rfl⟩⟩
theorem bV.tb (C:bV cl H) (t:TB K H):TB K (BS.hid cl H):=t.mono (λP ps e=>C.hid e rfl) λa o vs d e=>C.hid e (by simp[kh,d])
theorem bV.rh (C:bV cl H) (R:RH K m H h):RH K m (BS.hid cl H) h:=R.tr C.sq (λa ha=>by obtain ⟨o,e,z⟩:=R.mu ha;rw[e];exact C.hid e (by cases o<;>first|rfl|cases z)) (C.tb R.tb)
theorem FZ (N:∀ x c,cl.lookup x=UA c->H' c=UB):Le H' (ret cl H H'):=λa u e=>by rw[eg (λ⟨x,q⟩=>by rw[N x a q] at e;cases e)];exact e
theorem bV.F3 (C:bV cl H) (N:∀ x c,cl.lookup x=UA c->H' c=UB) (x:Ext m (BS.hid cl H) m' H') (R:RH K m' H' h'):Ext m H m' (ret cl H H'):=by
 obtain ⟨e,hm,he⟩:=x.pre;refine ⟨⟨e,hm,λa ha=>?_⟩,λa o h n t=>?_,λa h=>?_⟩
 ·have z:=he a ha;have hne:¬ ∃ y,cl.lookup y=UA a:=λ⟨y,q⟩=>by obtain ⟨o,e1,_⟩:=R.mu (a:=a) (by rw[hm];exact Oz _ ha);rw[N y a q] at e1;cases e1
  rw[cS hne] at z;exact z
 ·by_cases c:∃ y,cl.lookup y=UA a
  obtain ⟨y,q⟩:=c;rw[nZ q];exact h;rw[eg c];exact x.keep a o (by rw[cS c];exact h) n t
 ·by_cases c:∃ y,cl.lookup y=UA a
  obtain ⟨y,q⟩:=c;rw[nZ q] at h;exact h;rw[eg c] at h;have z:=x.live a h;rw[cS c] at z;exact z
end
theorem fU.get (r:fU m H cl fs vs):∀ {i:Nat}{x:Str},fs[i]?=UA x->∃ c o u v,cl.lookup x=UA c/\Tr m H c o/\o.data=.cell (UA u)/\vs[i]?=UA v/\RelV v u:=by
 induction r with
 | nil=>intro i x e;simp at e
 | cons h1 h2 h3 r t ih =>
  intro i x e;cases i with
  | zero=>simp at e;subst e;exact ⟨_,_,_,_,h1,h2,h3,rfl,r⟩| succ i=>simpa using ih (by simpa using e)
theorem fU.len (r:fU m H cl fs vs):vs.length=fs.length:=by
 induction r with
 | nil=>rfl| cons h1 h2 h3 r t ih=>simp[ih]
theorem fU.cells (r:fU m H cl fs vs) (hf:∀ x c,cl.lookup x=UA c->x∈fs):bV cl H:=λx c e=>by obtain ⟨i,hi⟩:=OT (hf x c e);obtain ⟨c',o,u,v,h1,h2,h3,_⟩:=r.get hi;rw[e] at h1;cases h1;exact ⟨o,_,h2.1,h3⟩
theorem BA (hp:LPa pa ps) (hl:us.length=ps.length):S9 (PySem.W.kla_fn name q pa be sc cl pm cdv ctv) ⟨us,[]⟩=pure (ps.zip us):=by
 cases hp with
 | one=>match us,hl with | [_],_=>rfl
 | two=>match us,hl with | [_,_],_=>rfl
theorem F4 (hp:LPa pa ps) (nd:ps.Nodup) (hl:us.length=ps.length) {i:Nat} (e:ps[i]?=UA x):∃ u,us[i]?=UA u/\(ps.zip us).reverse.lookup x=UA u:=by
 cases hp with
 | one =>
  match us,hl,i,e with
  | [u],_,0,e=>simp at e;subst e;exact ⟨u,rfl,by simp⟩| [u],_,i+1,e=>simp at e
 | two =>
  match us,hl,i,e with
  | [u,v],_,0,e =>
   simp at e;subst e;simp at nd;exact ⟨u,rfl,by simp[OZ,beq_false_of_ne nd]⟩
  | [u,v],_,1,e=>simp at e;subst e;exact ⟨v,rfl,by simp⟩| [u,v],_,i+2,e=>simp at e
structure LF (ps fs:List Str) (sc:OD):Prop where
 kd:sc.kind=.function
 co:sc.isCoroutine=UD
 ge:sc.isGenerator=UD
 cell:∀ y∈sc.names,y.2≠.cell
 loc:∀ x∈ps,sc.names.lookup x=UA .local
 fre:∀ x∈fs,sc.names.lookup x=UA .free/\(x,OU)∈sc.names
 all:∀ y∈sc.names,y.2=.free->y.1∈fs
 nd:(ps++fs).Nodup
theorem kZ:∀ {l:List Str},iz l=UC->l.Nodup
 | [],_=>SQ
 | x::r,h=>by simp only[iz,NY,Qm] at h;refine List.nodup_cons.mpr ⟨λz=>?_,kZ h.2⟩;have:=h.1;simp[z] at this
theorem Jq (h:kU ps fs sc=UC):LF ps fs sc:=by
 simp only[kU,NY,Qm] at h;obtain ⟨⟨⟨⟨⟨⟨⟨h1,h2⟩,h3⟩,h4⟩,h5⟩,h6⟩,h7⟩,h8⟩:=h;rw[O8] at h4 h5 h6 h7;refine ⟨eq_of_beq h1,h2,h3,λy hy e=>?_,λx hx=>eq_of_beq (h5 x hx),λx hx=>?_,λy hy e=>?_,kZ h8⟩;have:=h4 y hy;rw[e] at this;cases this
 ·have:=h6 x hx;simp only[NY] at this;exact ⟨eq_of_beq this.1,by simpa using this.2⟩
 ·have:=h7 y hy;rw[e] at this;simpa using this
noncomputable def yE (P:Ot) (w:OR) (K:NV) (mg:Str->Option N1) (base:Heap) (N:List Str) (q:Str) (sc:OD) (cl:List (Str×Of)) (f c':Of) (A:PK) (outer:List Env) (s:N4) (H:Hp):Cx where
 prog:=P
 w:=w
 K:=K
 mg:=mg
 base:=base
 A:=A.deeper (QF q sc s.heap.objs.size f (.ref c') cl)
 N:=N
 s₀:=s
 H₀:=hid cl H
 env:=QF q sc s.heap.objs.size f (.ref c') cl
 outer:=outer
 stack:=QF q sc s.heap.objs.size f (.ref c') cl::outer
 ex:=[]
 calm:=UC
 fn:=λ_=>UD
 pn:=[]
 xe:=λ_ _=>False
theorem tL (C:bV cl H) (ok:HOk P w H h) (k:∀ b o,h.get? b=UA o->h1.get? b=UA o):HOk P w (hid cl H) h1:=λb u e=>by obtain ⟨e1,_⟩:=FY e;exact (ok b u e1).stay (λc o _ q=>k c o q) (λc q=>C.hid q rfl) λc xs q=>C.hid q rfl
theorem BB 
 (hp:LPa pa ps) (F:LF ps fs sc) (inj:∀ x y c,cl.lookup x=UA c->cl.lookup y=UA c->x=y) (hfs:∀ x c,cl.lookup x=UA c->x∈fs) (cp:fU m H cl fs cvs) (hd:A.handled=UB) (e0:kI P w K mg base A outer s H) (r:ao vs us) (hl:us.length=ps.length)
 (hns:h1.Ns s.heap.objs.size (λy=>(ps.zip us).reverse.lookup y)) (hk1:∀ b o,s.heap.get? b=UA o->h1.get? b=UA o) :
 Inv (yE P w K mg base (ps++fs) q sc cl f c' A outer s H) [] (vs.map UA++cvs.map UA) (hid cl H) { s with heap:=h1,toks:=tk }:=by
 have C:=cp.cells hfs;have lv:vs.length=ps.length:=r.length.trans hl;have lc:=cp.len;have noA:∀ b:Of,b∉(yE P w K mg base (ps++fs) q sc cl f c' A outer s H).ex:=λb z=>absurd (show b∈([]:List Of) from z) (by simp);have cel:∀ x c,cl.lookup x=UA c->∃ u,s.heap.IsCell c (UA u):=λx c e=>by obtain ⟨i,hi⟩:=OT (hfs x c e);obtain ⟨c2,o,u,v,g1,g2,g3,_⟩:=cp.get hi;rw[e] at g1;cases g1;exact ⟨u,o,(e0.hok _ _ g2.1).1,g3⟩
 refine ⟨⟨e0.mod,F.kd,rfl,rfl,N3 _,inj,λx hx=>?_,λx c z=>absurd (show UD=UC from z) (by decide),λ_=>hd,TH e0.frames,.inr ⟨rfl,rfl⟩,λb z=>absurd z (noA b),λb o e=>⟨(e0.bs b o e).1,dM (e0.bs b o e).2⟩,e0.bsz,λb _ _=>noA b,λb z=>absurd z (noA b),e0.g9,λb hb=>dM (e0.frf b hb)⟩,
  rfl,e0.bare,Un.kept hk1,⟨_,hns,λi x v g1 g2 g3=>?_⟩,λx c e=>?_,dM (e0.hok.fresh (N3 _)),λx c e=>rK e,λp hp=>absurd (show p∈([]:List (Of×Obj)) from hp) (by simp),tL C e0.hok hk1,?_⟩
 ·have hx:sc.names.lookup x=UA .cell\/sc.names.lookup x=UA .free:=hx;rcases hx with hx|hx
  exact absurd rfl (F.cell _ (Pc hx))
  ·obtain ⟨i,hi⟩:=OT (F.all _ (Pc hx) rfl);obtain ⟨c,_,_,_,g1,_⟩:=cp.get hi;exact ⟨c,g1⟩
 ·have g1:(ps++fs)[i]?=UA x:=g1
  by_cases c:i < ps.length
  ·rw[N5 c] at g1;rw[N5 (by simpa [lv] using c),Ox] at g2;obtain ⟨u,g4,g5⟩:=F4 hp (F.nd.sublist (List.sublist_append_left _ _)) hl g1;obtain ⟨v',g6,g7⟩:=Option.map_eq_some_iff.mp g2;cases g7;obtain ⟨u',g8,rv⟩:=r.get g6;rw[g4] at g8;cases g8;exact ⟨u,rv,.inl ⟨F.loc x (N9 g1),g5⟩⟩
  ·rw[Ol (by lia)] at g1;rw[Ol (by simp[lv];lia),Ox] at g2;simp only[Oh,lv] at g2;obtain ⟨c2,o,u,v2,k1,k2,k3,k4,k5⟩:=cp.get g1;rw[k4] at g2;cases g2;exact ⟨u,k5,.inr ⟨.inr (F.fre x (N9 g1)).1,c2,k1,o,hk1 _ _ (e0.hok _ _ k2.1).1,k3⟩⟩
 ·obtain ⟨u,o,z1,z2⟩:=cel x c e;exact ⟨UA u,o,hk1 _ _ z1,z2⟩
 ·show _=(ps++fs).length;simp[lv,lc]
section
theorem vB (e:BT.nI F o ws h=UA r):∃ k cs,o=UA (UA (.c k cs))/\BT.noC ws=UC/\F k (ws++cs.map BT.Cp.w) h=UA r:=by
 unfold BT.nI at e;split at e
 ·rename_i k cs;split at e;rename_i c;exact ⟨k,cs,rfl,c,e⟩;cases e
 cases e
theorem fS.fnAt (l:fS m H f L vs) (ok:HOk P w H h):PySem.W.FnAt f h:=by obtain ⟨bt,ps,fs,pa,be,sc,cl,pm,ctv,c',oc,os,t,ql,h0,h1,h2,h3,h4,h5,h6,_⟩:=l;exact ⟨_,_,_,_,(ok _ _ h6.1).1⟩
theorem Post.ext (p:Post P w K m H z h' Q) (x:Ext m H m' H'):Post P w K m' H' z h' Q:=λv H2 m2 y R r=>p v H2 m2 (x.trans y) R r
theorem yF (O:Ok X F G sc N) (h1:N[i]?=UA x) (h2:jU sc x=UC) (h3:bU x=UC) (hc:CEs sc N as (e::es)) (ha:PA X (e::es) (tDs X F G as)) :
 PE X (.Call (.Name x np) (e::es) [] pos) (tD X F G (.callv i as)):=by
 have hst:=cM hc;simp only[aq,NY] at hst;intro zt s σ H Q I q;obtain ⟨m,s',h,z,h',R,S,ee,zr⟩:=q;simp only[BT.ev] at ee;obtain ⟨ws,g,e1,e2⟩:=ah ee;obtain ⟨k,cs,k1,k2,k3⟩:=vB e2;obtain ⟨v,hv,rv⟩:=S.get i _ k1;obtain ⟨d1,d2,_⟩:=cZ h3;refine Pp ?_;refine thn (wA (i:=i) (by rw[O.hN];exact h1) (yp O h2) d1 d2 zt s σ H (λv2 H2=>v2=v/\H2=H) I ⟨v,hv,rfl,rfl⟩) λu s1 zq=>?_;obtain ⟨v2,H2,I2,r2,ev,eh⟩:=zq;subst ev eh;have hA:tDs X F G as σ H2 (λvs2 H3=>∃ m3,Ext m H2 m3 H3/\RH X.K m3 H3 g/\RWs X.prog X.w X.K m3 H3 vs2 ws):=⟨m,s',h,ws,g,R,S,e1,λvs2 H3 m3 x3 R3 r3=>⟨m3,x3,R3,r3⟩⟩;cases rv with
 | @c f L cvs _ hL rc =>
  obtain rfl:u=.ref f:=r2;refine PySem.W.callWith_F (hL.fnAt I2.hok) (thn (ha pos zt s1 σ H2 _ I2 hA) λus s2 ⟨vs2,H3,I3,r3,m3,x3,R3,w3⟩=>⟨(hL.ext x3).fnAt I3.hok,?_⟩) (ai hst.1) (aH hst.2);obtain ⟨k,hr,lo⟩:=O.lam _ _ _ _ k3;refine T5 (codeAny_mono (lo X.A X.stack s2 H3 f us vs2 cvs m3 ws cs g z h' Q E0 hr I3.EG r3 R3 w3 k2 (hL.ext x3) (rc.ext x3) k3 (zr.ext x3)) λr s' hq=>?_);cases r with
  | error e=>exact ON hq
  | ok fl =>
   cases fl with
   | ret u=>exact I3.after hq| _=>exact ON hq
 | @g f x' hn hk =>
  obtain rfl:u=.ref f:=r2;have k3':F (.f x') ws g=UA (z,h'):=by simpa using k3
  obtain ⟨fa,fd,ps,k,hm,_,hb,hr,ok⟩:=O.call _ _ _ _ k3';have hm':=Pr I2.ok.mod.kin I2.ok.mod.glob hn;rw[hm] at hm';cases hm';refine P6 (h₀:=X.base) I2.ok.mod.kin hk (thn (ha pos zt s1 σ H2 _ I2 hA) λus s2 ⟨vs2,H3,I3,r3,m3,x3,R3,w3⟩=>⟨I3.kIn,?_⟩) (ai hst.1) (aH hst.2);refine kJ (E:=E0) ok hr hb .nil kM I3 r3 ?_;rw[OM];exact ⟨m3,ws,g,z,h',R3,w3,k3',zr.ext x3⟩
end
section
open PySem.W PySem.Calls PySem.Builtin PySem.Builtin.ObjectAttr PySem.Builtin.Getset_descriptor
variable {E:N1->N4->Prop}{K:NV}
end
section
end
section
variable {X:Cx}
theorem vC (hu:X.A.units+150 < cLine):MtR X "list.index" (rMe X.prog X.w X.K .lindex):=by
 intro zt s σ H v vs v' us Q I rv rus h;obtain ⟨m,h,x,ws,z,h',R,rx,rws,e,zr⟩:=h;cases x with
 | r n=>cases ws with
  | _=>(first|(cases e;done)|simp[BT.meW] at e)
 | p d =>
  rw[BT.rA] at e;cases g:BT.aE ws with
  | none=>rw[g] at e;cases e
  | some ds =>
   rw[g] at e;obtain ⟨b,e1,e2⟩:=ay e;cases e2;have rds:=rws.pure g;cases d<;>first|exact aA e1|skip
   rename_i xs;cases ds with
   | nil=>exact aA e1
   | cons d0 dr =>
    cases dr with
    | cons _ _=>exact aA e1
    | nil =>
     rw[BT.EU] at e1;split at e1
     ·rename_i c;obtain ⟨j,e3,e4⟩:=ay e1;subst e4;obtain ⟨i,rfl,hi,h1,h2⟩:=iB e3;cases rds with
      | cons r0 rn =>
       cases rn;obtain ⟨u,rfl,ru⟩:=rus.one;cases rx with
       | p rx =>
        obtain ⟨a,vt,rfl,ha,ra⟩:=RR.lst (.d rx);cases rv;obtain ⟨zz,its,n,q1,_,ho⟩:=rdL I ha;have sl:sizeLine=16777216:=Tj;have hl:=q1.length;have hl2:=ra.length;have hi':i < its.toArray.size:=by rw[N2];lia
        refine P1 F.slot_list_index ⟨_,ho,rfl⟩ F.entry_list_index (F.args_list_index_2 _ _)
         (SeqAt.list_indexAt a its.toArray n UB #[] u (bK s.heap (pd d0)) i hi' (by lia) ?_ ?_) ⟨ho,?_,?_⟩
        rw[show its.toArray[i]=its[i]'(by lia) by simp,gP I ra q1 i (by lia) hi];exact h1
        ·intro k hk hlt;have hk':k < its.length:=by simpa using hk
         rw[show its.toArray[k]=its[k]'hk' by simp,gP I ra q1 k hk' (by lia)];exact h2 k (by lia) hlt
        ·intro y hy;exact ef hu I (.d r0) ru ra q1 c y (by simpa using hy)
        ·refine ⟨.int (((0+i:Nat):Nat):Int),H,I.tok _,⟨s.toks,?_⟩,zr.here R (.int _)⟩;simp
     cases e1
 | _=>(first|(cases e;done)|simp[BT.meW] at e)
theorem yG (hu:X.A.units+150 < cLine):MtR X "list.count" (rMe X.prog X.w X.K .count):=by
 intro zt s σ H v vs v' us Q I rv rus h;obtain ⟨m,h,x,ws,z,h',R,rx,rws,e,zr⟩:=h;cases x with
 | r n=>cases ws with
  | _=>(first|(cases e;done)|simp[BT.meW] at e)
 | p d =>
  rw[BT.u0] at e;cases g:BT.aE ws with
  | none=>rw[g] at e;cases e
  | some ds =>
   rw[g] at e;obtain ⟨b,e1,e2⟩:=ay e;cases e2;have rds:=rws.pure g;cases d<;>first|exact aA e1|skip
   rename_i xs;cases ds with
   | nil=>exact aA e1
   | cons d0 dr =>
    cases dr with
    | cons _ _=>exact aA e1
    | nil =>
     rw[BT.ET] at e1;split at e1
     ·rename_i c;cases e1;cases rds with
      | cons r0 rn =>
       cases rn;obtain ⟨u,rfl,ru⟩:=rus.one;cases rx with
       | p rx =>
        obtain ⟨a,vt,rfl,ha,ra⟩:=RR.lst (.d rx);cases rv;obtain ⟨zz,its,n,q1,_,ho⟩:=rdL I ha;have hl:=q1.length;have hl2:=ra.length;have ec:its.countP (bK s.heap (pd d0))=xs.countP λy=>BT.eqv y d0:=by
         have key:its.map (bK s.heap (pd d0))=xs.map λy=>BT.eqv y d0:=by refine List.ext_getElem (by rw[Oh,Oh];lia) λi h1 h2=>?_;rw[Oh] at h1 h2;rw[List.getElem_map,List.getElem_map];exact gP I ra q1 i h1 h2
         have cm:∀ {α:Type} (f:α->Bool) (l:List α),l.countP f=(l.map f).countP id:=λf l=>by rw[List.countP_map];rfl
         rw[cm,cm (λy=>BT.eqv y d0),key]
        refine P1 F.slot_list_count ⟨_,ho,rfl⟩ F.entry_list_count (F.args_list_count_2 _ _) (SeqAt.list_countAt a its.toArray n UB #[] u (bK s.heap (pd d0))) ⟨ho,?_,?_⟩
        ·intro y hy;exact ef hu I (.d r0) ru ra q1 c y (by simpa using hy)
        ·refine ⟨.int ((xs.countP λy=>BT.eqv y d0:Nat):Int),H,I.tok _,⟨s.toks,?_⟩,zr.here R (.int _)⟩;rw[← ec]
     cases e1
 | _=>(first|(cases e;done)|simp[BT.meW] at e)
end
structure pW (K:NV) (J:It) (m0:List Of) (H0:Hp) (ds:List BT.D) (C:BT.HH->Prop):Prop where
 go:∀ m H h (i:Nat),Ext m0 H0 m H->RH K m H h->C h->i < ds.length->J.go i H
 yld:∀ m H h (i:Nat) x H' d,Ext m0 H0 m H->RH K m H h->C h->ds[i]?=UA d->J.yld i H x H'->Ext m H m H'/\Le H H'/\RD K m H' x d
 stop:∀ m H h,Ext m0 H0 m H->RH K m H h->C h->J.stop ds.length H
def tM (sr:BT.Sr) (ws:List BT.W):Prop:=BT.fu ws=UC\/(sr=.seq/\∃ q,ws=[.r q])
def n8 (ws:List BT.W) (ds:List BT.D) (h:BT.HH):Prop:=∀ q,ws=[.r q]->BT.lat h q=UA ds
theorem tM.p (h:tM sr ws) (n:sr≠.seq):BT.fu ws=UC:=h.resolve_right λz=>n z.1
theorem k8 (a:BT.fu ws=UC):n8 ws ds h:=λq e=>by subst e;cases a
noncomputable def Itv (K:NV) (a:Of) (n:Nat):It :=
 ⟨λi H=>i < n/\∃ xs,SqL K H a xs/\xs.length=n,λi H x H'=>H'=H/\∀ xs,SqL K H a xs->xs[n - 1 - i]?=UA x,λi H=>i=n⟩
theorem yH (a it:Of) (n:Nat):Turn P w K tg (Itv K a n) [it] it (λi h=>h.IsRevIter it a ((n:Int) - 1 - i)) where
 mem:=by simp
 obj:=λi h st b hb=>by
  have e:b=it:=by simpa using hb
  subst e;obtain ⟨o,e,c,d⟩:=st;exact ⟨o,e,λv z=>by rw[d] at z;cases z⟩
 keep:=λi h h' st k=>st.at λo e=>k it (by simp) o e
 item:=by
  intro X hP hw hK hc i zt s σ H E I hf st hg;subst hP hw hK;obtain ⟨hi,xs,hq,hx⟩:=hg;obtain ⟨its,rv,p,hz⟩:=I.list hq;have hl:=rv.length;have hj:n - 1 - i < xs.length:=by lia
  obtain ⟨u,hu,ru⟩:=rv.get (N7 hj);obtain ⟨f0,f1,f2,f3,f4,f5⟩:=hf it (by simp);have ei:((n:Int) - 1 - (i:Int))=(((n - 1 - i:Nat)):Int):=by lia
  have st':s.heap.IsRevIter it a (((n - 1 - i:Nat)):Int):=by rw[← ei];exact st
  refine wpAny_pyNext_rev_item st' p.isList (x:=u) (by simpa using hu) λh' st'' sb=>?_;have I1:Inv X zt σ H { s with heap:=h' }:=I.turned (t':=s.toks) (λb o hb e=>(sb.2 b hb).trans e) f0 f1 f3 f4 f5;obtain ⟨o,e,c,d⟩:=id st'';refine ⟨u,rfl,o6 (s:={ s with heap:=h' }) e c d (by decide) ⟨_,H,I1,ru,⟨rfl,λys hy=>by rw[I.oW hy hq];exact N7 hj⟩,?_,λb hb=>(hf b hb).1⟩⟩;have e2:(((n - 1 - i:Nat)):Int) - 1=(n:Int) - 1 - ((i+1:Nat):Int):=by lia
  rw[e2] at st'';exact st''
 done:=by
  intro X hP hw hK hc i zt s σ H E I hf st hg;subst hP hw hK;have hg:i=n:=hg;subst hg;obtain ⟨f0,f1,f2,f3,f4,f5⟩:=hf it (by simp);have e1:(i:Int) - 1 - (i:Int)=-1:=by lia
  have st':s.heap.IsRevIter it a (-1):=by rw[← e1];exact st
  exact wpAny_pyNext_rev_end (I.ok.hd hc) st' λh' eb=>⟨rfl,I.turned (t':=s.toks) (λb o hb e=>eb b o hb e) f0 f1 f3 f4 f5⟩
 self:=λ_ _ _ _ _ st h=>RO st h
theorem Inv.BD {X:Cx}{zt:List (Of×Obj)}{σ:L2.St}{H H':Hp}{s:N4}{h':Heap}{fp:List Of}{tk:Nat} (I:Inv X zt σ H s) (hf:∀ b∈fp,lS X zt H b)
 (k:∀ b o,b∉fp->s.heap.get? b=UA o->h'.get? b=UA o) (hs:∀ b,b < s.heap.objs.size->H' b=H b) (hok:HOk X.prog X.w H' h'):Inv X zt σ H' { s with heap:=h',toks:=tk }:=by
 have hlt:∀ b u,H b=UA u->H' b=UA u:=λb u e=>by rw[hs b (I.hok.lt e)];exact e
 refine I.step (g':=s.gens) (d':=s.drawn) (ch:=fp) (λb hb=>?_) (λb o _ _ hc e _=>k b o hc e) (λb o _ _ hc e _=>⟨o.slots,k b o hc e⟩) (λb o _ e n=>by rw[hs b (N6 e)];exact n)
  (λb o hc e=>⟨o,k b o hc e⟩) (λb xs e=>hlt b _ e) (λb o u e=>hlt b _ e) (λb ps e=>⟨#[],by rw[hlt b _ e];simp⟩) (λm hm=>?_) hok I.bare
 ·obtain ⟨_,f1,_,f3,f4,f5⟩:=hf b hb;exact ⟨f3,f1,f4,f5⟩
 ·obtain ⟨o,es,ep,ho,r⟩:=hm;exact ⟨o,es,ep,k _ o (λz=>(hf _ z).2.1 rfl) ho,r⟩
inductive iD (X:Cx) (F:FT) (G:Str->Option BT.W) (sr:BT.Sr) (sa:BT.Es) (σ:L2.St) (H:Hp) (R:It->Hp->Prop):Prop where
 | mk (m:List Of) (s:BT.Sl) (h:BT.HH) (ws:List BT.W) (h':BT.HH) (ds:List BT.D) (RR:RH X.K m H h) (S:RS X.prog X.w X.K m H σ s) (e:BT.evs F G sa s h=UA (ws,h')) (e2:(BT.rds ws h').bind (BT.dI sr)=UA ds) (ha:tM sr ws)
  (p:∀ H' m' J,Ext m H m' H'->RH X.K m' H' h'->pW X.K J m' H' ds (n8 ws ds)->R J H'):iD X F G sr sa σ H R
theorem PI.weak (h:PI X tg e t) (q:∀ σ H R,t' σ H R->t σ H R):PI X tg e t':=λzt s σ H R I hw=>h zt s σ H R I (q _ _ _ hw)
section
theorem BE (h:(Rd H0 a (.lst vs)/\a∉m0)\/KL K a vs) (r:RDs K m0 H0 vs ds):pW K (Itl K a) m0 H0 ds C:=by
 have k:∀ {m H},Ext m0 H0 m H->SqL K H a vs:=λx=>LL.sq (h.elim (λq=>.inl (Rd.ext x q.1 q.2).1) .inr);refine ⟨λm H hh i x _ _ hi=>?_,λm H hh i v H' d x RR _ hd y=>?_,λm H _ x _ _=>⟨vs,k x,by rw[r.length];exact N3 _⟩⟩;exact ⟨vs,_,k x,N7 (by rw[r.length];exact hi)⟩
 ·obtain ⟨rfl,y⟩:=y;obtain ⟨u,h1,h2⟩:=(r.ext x).get hd;have:=y vs (k x);rw[h1] at this;cases this;exact ⟨.refl _ _,λ_ _ e=>e,h2⟩
theorem F5 (h:(Rd H0 a (.tup vs)/\a∉m0)\/KT K a vs) (r:RDs K m0 H0 vs ds):pW K (Itt K a) m0 H0 ds C:=by
 have k:∀ {m H},Ext m0 H0 m H->SqT K H a vs:=λx=>h.elim (λq=>.inl (Rd.ext x q.1 q.2).1) λ⟨o,its,n,q,_⟩=>.inr ⟨o,its,n,q⟩;refine ⟨λm H hh i x _ _ hi=>?_,λm H hh i v H' d x RR _ hd y=>?_,λm H _ x _ _=>⟨vs,k x,by rw[r.length];exact N3 _⟩⟩;exact ⟨vs,_,k x,N7 (by rw[r.length];exact hi)⟩
 ·obtain ⟨rfl,y⟩:=y;obtain ⟨u,h1,h2⟩:=(r.ext x).get hd;have:=y vs (k x);rw[h1] at this;cases this;exact ⟨.refl _ _,λ_ _ e=>e,h2⟩
theorem F6 (h:(Rd H0 a (.lst vs)/\a∉m0)\/KL K a vs) (r:RDs K m0 H0 vs ds):pW K (Itv K a ds.length) m0 H0 ds.reverse C:=by
 have k:∀ {m H},Ext m0 H0 m H->SqL K H a vs:=λx=>LL.sq (h.elim (λq=>.inl (Rd.ext x q.1 q.2).1) .inr);refine ⟨λm H hh i x _ _ hi=>?_,λm H hh i v H' d x RR _ hd y=>?_,λm H _ x _ _=>by show ds.reverse.length=ds.length;simp⟩;exact ⟨by simpa using hi,vs,k x,r.length⟩
 ·obtain ⟨rfl,y⟩:=y;have hi:i < ds.length:=by have:=getD_some hd;simpa using this
  have hd':ds[ds.length - 1 - i]?=UA d:=by rw[TM hi] at hd;exact hd
  obtain ⟨u,h1,h2⟩:=(r.ext x).get hd';have:=y vs (k x);rw[h1] at this;cases this;exact ⟨.refl _ _,λ_ _ e=>e,h2⟩
theorem yI (lo:Int) (n:Nat):pW K (Itr lo n) m0 H0 (BT.upto lo n) C:=by
 have hl:(BT.upto lo n).length=n:=by simp[BT.upto]
 refine ⟨λm H hh i x _ _ hi=>by rw[hl] at hi;exact hi,λm H hh i v H' d x RR _ hd y=>?_,λm H _ x _ _=>by rw[hl];exact N3 n⟩;obtain ⟨rfl,rfl⟩:=y;have:d=.int (lo+i):=by
  have hi:i < n:=by have:=getD_some hd;rw[hl] at this;exact this
  simp only[BT.upto,Ox] at hd;rw[Rq hi] at hd;simpa using hd.symm
 subst this;exact ⟨.refl _ _,λ_ _ e=>e,.int _⟩
theorem tN:∀ {ws:List BT.W},BT.fu ws=UC->∃ ds:List BT.D,ws=ds.map BT.W.p:=by
 intro ws
 induction ws with
 | nil=>exact λ_=>⟨[],rfl⟩
 | cons w ws ih =>
  intro h;cases w with
  | p d =>
   obtain ⟨ds,rfl⟩:=ih h;exact ⟨d::ds,rfl⟩
  | _=>cases h
theorem yJ (h:BT.HH) (ds:List BT.D):BT.rds (ds.map BT.W.p) h=UA ds:=by
 induction ds with
 | nil=>rfl
 | cons d ds ih =>
  show (BT.rds (ds.map BT.W.p) h).map (d :: ·)=_;rw[ih];rfl
theorem yK (hs:sr=.seq\/sr=.rev\/sr=.rng1) (e:(BT.rds ws h).bind (BT.dI sr)=UA ds) (ha:BT.fu ws=UC):∃ d,ws=[.p d]/\BT.dI sr [d]=UA ds:=by
 obtain ⟨xs,rfl⟩:=tN ha;rw[yJ,Pv] at e;cases xs with
 | nil=>rcases hs with rfl|rfl|rfl<;>cases e
 | cons d xs =>
  cases xs with
  | nil=>exact ⟨d,rfl,e⟩
  | cons d2 xs=>rcases hs with rfl|rfl|rfl<;>cases d<;>cases e
theorem kj (e:BT.evs F G (.cons a .nil) s h=UA (ws,h')):∃ w,ws=[w]/\BT.ev F G a s h=UA (w,h'):=by simp only[BT.evs] at e;obtain ⟨w,g,e1,e2⟩:=ah e;simp only[BT.kT,BT.aO,BT.ig] at e2;cases e2;exact ⟨w,rfl,e1⟩
theorem BH (hq:m0[q]?=UA a):pW K (Itl K a) m0 H0 ds (n8 [.r q] ds):=by
 have k:∀ {m H h},Ext m0 H0 m H->RH K m H h->n8 [.r q] ds h->∃ vs,SqL K H a vs/\RDs K m H vs ds:=λ{m H h} x RR c=>by
  obtain ⟨e,rfl,_⟩:=x.pre;have e1:(m0++e)[q]?=UA a:=by rw[N5 (List.getElem?_eq_some_iff.mp hq).1];exact hq
  obtain ⟨vs,c1,c2⟩:=RR.cell q a ds e1 (c q rfl);exact ⟨vs,LL.sq (.inl (.inl c1)),c2⟩
 refine ⟨λm H hh i x RR c hi=>?_,λm H hh i v H' d x RR c hd y=>?_,λm H hh x RR c=>?_⟩
 ·obtain ⟨vs,k1,k2⟩:=k x RR c;exact ⟨vs,_,k1,N7 (by rw[k2.length];exact hi)⟩
 ·obtain ⟨vs,k1,k2⟩:=k x RR c;obtain ⟨rfl,y⟩:=y;obtain ⟨u,h1,h2⟩:=k2.get hd;have:=y vs k1;rw[h1] at this;cases this;exact ⟨.refl _ _,λ_ _ e=>e,h2⟩
 ·obtain ⟨vs,k1,k2⟩:=k x RR c;exact ⟨vs,k1,by rw[k2.length];exact N3 _⟩
theorem tO (he:PE X x (tD X F G a)):PI X tg x (iD X F G .seq (.cons a .nil)):=by
 intro zt s σ H R I q;obtain ⟨m,s',h,ws,h',ds,RR,S,e,e2,ha,zr⟩:=q;rcases ha with ha|⟨_,q,rfl⟩
 case inr =>
  obtain ⟨w,ew,e4⟩:=kj e;cases ew;have g:BT.lat h' q=UA ds:=by
   simp only[BT.rds,BT.rd,Q2] at e2;cases g:BT.lat h' q with
   | none=>rw[g] at e2;cases e2| some xs=>rw[g] at e2;cases e2;rfl
  refine sA he zt s σ H R I ⟨m,s',h,_,h',RR,S,e4,λv H1 m1 x1 R1 r1=>?_⟩;cases r1 with
  | @r a n hn =>
   obtain ⟨vs,c1,c2⟩:=R1.cell q a ds hn g;exact ⟨a,rfl,⟨vs,LL.sq (.inl (.inl c1))⟩,zr H1 m1 _ x1 R1 (BH hn)⟩
 obtain ⟨d,rfl,e3⟩:=yK (.inl rfl) e2 ha;obtain ⟨w,ew,e4⟩:=kj e;cases ew;rw[BT.xB] at e3;cases d<;>simp only[BT.nG] at e3<;>try contradiction
 ·cases e3;refine Ep he zt s σ H R I ⟨m,s',h,_,h',RR,S,e4,λv H1 m1 x1 R1 r1=>?_⟩;cases r1 with
  | p r1 =>
   cases r1 with
   | @tup a vs _ h r=>exact ⟨a,rfl,⟨vs,h.elim (λq=>.inl q.1) λ⟨o,its,n,q,_⟩=>.inr ⟨o,its,n,q⟩⟩,zr H1 m1 _ x1 R1 (F5 h r)⟩
 ·cases e3;refine sA he zt s σ H R I ⟨m,s',h,_,h',RR,S,e4,λv H1 m1 x1 R1 r1=>?_⟩;cases r1 with
  | p r1 =>
   cases r1 with
   | @lst a vs _ h r=>exact ⟨a,rfl,⟨vs,LL.sq (h.elim (λq=>.inl q.1) .inr)⟩,zr H1 m1 _ x1 R1 (BE h r)⟩
theorem pX (O:Ok X F G sc N) (hg:aL sc "range"=UC) (hs:noStar e=UC) (ha:PA X [e] (tDs X F G sa)):PI X tg (.Call (.Name "range" p) [e] [] pos) (iD X F G .rng1 sa):=by
 refine PI.weak (uI (aW O hg) (O.blt _ (by decide)) ha (ai hs)) fun σ H R q=>?_;obtain ⟨m,s',h,ws,h',ds,RR,S,e,e2,ha,zr⟩:=q;obtain ⟨d,rfl,e3⟩:=yK (.inr (.inr rfl)) e2 (ha.p (λz=>by cases z));refine ⟨m,s',h,_,h',RR,S,e,λvs H1 m1 x1 R1 r1=>?_⟩;obtain ⟨j,rfl⟩:∃ j:Int,d=.int j:=by
  cases d with
  | int j=>exact ⟨j,rfl⟩| _=>exact absurd (show (UB:Option (List BT.D))=UA _ from e3) (λz=>nomatch z)
 rw[BT.bI] at e3;split at e3
 ·rename_i c;simp only[NY,decide_eq_true_eq] at c;cases e3;cases r1 with
  | cons r t =>
   cases t;cases r with
   | p r =>
    cases r;exact ⟨j,rfl,by lia,by lia,zr H1 m1 _ x1 R1 (yI 0 j.toNat)⟩
 cases e3
theorem Jr (e:(BT.rds ws h).bind (BT.dI .rng2)=UA ds) (ha:BT.fu ws=UC):∃ i j:Int,ws=[.p (.int i),.p (.int j)]/\(-100000<=i/\i<=100000/\-100000<=j/\j<=100000)/\ds=BT.upto i (j - i).toNat:=by
 obtain ⟨xs,rfl⟩:=tN ha;rw[yJ,Pv] at e;have hx:∃ i j:Int,xs=[.int i,.int j]:=by
  match xs,e with
  | [.int i,.int j],_=>exact ⟨i,j,rfl⟩
 obtain ⟨i,j,rfl⟩:=hx;rw[BT.jA] at e;split at e
 ·rename_i c;simp only[NY,decide_eq_true_eq] at c;cases e;exact ⟨i,j,rfl,⟨c.1.1.1,c.1.1.2,c.1.2,c.2⟩,rfl⟩
 cases e
theorem pY (O:Ok X F G sc N) (hg:aL sc "range"=UC) (hs:noStar x=UC) (hs2:noStar y=UC) (ha:PA X [x,y] (tDs X F G sa)):PI X tg (.Call (.Name "range" p) [x,y] [] pos) (iD X F G .rng2 sa):=by
 refine PI.weak (uJ (aW O hg) (O.blt _ (by decide)) ha (by rw[ai hs,ai hs2];rfl) (by rw[ai hs2];rfl)) fun σ H R q=>?_;obtain ⟨m,s',h,ws,h',ds,RR,S,e,e2,ha,zr⟩:=q;obtain ⟨i,j,rfl,c,rfl⟩:=Jr e2 (ha.p (λz=>by cases z));refine ⟨m,s',h,_,h',RR,S,e,λvs H1 m1 x1 R1 r1=>?_⟩;cases r1 with
 | cons r t =>
  cases t with
  | cons r2 t2 =>
   cases t2;cases r with
   | p r =>
    cases r;cases r2 with
    | p r2 =>
     cases r2;exact ⟨i,j,rfl,⟨by lia,by lia,by lia,by lia⟩,zr H1 m1 _ x1 R1 (yI i (j - i).toNat)⟩
theorem tP (O:Ok X F G sc N) (hg:aL sc "reversed"=UC) (hs:noStar e=UC) (he:PE X e (tD X F G a)):PI X tg (.Call (.Name "reversed" p) [e] [] pos) (iD X F G .rev (.cons a .nil)):=by
 intro zt s σ H R I q;obtain ⟨m,s',h,ws,h',ds,RR,S,e,e2,ha,zr⟩:=q;obtain ⟨d,rfl,e3⟩:=yK (.inr (.inl rfl)) e2 (ha.p (λz=>by cases z));obtain ⟨w,ew,e4⟩:=kj e;cases ew;obtain ⟨xs,rfl⟩:∃ xs:List BT.D,d=.lst xs:=by
  cases d with
  | lst xs=>exact ⟨xs,rfl⟩| _=>exact absurd (show (UB:Option (List BT.D))=UA _ from e3) (λz=>nomatch z)
 ·cases e3;refine Call_ (dH (u:=.type "reversed") I (aW O hg) (O.blt _ (by decide)) (by decide +kernel) (OG (thn (dW he ju (ai hs) pos zt s σ H (λvs H1=>∃ a vt,vs=[.ref a]/\∃ m1,Ext m H m1 H1/\RH X.K m1 H1 h'/\((Rd H1 a (.lst vt)/\a∉m1)\/KL X.K a vt)/\RDs X.K m1 H1 vt xs) I ?_) λus s1 ⟨vs,H1,I1,r1,q1⟩=>?_) (ai hs) rfl))
  ·refine ⟨m,s',h,_,h',RR,S,e4,λv H1 m1 x1 R1 r1=>?_⟩;cases r1 with
   | p r1 =>
    cases r1 with
    | @lst a vt _ hh r=>exact ⟨a,vt,rfl,m1,x1,R1,hh,r⟩
  ·obtain ⟨a,vt,rfl,m1,x1,R1,hh,r⟩:=q1;obtain ⟨u,rfl,ru⟩:=vals1 r1;cases ru;obtain ⟨z,its,nn,rv,hl,ee⟩:=rdL I1 (hh.elim (λq=>.inl q.1) .inr);have hL:s1.heap.IsList a its.toArray:=⟨_,ee,rfl,_,rfl⟩;have hlen:=r.length;refine call_reversed_list hL ?_;have stt:({ s1 with heap:=s1.heap.push (revObj a ((its.toArray.size:Int) - 1)) }:N4).heap.IsRevIter s1.heap.objs.size a ((xs.length:Int) - 1 - ((0:Nat):Int)):=by refine ⟨_,N8 _ rfl,rfl,?_⟩;show Data.fields #[.ref a,QM ((its.toArray.size:Int) - 1)]=_;rw[N2,← hl,hlen];simp
   refine RO stt ?_;refine ⟨s1.heap.objs.size,[s1.heap.objs.size],_,_,H1,rfl,I1.kept (t':=s1.toks) λb o e=>NW _ e,yH a _ xs.length,stt,λb hb=>?_,zr H1 m1 _ x1 R1 (F6 hh r)⟩;have e:b=s1.heap.objs.size:=by simpa using hb
   subst e;exact I1.wM (N3 _) (I1.hok.fresh (N3 _))
end
section
variable {K:NV}
theorem RKs.any (r:RKs K m H vs kvs) (k:Key):(vs.any λkv=>decide (kv.1=k))=kvs.any λkv=>decide (kv.1=k):=by
 induction r with
 | nil=>rfl| cons _ _ _ ih=>rw[QA,QA,ih]
theorem RKs.snoc (r:RKs K m H vs kvs) (k:Key) (hk:RD K m H (kV k) (BT.gW k)) (q:RD K m H v d):RKs K m H (vs++[(k,v)]) (kvs++[(k,d)]):=by
 induction r with
 | nil=>exact .cons hk q .nil| cons h r _ ih=>exact .cons h r ih
theorem RKs.repl (r:RKs K m H vs kvs) (k:Key) (q:RD K m H v d):RKs K m H (vs.map λkv=>if kv.1=k then (kv.1,v) else kv) (kvs.map λkv=>if kv.1=k then (kv.1,d) else kv):=by
 induction r with
 | nil=>exact .nil
 | @cons j v1 d1 vs kvs hk r t ih =>
  rw[Oi,Oi]
  by_cases c:j=k
  rw[if_pos c,if_pos c];exact .cons hk q ih;rw[if_neg c,if_neg c];exact .cons hk r ih
theorem RKs.put (r:RKs K m H vs kvs) (k:Key) (hk:RD K m H (kV k) (BT.gW k)) (q:RD K m H v d):RKs K m H (putK vs k v) (BT.c7 kvs k d):=by unfold putK BT.c7;rw[r.any k];split;exact r.repl k q;exact r.snoc k hk q
end
section
variable {X:Cx}{F:FT}{G:Str->Option BT.W}
theorem BI:PE X (.Dict [] [] p) (tD X F G .dnew):=by intro zt s σ H Q I q;obtain ⟨m,sl,h,z,h',R,S,ee,zr⟩:=q;simp only[BT.ev] at ee;cases ee;have hp:H s.heap.objs.size=UB:=I.hok.fresh (N3 _);refine wpAny_Dict_empty ⟨.ref s.heap.objs.size,_,I.laid (a:=s.heap.objs.size) (o:=.dK []) (t':=s.toks) (λ_ _ q=>NW _ q) (N3 _) (xu s.heap I.big),rfl,?_⟩;refine zr _ _ (m++[s.heap.objs.size]) (gk hp) (R.Fo hp ⟨[],aB,.nil⟩) (.r ?_);rw[← R.len];simp
noncomputable def DT:V->V->V->Hp->(Hp->Prop)->Prop:=λo i v H Q=>∃ p kvs k,o=.ref p/\i=kV k/\H p=UA (.dK kvs)/\kvs.length < sizeLine/\Q (upd H p (.dK (putK kvs k v)))
theorem set_dict:Ek X DT:=by
 intro zt s σ H o i v ov iv u Q I ro ri rv q;obtain ⟨a,kvs,k,rfl,rfl,e,l,q⟩:=q;cases ro;obtain ⟨z,hd,vs,rel,dd⟩:=xq I.hok e;have hz:vs.length<=sizeLine:=by rw[← rel.length];exact z
 have hl:(putK kvs k v).length<=sizeLine:=by have:=jR kvs k v;lia
 refine wpAny_setItem_pairs (hsz:=hz) (pG ri) dd λh' dd' hs=>⟨_,?_,q⟩;have he:∃ q,h'.get? a=UA q:=let ⟨q,_,_,hq,_⟩:=dd';⟨q,hq⟩;exact AY I (by rw[e];exact QD) hs he (xr hl hd (rel.put k rv) dd')
end
section
variable {E:N1->N4->Prop}
theorem pZ (hc:wpAny (Ow prog w) A.in1 (collect v) (λvs s1=>vs.length<=sizeLine/\wpAny (Ow prog w) A.in1.in1 (Builtin.«list.sort» { pos:=[.ref s1.heap.objs.size] }) (λfin s2=>∃ u,fin=.done (.ret u)/\Q (.ref s1.heap.objs.size) s2) E
 { s1 with heap:=s1.heap.push (seqObj "list" vs.toArray 0) }) E s):wpAny (Ow prog w) A (call (.builtin "sorted") [v]) Q E s:=by
 refine Calls.call_function_entry kind_sorted plain_sorted entry_sorted (args_sorted1 v) ?_;show wpAny _ _ (Builtin.sorted { pos:=[v] }) _ _ s;unfold Builtin.sorted;refine NZ (wpAny_pure ?_);refine NZ (wpAny_mono hc (λvs s1 h1=>?_) λ_ _ x=>x);obtain ⟨hz,h1⟩:=h1;simp only[newList];refine NZ (Px ?_ (by first|size_fits|(rw[N2];exact hz)|exact hz));refine NZ (PB (SX slot_list_sort ⟨_,N8 _ rfl,rfl⟩ entry_list_sort ?_ (args_list_sort _)));refine wpAny_mono h1 (λfin s2 q=>?_) λ_ _ x=>x;obtain ⟨u,rfl,q⟩:=q;exact ⟨u,rfl,wpAny_pure ⟨_,rfl,q⟩⟩
end
noncomputable def hpk (H:Hp) (n S:Of) (bs as:List Of) (ps:List (Key×V)):Hp:=λb=>if b < n then H b else if b=S then UA (.lst (bs.map V.ref)) else ((as.zip ps).lookup b).map λp=>HO.tup [kV p.1,p.2]
theorem vD {α:Type}{as:List Of}{ps:List α}{b:Of}{p:α} (h:(as.zip ps).lookup b=UA p):∃ j:Nat,as[j]?=UA b/\ps[j]?=UA p:=by
 induction as generalizing ps with
 | nil=>cases h
 | cons a as ih =>
  cases ps with
  | nil=>cases h
  | cons q ps =>
   rw[Uy,OZ] at h
   by_cases e:b=a
   ·subst e;simp at h;subst h;exact ⟨0,rfl,rfl⟩
   ·rw[beq_eq_false_iff_ne.mpr e] at h;obtain ⟨j,h1,h2⟩:=ih h;exact ⟨j+1,by simpa using h1,by simpa using h2⟩
theorem yL {α:Type}{as:List Of}{ps:List α} (hr:as.Pairwise (· < ·)) {j:Nat}{b:Of}{p:α} (h1:as[j]?=UA b) (h2:ps[j]?=UA p):(as.zip ps).lookup b=UA p:=by
 induction as generalizing ps j with
 | nil=>simp at h1
 | cons a as ih =>
  cases ps with
  | nil=>simp at h2
  | cons q ps =>
   rw[Uy,OZ];cases j with
   | zero=>simp at h1 h2;subst h1 h2;simp
   | succ j =>
    simp at h1 h2;have hb:=N9 h1;rw[List.pairwise_cons] at hr;have ne:b≠a:=PR (hr.1 b hb);rw[beq_eq_false_iff_ne.mpr ne];exact ih hr.2 h1 h2
theorem mW {K:NV}:∀ {as:List Of}{vs:List (Key×V)}{kvs:List (BT.Ky×BT.D)},as.length=vs.length->RKs K m H vs kvs →
 (∀ (j:Nat) a p,as[j]?=UA a->vs[j]?=UA p->H a=UA (.tup [kV p.1,p.2])/\a∉m)->RDs K m H (as.map V.ref) (BT.fZ kvs)
 | [],_,_,h1,r1,_=>by
  cases r1 with
  | nil=>exact .nil| cons _ _ _=>simp at h1
 | a::as,_,_,h1,r1,k=>by
  cases r1 with
  | nil=>simp at h1
  | @cons key v d vs kvs hk q1 t1 =>
   obtain ⟨k1,k2⟩:=k 0 a _ rfl rfl;exact .cons (.tup (.inl ⟨.inl k1,k2⟩) (.cons hk (.cons q1 .nil))) (mW (by simpa using h1) t1 λj a p e1 e2=>k (j+1) a p (by simpa using e1) (by simpa using e2))
section
variable {X:Cx}{F:FT}{G:Str->Option BT.W}
theorem yM {zt:List (Of×Obj)}{s:N4}{σ:L2.St}{H:Hp}{o:BT.E}{oe:NX}{apos pos:Pos}{RQ:Of->List (Key×V)->Hp->Prop}{Q':N1->N4->Prop} (hb:aD oe=UC) (hl:(apos.endLine==pos.line)=UC) (hO:PE X oe (tD X F G o)) (I:Inv X zt σ H s)
 (q:tD X F G o σ H λx H1=>∃ a vs,x=.ref a/\H1 a=UA (.dK vs)/\RQ a vs H1) (k:∀ a vs H1 s2 r,Inv X zt σ H1 s2->H1 a=UA (.dK vs)->RQ a vs H1->s2.heap.IsItemsView r a->s2.heap.objs.size=r+1->Q' (.ref r) s2) :
 wpAny (Ow X.prog X.w) X.A (eval (.Call (.Attribute oe "items" apos) [] [] pos) X.env) Q' X.xe s:=by
 refine Uk (i7 hb) hl (thn (hO zt s σ H _ I q) λv s1 zq=>?_);obtain ⟨x,H1,I1,r1,a,vs,ex,e,q1⟩:=zq;subst ex;cases r1;obtain ⟨h1,h2⟩:=qY I1 (x:=.ref a) rfl (T:="dict") (.inr (.inr (.inl ⟨rfl,.inl ⟨_,e⟩⟩)));obtain ⟨z,hd,us,rel,dd⟩:=xq I1.hok e;refine ⟨"dict","dict.items",PySem.F.plainAttrs_dict,SE,PySem.F.type_dict_items,h1,h2,Q0 rfl (TR ?_)⟩;refine call_meetsIn SE h1 PySem.F.entry_dict_items (PySem.F.args_dict_items_1 _) (meets_dict_items (au X.prog X.w) a hd) ⟨⟨us,dd⟩,?_⟩;refine k a vs H1 _ _ (I1.kept (t':=s1.toks) λb o q=>NW _ q) e q1 ⟨_,N8 _ rfl,rfl,rfl⟩ (Qp ..)
theorem yN (rel:KV vs us):∀ {j:Nat}{p:Key×V},vs[j]?=UA p->∃ q,us[j]?=UA q/\p.1=q.1/\RelV p.2 q.2:=by
 unfold KV at rel
 induction rel with
 | nil=>intro j p h;simp at h
 | cons h t ih =>
  intro j p e;cases j with
  | zero=>simp at e;subst e;exact ⟨_,rfl,h⟩
  | succ j =>
   obtain ⟨q,q1,q2⟩:=ih (j:=j) (p:=p) (by simpa using e);exact ⟨q,by simpa using q1,q2⟩
theorem vE {zt:List (Of×Obj)}{s1:N4}{σ:L2.St}{H1:Hp}{h':Heap}{tk:Nat}{S:Of}{acc:Array N1}{c:Nat}{as bs:List Of}{vs:List (Key×V)}{us:List (Key×N1)}{m:List Of}{h:BT.HH}{kvs:List (BT.Ky×BT.D)}{lo:Of} (I1:Inv X zt σ H1 s1) (rel:KV vs us) (R:RH X.K m H1 h) (rk:RKs X.K m H1 vs kvs)
 (hS:s1.heap.objs.size<=S) (hlo:s1.heap.objs.size<=lo) (hSl:S∉as) (hz:bs.length<=sizeLine) (k:∀ b o,s1.heap.get? b=UA o->h'.get? b=UA o) (g1:h'.get? S=UA { cls:=.type "list",data:=.seq acc c }) (g2:as.length=us.length) (g3:PySem.W.KdxG (au X.prog X.w) us lo h' as) (g4:acc.toList=bs.map OL) :
 ∃ H2,Inv X zt σ H2 { s1 with heap:=h',toks:=tk }/\H2 S=UA (.lst (bs.map V.ref))/\Ext m H1 m H2/\Le H1 H2/\H1 S=UB/\RDs X.K m H2 (as.map V.ref) (BT.fZ kvs):=by
 have low:∀ c:Of,c < s1.heap.objs.size->hpk H1 s1.heap.objs.size S bs as vs c=H1 c:=λc hc=>if_pos hc;have nS:¬ (S < s1.heap.objs.size):=Nat.not_lt.mpr hS;have atS:hpk H1 s1.heap.objs.size S bs as vs S=UA (.lst (bs.map V.ref)):=by unfold hpk;rw[if_neg nS,if_pos rfl]
 have atA:∀ (j:Nat) a p,as[j]?=UA a->vs[j]?=UA p->hpk H1 s1.heap.objs.size S bs as vs a=UA (.tup [kV p.1,p.2]):=λj a p q1 q2=>by have ha:=N9 q1;have ab:=g3.above a ha;unfold hpk;rw[if_neg (Nat.not_lt.mpr (OO hlo (O0 ab))),if_neg (show ¬ a=S from λe=>hSl (by rw[← e];exact ha)),yL g3.rise q1 q2];rfl
 have fresh:∀ c:Of,s1.heap.objs.size<=c->H1 c=UB:=λc hc=>I1.hok.fresh hc;have live:Le H1 (hpk H1 s1.heap.objs.size S bs as vs):=λc u q=>by rw[low c (I1.hok.lt q)];exact q
 have hok:HOk X.prog X.w (hpk H1 s1.heap.objs.size S bs as vs) h':=λc u q=>by
  by_cases lc:c < s1.heap.objs.size
  ·rw[low c lc] at q;exact (I1.hok c u q).stay (λb o _ w=>k b o w) (λb w=>live b _ w) λb l w=>live b _ w
  ·by_cases ec:c=S
   ·subst ec;rw[atS] at q;cases q;refine ⟨by rw[Oh];exact hz,acc.toList,_,?_,by simpa using g1⟩;rw[g4];clear g1 g2 g3 g4 atA atS low live hSl hz
    induction bs with
    | nil=>exact .nil| cons a as ih=>exact .cons rfl ih
   ·have hx:=q;unfold hpk at hx;rw[if_neg lc,if_neg ec] at hx;cases hL:(as.zip vs).lookup c with
    | none=>rw[hL] at hx;cases hx
    | some pr =>
     rw[hL] at hx;cases hx;obtain ⟨j,j1,j2⟩:=vD hL;obtain ⟨key,kk,x,x1,hk,pa⟩:=g3.pairs j c j1;have rp:pr.1=kk/\RelV pr.2 x:=by obtain ⟨q,q1,q2⟩:=yN rel j2;rw[x1] at q1;cases q1;exact q2
     obtain ⟨rp1,rp2⟩:=rp;refine ⟨by show 2<=sizeLine;decide,[key,x],.cons ?_ (.cons rp2 .nil),_,pa,rfl,_,rfl⟩;rw[rp1];rcases aF (show jN kk key=UC from hk) with ⟨i,t,rfl,rfl⟩|⟨x,t,rfl,rfl⟩
     exact ⟨t,rfl⟩;exact ⟨t,rfl⟩
 have x:Ext m H1 m (hpk H1 s1.heap.objs.size S bs as vs):=⟨⟨[],by simp,by simp⟩,λc o q _ _=>live c o q,λc q=>by
  cases g:H1 c with
  | none=>rfl
  | some o=>rw[live c o g] at q;cases q⟩
 have ni:∀ c:Of,s1.heap.objs.size<=c->c∉m:=λc hc=>R.cY (fresh c hc);have ln:=rel.length;refine ⟨_,Inv.BD (s:=s1) (tk:=tk) (fp:=[]) I1 (λb hb=>nomatch hb) (λb o _ e=>k b o e) low hok,atS,x,live,fresh S hS,mW (by lia) (rk.ext x) λj a p q1 q2=>⟨atA j a p q1 q2,ni a (OO hlo (O0 (g3.above a (N9 q1))))⟩⟩
theorem F7 {h:Heap}{a:Of}{us:List (Key×N1)} (dd:h.DictOf (au X.prog X.w) a us):∃ ep,h.DictAt (au X.prog X.w) a us ep:=by obtain ⟨o,es,ep,z⟩:=dd;exact ⟨ep,o,es,z⟩
theorem BJ (e:BT.E9 x h=UA (z,h')):∃ n kvs,x=.r n/\BT.dat h n=UA kvs/\kvs.length<=BT.lim/\z=.p (.lst (BT.fZ kvs))/\h'=h:=by
 cases x with
 | r n =>
  rw[BT.Fb] at e;obtain ⟨kvs,e1,e2⟩:=Option.bind_eq_some_iff.mp e;split at e2
  case isFalse=>cases e2
  rename_i c;cases e2;exact ⟨n,kvs,rfl,e1,c,rfl,rfl⟩
 | _=>cases e
theorem F8 {sc:OD}{N:List Str} (O:Ok X F G sc N) (hu:b9 N=UC) {o:BT.E}{oe:NX}{np p apos pos:Pos} (hg:aL sc "list"=UC) (hb:aD oe=UC) (hl:(apos.endLine==pos.line)=UC) (hO:PE X oe (tD X F G o)) :
 PE X (.Call (.Name "list" np) [.Call (.Attribute oe "items" apos) [] [] pos] [] p) (tD X F G (.dli o)):=by
 intro zt s σ H Q I q;refine Call_ (dH (u:=.type "list") I (aW O hg) (O.blt _ (by decide)) (by decide +kernel) (OG ?_ (ai rfl) rfl));rw[ai (show noStar (.Call (.Attribute oe "items" apos) [] [] pos)=UC from rfl)];show wpAny _ _ (Sy ((UD,eval (.Call (.Attribute oe "items" apos) [] [] pos) X.env)::PU p (OA [] X.env))) _ _ s;obtain ⟨m,sl,h,z,h',R,S,ee,zr⟩:=q;simp only[BT.ev] at ee;obtain ⟨x,h1,e1,e2⟩:=ah ee;obtain ⟨n,kvs,rfl,e3,e4,rfl,rfl⟩:=BJ e2;refine Pz (yM hb hl hO I (RQ:=λa vs H1=>∃ m1,RH X.K m1 H1 h'/\RKs X.K m1 H1 vs kvs/\Post X.prog X.w X.K m1 H1 (.p (.lst (BT.fZ kvs))) h' Q) ⟨m,sl,h,.r n,h',R,S,e1,λv H1 m1 x1 R1 r1=>?_⟩ λa vs H1 s2 r I2 e q1 iv hsz=>Ql ?_)
 ·cases r1 with
  | @r a _ hn =>
   obtain ⟨vs,hH,rk⟩:=R1.DQ n a kvs hn e3;exact ⟨a,vs,rfl,hH,m1,R1,rk,λv5 H5 m5 x5 R5 r5=>zr v5 H5 m5 (x1.trans x5) R5 r5⟩
 ·obtain ⟨m1,R1,rk,zr⟩:=q1;obtain ⟨zz,hd,us,rel,dd⟩:=xq I2.hok e;obtain ⟨ep,da⟩:=F7 dd;have l1:=rel.length;refine PySem.W.kdx_call (I2.ok.hd (O.calm hu)) iv da (by lia) λh2 tk acc c as k g1 g2 g3 g4=>?_;obtain ⟨H2,I3,atS,x,le,fr,rr⟩:=vE (tk:=tk) I2 rel R1 rk (N3 _) (N3 _) (λhm=>OJ _ (g3.above _ hm)) (by lia) k g1 g2 g3 g4;have ni:s2.heap.objs.size∉m1:=R1.cY fr;exact ⟨.ref s2.heap.objs.size,H2,I3,rfl,zr _ _ m1 x (R1.ext x le) (.p (.lst (.inl ⟨.inl atS,ni⟩) rr))⟩
end
section
variable {X:Cx}{F:FT}{G:Str->Option BT.W}{K:NV}{m:List Of}{H:Hp}
theorem vF {d:BT.D}{p:BT.Ky×BT.D} (e:BT.xJ d=UA p):∃ k,d=.tup [k,p.2]/\BT.fY k=UA p.1:=by
 cases d with
 | tup xs =>
  match xs,e with
  | [k,v],e =>
   obtain ⟨y,e1,e2⟩:=ay (show (BT.fY k).map (λy=>(y,v))=UA p from e);subst e2;exact ⟨k,rfl,e1⟩
 | _=>exact aA e
inductive PAt (X:Cx) (m:List Of) (H:Hp) (s:N4) (its:List N1) (ps:List (BT.Ky×BT.D)):Prop where
 | mk (ws:List (Key×V)) (us:List (Key×N1)) (kv:KV ws us) (rk:RKs X.K m H ws ps) (l:its.length=us.length)
  (a:∀ (j:Nat) p,us[j]?=UA p->∃ q key o n,its[j]?=UA (.ref q)/\s.heap.get? q=UA o/\o.cls=.type "tuple"/\o.data=.seq #[key,p.2] n/\(au X.prog X.w).is p.1 key=UC):PAt X m H s its ps
theorem pairs_at {zt:List (Of×Obj)}{s:N4}{σ:L2.St} (I:Inv X zt σ H s):∀ {vt:List V}{ds:List BT.D}{its:List N1}{ps:List (BT.Ky×BT.D)},RDs X.K m H vt ds->ao vt its->BT.eY ds=UA ps->PAt X m H s its ps:=by
 intro vt
 induction vt with
 | nil =>
  intro ds its ps r rv e;cases r;cases rv;cases e;exact ⟨[],[],.nil,.nil,rfl,λj p h=>by simp at h⟩
 | cons v vt ih =>
  intro ds its ps r rv e;cases r with
  | @cons _ d _ ds r t =>
   cases rv with
   | @cons _ u _ its ru tv =>
    obtain ⟨p,e1,e2⟩:=Option.bind_eq_some_iff.mp (show (BT.xJ d).bind (λp=>(BT.eY ds).map (p :: ·))=UA ps from e);obtain ⟨ps',e3,e4⟩:=ay e2;subst e4;obtain ⟨k,rfl,e5⟩:=vF e1;obtain ⟨ws,us,kv,rk,l,a⟩:=ih t tv e3;cases r with
    | @tup q vs _ h rr =>
     cases rr with
     | @cons v1 _ _ _ r1 rr =>
      cases rr with
      | @cons v2 _ _ _ r2 rr =>
       cases rr;cases ru;obtain ⟨its2,rv2,⟨o,o1,o2,n,o3⟩,_⟩:=I.tuple (h.elim (λq=>.inl q.1) λ⟨o,its,n,q,_⟩=>.inr ⟨o,its,n,q⟩);obtain ⟨u1,u2,rfl,q1,q2⟩:=vals2 rv2;have ek:=nV r1 e5;subst ek;refine ⟨(p.1,v2)::ws,(p.1,u2)::us,.cons ⟨rfl,q2⟩ kv,.cons (yc r1 e5) r2 rk,by simp[l],λj x hx=>?_⟩;cases j with
       | zero =>
        cases hx;exact ⟨q,u1,o,n,rfl,o1,o2,o3,pG q1⟩
       | succ j=>exact a j x (by simpa using hx)
theorem yO:∀ {qs:List (Key×V)}{us:List (Key×N1)}{ps:List (BT.Ky×BT.D)}{ws:List (Key×V)}{vs:List (Key×N1)}{kvs:List (BT.Ky×BT.D)},KV qs us->RKs K m H qs ps->KV ws vs->RKs K m H ws kvs →
 KV (qs.foldl (λc p=>putK c p.1 p.2) ws) (us.foldl (λc p=>Ti c p.1 p.2) vs)/\RKs K m H (qs.foldl (λc p=>putK c p.1 p.2) ws) (ps.foldl (λc p=>BT.c7 c p.1 p.2) kvs):=by
 intro qs
 induction qs with
 | nil =>
  intro us ps ws vs kvs h1 h2 h3 h4;cases h1;cases h2;exact ⟨h3,h4⟩
 | cons q qs ih =>
  intro us ps ws vs kvs h1 h2 h3 h4;cases h1 with
  | @cons _ u _ us a b =>
   cases h2 with
   | @cons k v d _ ps hk r t =>
    obtain ⟨a1,a2⟩:=a;have a1:k=u.1:=a1;refine ih (ws:=putK ws k v) (vs:=Ti vs u.1 u.2) (kvs:=BT.c7 kvs k d) b t ?_ (h4.put k hk r);rw[← a1];exact h3.put k a2
theorem qa:∀ (qs:List (Key×V)) (ws:List (Key×V)),(qs.foldl (λc p=>putK c p.1 p.2) ws).length<=ws.length+qs.length
 | [],ws=>N3 _
 | q::qs,ws=>by have h1:=qa qs (putK ws q.1 q.2);have h2:=jR ws q.1 q.2;simp only[Sv,Oq];lia
theorem F9 {sc:OD}{N:List Str} (O:Ok X F G sc N) (hu:b9 N=UC) {a:BT.E}{e:NX}{np pos:Pos} (hg:aL sc "dict"=UC) (hs:noStar e=UC) (he:PE X e (tD X F G a)) :
 PE X (.Call (.Name "dict" np) [e] [] pos) (tD X F G (.dk .of a)):=by
 intro zt s σ H Q I q;obtain ⟨m,sl,h,z,h',R,S,ee,zr⟩:=q;simp only[BT.ev] at ee;obtain ⟨x,h1,e1,e2⟩:=ah ee;obtain ⟨ds,ps,rfl,e3,e4,rfl,rfl⟩:∃ ds ps,x=.p (.lst ds)/\BT.eY ds=UA ps/\ps.length<=BT.lim/\z=.k (.l (ps.foldl (λc p=>BT.c7 c p.1 p.2) []))/\h'=h1:=by
  cases x with
  | p d =>
   cases d with
   | lst ds =>
    rw[BT.xM] at e2;obtain ⟨ps,q1,q2⟩:=Option.bind_eq_some_iff.mp e2;split at q2
    case isFalse=>cases q2
    rename_i c;cases q2;exact ⟨ds,ps,rfl,q1,c,rfl,rfl⟩
   | _=>cases e2
  | _=>cases e2
 refine Call_ (dH (u:=.type "dict") I (aW O hg) (O.blt _ (by decide)) (by decide +kernel) (OG (thn (dW he ju (ai hs) pos zt s σ H (λvs H1=>∃ a vt,vs=[.ref a]/\∃ m1,Ext m H m1 H1/\RH X.K m1 H1 h'/\((Rd H1 a (.lst vt)/\a∉m1)\/KL X.K a vt)/\RDs X.K m1 H1 vt ds) I ?_) λus s1 ⟨vs,H1,I1,r1,q1⟩=>?_) (ai hs) rfl))
 ·refine ⟨m,sl,h,_,h',R,S,e1,λv H1 m1 x1 R1 r1=>?_⟩;cases r1 with
  | p r1 =>
   cases r1 with
   | @lst a vt _ hh r=>exact ⟨a,vt,rfl,m1,x1,R1,hh,r⟩
 ·obtain ⟨a,vt,rfl,m1,x1,R1,hh,r⟩:=q1;obtain ⟨u,rfl,ru⟩:=vals1 r1;cases ru;obtain ⟨z,its,nn,rv,hl,ee⟩:=rdL I1 (hh.elim (λq=>.inl q.1) .inr);obtain ⟨ws,us,kv,rk,l,pa⟩:=pairs_at I1 r rv e3;have l1:=rk.length;have l2:=kv.length;obtain ⟨k1,k2⟩:=yO kv rk (K:=X.K) (m:=m1) (H:=H1) (ws:=[]) (vs:=[]) (kvs:=[]) .nil .nil;have hp:H1 s1.heap.objs.size=UB:=I1.hok.fresh (N3 _);have li:=bN;have fl:=qa ws [];refine BX.j0 (knd:=au X.prog X.w) (ps:=us) (I1.ok.hd (O.calm hu)) ee ⟨by simp[l],λj p hj=>?_⟩ (by lia) λh2 tk dd k=>?_
  ·obtain ⟨q,key,o,n,g1,g2,g3,g4,g5⟩:=pa j p hj;have lt:=N6 g2;exact ⟨q,key,o,n,by simpa using g1,On lt,On lt,g2,g3,g4,g5⟩
  ·obtain ⟨ob,es,ep,ho,ra⟩:=id dd;have x:Ext m1 H1 m1 (upd H1 s1.heap.objs.size (.frz ob (.dK (ws.foldl (λc p=>putK c p.1 p.2) [])))):=d9 hp;refine ⟨.ref s1.heap.objs.size,_,I1.laid (a:=s1.heap.objs.size) (o:=.frz ob (.dK (ws.foldl (λc p=>putK c p.1 p.2) []))) (t':=tk) k (N3 _) ⟨ho,xr (by simp at fl;lia) (beq_eq_false_iff_ne.mpr (Pb (On I1.big))) k1 dd⟩,rfl,?_⟩;exact zr _ _ m1 (x1.trans x) (R1.ext x (rG hp)) (.kl ⟨aB,R1.cY hp⟩ (k2.ext x))
end
section
theorem ko {prog:Ot}{w:OR}{h:Heap}{a:Of}{o:Obj}{es:Array Q7}{us:List (Key×N1)} (ho:h.get? a=UA o) (hd:o.data=.dict es ep) (D:h.DictOf (au prog w) a us):h.DictAt (au prog w) a us ep:=by obtain ⟨o',es',ep',g1,g2,g3,r⟩:=D;rw[ho] at g1;cases g1;rw[hd] at g3;cases g3;exact ⟨o,es,ho,g2,hd,r⟩
theorem DU {P:Ot}{w:OR}{k:Key}{u:N1} (h:(au P w).is k u=UC):RelV (kV k) u:=by
 rcases aF (show jN k u=UC from h) with ⟨i,t,rfl,rfl⟩|⟨x,t,rfl,rfl⟩
 exact ⟨t,rfl⟩;exact ⟨t,rfl⟩
noncomputable def Itd (a:Of) (o:Obj) (ws:List (Key×V)):It :=
 ⟨λi H=>H a=UA (.frz o (.dK ws))/\i < ws.length,λi H x H'=>H'=H/\∃ p,ws[i]?=UA p/\x=kV p.1,λi H=>H a=UA (.frz o (.dK ws))/\ws.length<=i⟩
theorem vG {P:Ot}{w:OR}{tg:NX} (a it:Of) {o:Obj} (ws:List (Key×V)) {es:Array Q7} (hd:o.data=.dict es ep):Turn P w K tg (Itd a o ws) [it] it (λi h=>h.IsKeyIter it a i ws.length ep) where
 mem:=by simp
 obj:=λi h st b hb=>by
  have e:b=it:=by simpa using hb
  subst e;obtain ⟨o,e,c,d⟩:=st;exact ⟨o,e,λv z=>by rw[d] at z;cases z⟩
 keep:=λi h h' st k=>let ⟨q,e,r⟩:=st;⟨q,k it (by simp) q e,r⟩
 item:=by intro X hP hw hK hc i zt s σ H E I hf st hg;subst hP hw hK;obtain ⟨ha,hi⟩:=hg;obtain ⟨z,hn,us,rel,dd⟩:=mQ I.hok (.inr ⟨o,ha⟩);have ho:s.heap.get? a=UA o:=(I.hok a _ ha).1;have da:=ko ho hd dd;have ln:=rel.length;obtain ⟨⟨k,u⟩,hq,e1,_⟩:=yN rel (N7 hi);obtain ⟨f0,f1,f2,f3,f4,f5⟩:=hf it (by simp);refine wpAny_pyNext_dict_item (kvs:=us) (k:=k) (v:=u) (by rw[← ln];exact st) da hq λkey h' hk st' sb=>?_;have I1:Inv X zt σ H { s with heap:=h' }:=I.turned (t':=s.toks) (λb o hb e=>(sb.2 b hb).trans e) f0 f1 f3 f4 f5;rw[← ln] at st';obtain ⟨o',e,c,d⟩:=id st';have e1:ws[i].1=k:=e1;refine ⟨key,rfl,o6 (s:={ s with heap:=h' }) e c d (by decide) ⟨kV k,H,I1,DU hk,⟨rfl,ws[i],N7 hi,by rw[e1]⟩,st',λb hb=>(hf b hb).1⟩⟩
 done:=by intro X hP hw hK hc i zt s σ H E I hf st hg;subst hP hw hK;obtain ⟨ha,hi⟩:=hg;obtain ⟨z,hn,us,rel,dd⟩:=mQ I.hok (.inr ⟨o,ha⟩);have ho:s.heap.get? a=UA o:=(I.hok a _ ha).1;have da:=ko ho hd dd;have ln:=rel.length;obtain ⟨f0,f1,f2,f3,f4,f5⟩:=hf it (by simp);exact wpAny_pyNext_dict_end (I.ok.hd hc) (kvs:=us) (by rw[← ln];exact st) da (Od (by lia)) λh' eb=>⟨rfl,I.turned (t':=s.toks) (λb o hb e=>eb b o hb e) f0 f1 f3 f4 f5⟩
 self:=λ_ _ _ _ _ st h=>wpAny_pyIter_keyiter st h
theorem BK {m:List Of}{H:Hp}{ws:List (Key×V)}{kvs:List (BT.Ky×BT.D)} (r:RKs K m H ws kvs):RDs K m H (ws.map λp=>kV p.1) (kvs.map λq=>BT.gW q.1):=by
 induction r with
 | nil=>exact .nil| cons hk r t ih=>exact .cons hk ih
theorem BN {C:BT.HH->Prop}{m0:List Of}{H0:Hp}{a:Of}{o:Obj}{ws:List (Key×V)}{kvs:List (BT.Ky×BT.D)} (h:H0 a=UA (.frz o (.dK ws))/\a∉m0) (r:RKs K m0 H0 ws kvs):pW K (Itd a o ws) m0 H0 (kvs.map λq=>BT.gW q.1) C:=by have k:∀ {m H},Ext m0 H0 m H->H a=UA (.frz o (.dK ws)):=λx=>x.keep _ _ h.1 h.2 rfl;have l:=r.length;refine ⟨λm H hh i x _ _ hi=>⟨k x,by rw[Oh] at hi;lia⟩,λm H hh i v H' d x RR _ hd y=>?_,λm H _ x _ _=>⟨k x,by rw[Oh];lia⟩⟩;obtain ⟨rfl,p,y1,rfl⟩:=y;obtain ⟨u,h1,h2⟩:=((BK r).ext x).get hd;rw[Ox,y1] at h1;cases h1;exact ⟨.refl _ _,λ_ _ e=>e,h2⟩
variable {F:FT}{G:Str->Option BT.W}
theorem yP {x z:BT.W}{h h':BT.HH}{k:BT.Dk} (hk:k≠.of) (e:BT.kDk k x h=UA (z,h')):∃ kvs,x=.k (.l kvs):=by
 cases k with
 | of=>exact absurd rfl hk
 | ks =>
  cases x with
  | k q=>cases q with
   | l kvs=>exact ⟨kvs,rfl⟩| t _=>cases e
  | _=>cases e
 | so =>
  cases x with
  | k q=>cases q with
   | l kvs=>exact ⟨kvs,rfl⟩| t _=>cases e
  | _=>cases e
theorem yQ {X:Cx}{tg x:NX}{a:BT.E} (he:PE X x (tD X F G a)):PI X tg x (iD X F G .seq (.cons (.dk .ks a) .nil)):=by
 intro zt s σ H R I q;obtain ⟨m,s',h,ws,h',ds,RR,S,e,e2,ha,zr⟩:=q;obtain ⟨w,rfl,e4⟩:=kj e;simp only[BT.ev] at e4;obtain ⟨y,h1,e5,e6⟩:=ah e4;obtain ⟨kvs,rfl⟩:=yP (k:=.ks) (λz=>by cases z) e6;rw[BT.Fd] at e6;cases e6;have ed:ds=kvs.map λq=>BT.gW q.1:=by have e2:(UA (kvs.map λq=>BT.gW q.1):Option (List BT.D))=UA ds:=e2;exact (Ob e2).symm
 subst ed;refine thn (he zt s σ H (λv H1=>∃ m1 a o ws,v=.ref a/\Ext m H m1 H1/\RH X.K m1 H1 h'/\(H1 a=UA (.frz o (.dK ws))/\a∉m1)/\RKs X.K m1 H1 ws kvs) I ⟨m,s',h,_,h',RR,S,e5,λv H1 m1 x1 R1 r1=>?_⟩) λv s1 ⟨x,H1,I1,r1,q1⟩=>?_
 ·cases r1 with
  | @kl a o ws _ hh r=>exact ⟨m1,a,o,ws,rfl,x1,R1,hh,r⟩
 ·obtain ⟨m1,a,o,ws,rfl,x1,R1,hh,r⟩:=q1;cases r1;obtain ⟨z,hn,us,rel,dd⟩:=mQ I1.hok (.inr ⟨o,hh.1⟩);have ho:s1.heap.get? a=UA o:=(I1.hok a _ hh.1).1;obtain ⟨o',es,ep,g1,g2,g3,_⟩:=id dd;rw[ho] at g1;cases g1;have ln:=rel.length;refine wpAny_pyIter_dict hn (ko ho g3 dd) ?_;refine ⟨s1.heap.objs.size,[s1.heap.objs.size],_,_,H1,rfl,I1.kept (t':=s1.toks) λb o e=>NW _ e,vG a _ ws g3,⟨_,N8 _ rfl,rfl,by rw[ln];rfl⟩,λb hb=>?_,zr H1 m1 _ x1 R1 (BN hh r)⟩;have e:b=s1.heap.objs.size:=by simpa using hb
  subst e;exact I1.wM (N3 _) (I1.hok.fresh (N3 _))
theorem BO {m:List Of}{H:Hp}{ws:List (Key×V)}{kvs:List (BT.Ky×BT.D)} (r:RKs K m H ws kvs):∀ {ns:List Int},BT.jS kvs=UA ns->ws.map (·.1)=ns.map Sum.inl:=by
 induction r with
 | nil=>intro ns e;cases e;rfl
 | @cons k v d vs kvs hk r t ih =>
  intro ns e;cases k with
  | inl k =>
   obtain ⟨n2,e1,rfl⟩:=ay (show (BT.jS kvs).map (k :: ·)=UA ns from e);simp[ih e1]
  | inr _=>cases e
theorem ints_list {prog:Ot}{w:OR}:∀ {vs:List N1}{ns:List Int}{us:List (Key×N1)},us.map (·.1)=ns.map Sum.inl->vs.length=us.length->(∀ (j:Nat) v,vs[j]?=UA v->∃ k x,us[j]?=UA (k,x)/\(au prog w).is k v=UC)->Tv vs ns:=by
 intro vs
 induction vs with
 | nil =>
  intro ns us e l h;have:us=[]:=List.length_eq_zero_iff.mp l.symm;subst this;cases ns with
  | nil=>exact .nil| cons _ _=>cases e
 | cons v vs ih =>
  intro ns us e l h;cases us with
  | nil=>cases l
  | cons p us =>
   cases ns with
   | nil=>cases e
   | cons n ns =>
    obtain ⟨k,x,q1,q2⟩:=h 0 v rfl;cases q1;have e0:k=Sum.inl n:=by simpa using (Uz e).1
    subst e0;obtain ⟨t,rfl⟩:=(show ∃ t,v=Q6 n t from DU q2);exact .cons n t (ih (Uz e).2 (by simpa using l) λj v q=>h (j+1) v (by simpa using q))
theorem rL {prog:Ot}{w:OR}{ns:List Int}{us:List (Key×N1)} (e:us.map (·.1)=ns.map Sum.inl) {acc:Array N1} (h:ItemsOf (λi v=>∃ k x,us[i]?=UA (k,x)/\(au prog w).is k v=UC) acc us.length):Tv acc.toList ns :=
 ints_list e (by simpa using h.1) λj v q=>h.2 j v (by simpa using q)
theorem BP {ws:List (Key×V)}{us:List (Key×N1)} (r:KV ws us):us.map (·.1)=ws.map (·.1):=by
 unfold KV at r
 induction r with
 | nil=>rfl| cons h t ih=>rw[Oi,Oi,ih,h.1]
def Js (prog:Ot) (w:OR) (us:List (Key×N1)) (s:N4) (q:T6) (s':N4):Prop :=
 ∃ h' tk acc c,q=.ok (.ret (.ref s.heap.objs.size))/\s'={ s with heap:=h',toks:=tk }/\(∀ b o,s.heap.get? b=UA o->h'.get? b=UA o)/\h'.get? s.heap.objs.size=UA { cls:=.type "list",dict:=UB,data:=.seq acc c,slots:=#[] }/\ItemsOf (λi v=>∃ k x,us[i]?=UA (k,x)/\(au prog w).is k v=UC) acc us.length
theorem n9 {prog:Ot}{w:OR}{A:PK}{E:N1->N4->Prop}{s:N4}{a:Of}{us:List (Key×N1)}{R:List N1->N4->Prop} (hh:A.handled=UB) (hn:(a==Py)=UD) (D:s.heap.DictAt (au prog w) a us ep) (hz:us.length<=sizeLine)
 (h:∀ h' tk acc,(∀ b o,s.heap.get? b=UA o->h'.get? b=UA o)->s.heap.objs.size<=h'.objs.size->ItemsOf (λi v=>∃ k x,us[i]?=UA (k,x)/\(au prog w).is k v=UC) acc us.length->R acc.toList { s with heap:=h',toks:=tk }):wpAny (Ow prog w) A (collect (.ref a)) R E s:=by
 have K:=PySem.W.kdl_dict (prog:=prog) (w:=w) (knd:=au prog w) (kvs:=us) (ep:=ep) hn;have lt:=D.lt_size;have at0:(s.heap.push { cls:=.type "list",data:=.seq ([]:List N1).toArray }).get? s.heap.objs.size=UA { cls:=.type "list",data:=.seq #[] }:=N8 _ rfl;unfold collect;refine NZ (wpAny_runValue (codeAny_builtin entry_proto_collect' ?_));rw[Qx PySem.F.plain_proto_collect _];show wpAny _ A.in1 (newList [] >>= λl=>again (.builtin "list.__iadd__" ⟨[l,.ref a],[]⟩)) _ _ s;refine NZ (Px ?_);refine wpAny_pure ⟨plainId_quiet SG _,codeAny_builtin entry_list_iadd' ?_⟩;rw[Qx SG _];show wpAny _ A.in1 (Pw (.ref s.heap.objs.size) (.ref a) (.ref s.heap.objs.size)) _ _ _;refine wpAny_mono (PySem.W.kdl_extend (A:=A) (R:=Js prog w us s) (s:={ s with heap:=s.heap.push { cls:=.type "list",data:=.seq ([]:List N1).toArray } }) K hh (D.push _) s.heap.objs.size (PR lt) (PR lt) (.ref s.heap.objs.size) 0 at0
  (λh' tk acc c k1 k2 k3=>⟨h',tk,acc,c,rfl,rfl,λb o e=>k1 b o (On (N6 e)) (NW _ e),k2,k3⟩) hz) (λf s' x=>?_) λe s' x=>?_
 ·cases f with
  | done f =>
   obtain ⟨h',tk,acc,c,e,rfl,k1,k2,k3⟩:=x;cases e;exact NZ (RI k2 (wpAny_pure (h h' tk acc k1 (O0 (N6 k2)) k3)))
  | again c₁ =>
   refine ⟨x.1,codeAny_mono x.2 λq s₂ y=>?_⟩;obtain ⟨h',tk,acc,c,rfl,rfl,k1,k2,k3⟩:=y;exact NZ (RI k2 (wpAny_pure (h h' tk acc k1 (O0 (N6 k2)) k3)))
 ·obtain ⟨_,_,_,_,e',_⟩:=x;cases e'
theorem Ga {X:Cx}{sc:OD}{N:List Str} (O:Ok X F G sc N) (hu:b9 N=UC) {a:BT.E}{e:NX}{np pos:Pos} (hg:aL sc "sorted"=UC) (hs:noStar e=UC) (he:PE X e (tD X F G a)) :
 PE X (.Call (.Name "sorted" np) [e] [] pos) (tD X F G (.dk .so a)):=by
 intro zt s σ H Q I q;obtain ⟨m,sl,h,z,h',R,S,ee,zr⟩:=q;simp only[BT.ev] at ee;obtain ⟨x,h1,e1,e2⟩:=ah ee;obtain ⟨kvs,rfl⟩:=yP (k:=.so) (λz=>by cases z) e2;rw[BT.nK] at e2;obtain ⟨ns,e3,e4⟩:=Option.bind_eq_some_iff.mp e2;split at e4
 case isFalse=>cases e4
 rename_i c;cases e4;refine Call_ (dH (u:=.builtin "sorted") I (aW O hg) (O.blt _ (by decide)) (by decide +kernel) (Rj (thn (dW he ju (ai hs) pos zt s σ H (λvs H1=>∃ m1 a o ws,vs=[.ref a]/\Ext m H m1 H1/\RH X.K m1 H1 h'/\(H1 a=UA (.frz o (.dK ws))/\a∉m1)/\RKs X.K m1 H1 ws kvs) I ?_) λus s1 ⟨vs,H1,I1,r1,q1⟩=>?_) (ai hs) rfl))
 ·refine ⟨m,sl,h,_,h',R,S,e1,λv H1 m1 x1 R1 r1=>?_⟩;cases r1 with
  | @kl a o ws _ hh r=>exact ⟨m1,a,o,ws,rfl,x1,R1,hh,r⟩
 ·obtain ⟨m1,a,o,ws,rfl,x1,R1,hh,r⟩:=q1;obtain ⟨u,rfl,ru⟩:=vals1 r1;cases ru;obtain ⟨z,hn,us,rel,dd⟩:=mQ I1.hok (.inr ⟨o,hh.1⟩);have ho:s1.heap.get? a=UA o:=(I1.hok a _ hh.1).1;obtain ⟨o',es,ep,g1,g2,g3,_⟩:=id dd;rw[ho] at g1;cases g1;have ln:=rel.length;have hi:=BO r e3;have lw:ws.length=ns.length:=by simpa using congrArg QG hi
  have hk:us.map (·.1)=ns.map Sum.inl:=(BP rel).trans hi;refine pZ (n9 (I1.ok.hd (O.calm hu)) hn (ko ho g3 dd) (by lia) λh2 tk acc k ge it=>?_);have ia:=rL hk it;have la:=Ub ia;refine ⟨by lia,?_⟩;refine PyProof.Rows.list_sort_tree (N8 _ rfl) ia (by lia) λout ns' a1 a2 a3=>⟨_,rfl,?_⟩;obtain ⟨e,he'⟩:=PyProof.Rows.sortedHeap_at (h:=h2.push (seqObj "list" acc.toList.toArray 0)) (a:=h2.objs.size) (vs:=acc.toList) (n:=0) (out:=out) (N8 _ rfl);have es':ns'=BT.sortI ns:=T8 (a2.trans (BT.sortI_perm ns).symm) a3 (BT.pK _);subst es';have hv:=jv a1;have sl:sizeLine=16777216:=Tj;have l2:(BT.sortI ns).length=ns.length:=(BT.sortI_perm _).length_eq;refine ⟨.ref _,_,I1.laid (o:=.lst ((BT.sortI ns).map V.int)) (t':=tk) (λb u q=>?_) ge ⟨by rw[Oh];lia,out.toList,e,hv,he'⟩,rfl,gK R1 (I1.hok.fresh ge) (pR _) λv5 H5 m5 x5 R5 r5=>zr v5 H5 m5 (x1.trans x5) R5 r5⟩;have q2:=k b u q;have lt:=N6 q2;rw[PyProof.Rows.sortedHeap_old (On lt) (by rw[Qp];exact Sb lt)];exact NW _ q2
end
section
theorem BQ:∀ {xs:List V}{us:List N1},xs.length=us.length->(∀ (j:Nat) x u,xs[j]?=UA x->us[j]?=UA u->RelV x u)->ao xs us:=by
 intro xs
 induction xs with
 | nil =>
  intro us h _;cases us with
  | nil=>exact .nil| cons _ _=>simp at h
 | cons x xs ih =>
  intro us h q;cases us with
  | nil=>simp at h| cons u us=>exact .cons (q 0 x u rfl rfl) (ih (by simpa using h) λj a b e1 e2=>q (j+1) a b (by simpa using e1) (by simpa using e2))
end
end BS
end
section
namespace BX
open PySem PyProof.Rows
section
variable {prog:Ot}{w:OR}{A:PK}{E:N1->N4->Prop}{s:N4}{R:T6->N4->Prop}
end
section
variable {E:N1->N4->Prop}
end
end BX
namespace BS
open PySem PySem.Spec PyProof.Rows L2
section
end
end BS
end
section
namespace BS
open PySem PySem.Spec PyProof.Rows L2
section
end
noncomputable def j6 (sc:OD) (x:Str):Bool:=match sc.names.lookup x with
 | some .local=>UC| some .cell=>UC| _=>UD
inductive CT (sc:OD) (N:List Str):List (Nat×Str)->NX->Prop where
 | one {i:Nat}{x:Str}{p:Pos} (h1:N[i]?=UA x) (h2:j6 sc x=UC):CT sc N [(i,x)] (.Name x p)
 | two {i j:Nat}{x y:Str}{p p1 p2:Pos}{k:Nat} (h1:N[i]?=UA x) (h2:j6 sc x=UC) (h3:N[j]?=UA y) (h4:j6 sc y=UC):CT sc N [(i,x),(j,y)] (.Tuple [.Name x p1,.Name y p2] k p)
section
theorem RS.set {K:NV} (S:RS P w K m H σ s) (r:RW P w K m H v z):RS P w K m H (σ.set i (UA v)) (s.set i (UA z)):=by
 refine ⟨by simp[S.len],λj y e=>?_⟩
 by_cases c:i=j
 ·subst c;have hl:i < s.length:=by
   rcases Os i s.length with q|q
   exact q;rw[Od (by simpa using q)] at e;cases e
  rw[O2 hl] at e;cases e;exact ⟨v,by rw[O2 (by rw[S.len];exact hl)],r⟩
 ·rw[OH c] at e;obtain ⟨u,h1,h2⟩:=S.get j y e;exact ⟨u,by rw[OH c];exact h1,h2⟩
theorem iE (O:Ok X F G sc N) (h:j6 sc x=UC):L2.Loc X.env.scope x:=by
 rw[O.hsc];unfold j6 at h;unfold L2.Loc;cases e:sc.names.lookup x with
 | none=>rw[e] at h;cases h
 | some k=>rw[e] at h;cases k<;>first|(exact .inl rfl)|(exact .inr rfl)|cases h
theorem tQ (h:iy e=UC):∀ x,foldedSetIterable e env x=pure x:=by intro x;cases e<;>first|rfl|cases h
def GOk (X:Cx) (tg:List (Nat×Str)) (g:TG):Prop:=∀ (m:List Of) (H:Hp) (σ:L2.St) (s:BT.Sl) (x:V) (d:BT.D) (ds:List BT.D) (Q:L2.St->Hp->Prop),RS X.prog X.w X.K m H σ s->RD X.K m H x d->BT.target tg.length d=UA ds →
 (∀ σ',RS X.prog X.w X.K m H σ' (BT.sets tg ds s)->Q σ' H)->g x σ H Q
theorem sCT (O:Ok X F G sc N) (hc:X.calm=UC) (h:CT sc N tg te) (hf:∀ q∈tg,X.fn q.2=UC\/X.env.scope.names.lookup q.2=UA .local):∃ g,PG X te g/\GOk X tg g:=by
 cases h with
 | @one i x p h1 h2 =>
  refine ⟨_,nq (i:=i) O.nd (by rw[O.hN];exact h1) (iE O h2) (hf (i,x) (by simp)),?_⟩;intro m H σ s v d ds Q S r e q;simp only[Oq,O6,TX,BT.gf] at e;cases e;exact q _ (S.set (.p r))
 | @two i j x y p p1 p2 k h1 h2 h3 h4 =>
  refine ⟨_,Em (n:=2) hc (o5 (nq (i:=i) O.nd (by rw[O.hN];exact h1) (iE O h2) (hf (i,x) (by simp))) (o5 (nq (i:=j) O.nd (by rw[O.hN];exact h3) (iE O h4) (hf (j,y) (by simp))) Az)),?_⟩;intro m H σ s v d ds Q S r e q;have e:BT.unpack 2 d=UA ds:=e;cases r with
  | @tup a vs dd h r =>
   rw[BT.xC] at e;split at e
   ·rename_i c;cases e;have hl:=r.length;refine ⟨a,vs,rfl,h.elim (λq=>.inl q.1) λ⟨o,its,n,q,_⟩=>.inr ⟨o,its,n,q⟩,by rw[hl];exact c,?_⟩;cases r with
    | nil=>simp at c
    | @cons v1 d1 vs' ds' ra t =>
     cases t with
     | nil=>simp at c
     | @cons v2 d2 vs2 ds2 rb t2 =>
      cases t2 with
      | cons _ _=>simp at c
      | nil =>
       refine ⟨v1,[v2],rfl,?_⟩;show DA (oZ j) El [v2] (σ.set i (UA v1)) H Q;refine ⟨v2,[],rfl,?_⟩;show El [] ((σ.set i (UA v1)).set j (UA v2)) H Q;refine ⟨rfl,q _ ?_⟩;show RS X.prog X.w X.K m H ((σ.set i (UA v1)).set j (UA v2)) ((s.set i (UA (.p d1))).set j (UA (.p d2)));exact RS.set (RS.set S (.p ra)) (.p rb)
   cases e
  | _=>cases e
end
end BS
end
section
namespace BC
open PySem
section
theorem vH {target:NX} (I:Nat->N4->Prop)
 (turn:∀ n s,I n s->wpAny (Ow prog w) A (pyNext it) (λr s₁=>match r with
  | none=>R (.ok .next) s₁
  | some v=>wpAny (Ow prog w) A (Rz target it v) (λ_ s₀=>wpAny (Ow prog w) A (To target env v) (λ_ s₂ =>
   wpAny (Ow prog w) A (forIn ifs UC λc r=>if r=UC then do let ok ← isTrue c env (eval c env);pure (QW ok) else pure (QW r)) (λok s₃ =>
    if ok=UC then wpAny (Ow prog w) A (eval elt env) (λx s₄ =>
     wpAny (Ow prog w) A (call (.builtin "list.append") [acc,x]) (λ_ s₅=>∃ m,m < n/\I m s₅) (λ_ _=>False) s₄) (λ_ _=>False) s₃
    else ∃ m,m < n/\I m s₃) (λ_ _=>False) s₂) (λ_ _=>False) s₀) (λ_ _=>False) s₁) (λ_ _=>False) s)
 (n:Nat) (h:I n s):codeAny (Ow prog w) A (.compLoop (.ListComp elt [⟨target,iter,ifs,0⟩] scope pos) 0 it acc env) R s:=by
 refine codeAny_loop rfl I (λn s hI=>?_) n h;show wpAny _ A ((compTurn (.ListComp elt [⟨target,iter,ifs,0⟩] scope pos) 0 it acc env).onRaise (λx=>do noteFrame x env;theTreesLotGoes x)) _ _ s;refine wpAny_noted ?_;rw[compTurn_list];refine NZ (Ui (NZ (wpAny_mono (turn n s hI) (λr s₁ h₁=>?_) λ_ _ h'=>h'.elim)));cases r with
 | none=>exact wpAny_pure h₁
 | some v =>
  refine NZ (wpAny_mono h₁ (λ_ s₀ h₀'=>?_) λ_ _ h'=>h'.elim);refine NZ (wpAny_mono h₀' (λ_ s₂ h₂=>NZ (wpAny_mono h₂ (λok s₃ h₃=>?_) λ_ _ h'=>h'.elim)) λ_ _ h'=>h'.elim);cases ok with
  | false=>exact wpAny_pure ⟨rfl,h₃⟩
  | true =>
   exact NZ (NZ (wpAny_mono h₃ (λx s₄ h₄=>NZ (wpAny_mono h₄ (λ_ s₅ h₅=>wpAny_pure (wpAny_pure ⟨rfl,h₅⟩)) λ_ _ h'=>h'.elim)) λ_ _ h'=>h'.elim))
end
noncomputable def bW (cells:List (Str×Of)):List (Str×Qd)->List (Str×Of)->List (Str×Of)
 | [],acc=>acc
 | (n,k)::r,acc=>if k==.free then (match cells.lookup n with|some c=>bW cells r ((n,c)::acc)|none=>bW cells r acc) else bW cells r acc
def rM (cells:List (Str×Of)) (names:List (Str×Qd)):Prop:=∀ x∈names,x.2=.free->∃ c,cells.lookup x.1=UA c
theorem k9:∀ (names:List (Str×Qd)) (acc:List (Str×Of)),rM env.cells names →
 (forIn names acc λx (r:List (Str×Of))=>(if x.2==.free then do let c ← cellOf env x.1;pure (QW ((x.1,c)::r)) else pure (QW r):Sem (ForInStep (List (Str×Of)))))=pure (bW env.cells names acc)
 | [],acc,_=>rfl
 | (n,k)::r,acc,h=>by
  have ih:=λacc=>k9 (env:=env) r acc λx hx=>h x (Oa _ hx);rw[List.forIn_cons]
  by_cases c:k=.free
  ·subst c;obtain ⟨a,e⟩:=h (n,.free) Oe rfl;have e:env.cells.lookup n=UA a:=e;simp only[bW,e];show (cellOf env n >>= _) >>= _=_;unfold cellOf;rw[e];exact ih _
  ·have cb:(k==OU)=UD:=by simpa using c
   simp only[bW,cb];exact ih _
theorem jH {α β:Type}{m m':Sem α}{f:α->Sem β} (h:m=m'):(m >>= f)=(m' >>= f):=by rw[h]
theorem lg {scope:OD}{env:Env} (h:rM env.cells scope.names):closureFor scope env=pure (bW env.cells scope.names []):=by have:=k9 (env:=env) scope.names [] h;unfold closureFor;exact (jH this).trans rfl
theorem lu:∀ {names:List (Str×Qd)}{acc:List (Str×Of)},(∀ x c,acc.lookup x=UA c->cells.lookup x=UA c)->∀ x c,(bW cells names acc).lookup x=UA c->cells.lookup x=UA c
 | [],acc,h,x,c,e=>h x c e
 | (n,k)::r,acc,h,x,c,e=>by
  rw[bW] at e;split at e
  ·split at e
   ·rename_i a ea;refine lu (λy b q=>?_) x c e;rw[OZ] at q;split at q
    ·rename_i hy;have:y=n:=by simpa using hy
     subst this;cases q;exact ea
    exact h y b q
   exact lu h x c e
  exact lu h x c e
theorem kq:∀ {names:List (Str×Qd)}{acc:List (Str×Of)},(∃ c,acc.lookup x=UA c)->∃ c,(bW cells names acc).lookup x=UA c
 | [],acc,h=>h
 | (n,k)::r,acc,h=>by
  rw[bW];split
  ·split
   ·refine kq ?_;rw[OZ];split;exact ⟨_,rfl⟩;exact h
   exact kq h
  exact kq h
theorem ly:∀ {names:List (Str×Qd)}{acc:List (Str×Of)},(x,OU)∈names->(∃ c,cells.lookup x=UA c)->∃ c,(bW cells names acc).lookup x=UA c
 | [],acc,h,_=>nomatch h
 | (n,k)::r,acc,h,q=>by
  rw[bW];rcases List.mem_cons.mp h with e|e
  ·cases e;obtain ⟨c,ec⟩:=q;rw[if_pos (by rfl),ec];refine kq ?_;exact ⟨c,by simp⟩
  ·split
   ·split;exact ly e q;exact ly e q
   exact ly e q
end BC
end
section
namespace BS
open PySem PySem.Spec PyProof.Rows L2
variable {cond:BT.Es}
def lz (F:FT) (G:Str->Option BT.W) (sc:OD) (N:List Str) (cond:BT.Es) (ifs:List NX):Prop :=
 (cond=.nil/\ifs=[])\/∃ c c',cond=.cons c .nil/\ifs=[c']/\∀ X',Ok X' F G sc N->PT X' c' (tDT X' F G c)
structure qb (sc:OD) (N tg:List Str) (fv:List (Nat×Str)) (scope:OD):Prop where
 k1:scope.kind=.function
 k2:sc.kind=.function
 cell:∀ y∈scope.names,y.2≠.cell
 loc:∀ y∈scope.names,y.2=.local->scope.names.lookup y.1=UA .local
 free:∀ y∈scope.names,y.2=.free->sc.names.lookup y.1=UA .cell
 fvs:∀ q∈fv,N[q.1]?=UA q.2/\(q.2,OU)∈scope.names/\sc.names.lookup q.2=UA .cell/\(aV scope sc).names.lookup q.2=UA .cell
 nd:(tg++fv.map (·.2)).Nodup
theorem mX:∀ {l:List Str},iz l=UC->l.Nodup
 | [],_=>SQ
 | x::r,h=>by simp only[iz,NY,Qm] at h;refine List.nodup_cons.mpr ⟨λz=>?_,mX h.2⟩;have:=h.1;simp[z] at this
theorem Jt (h:iA sc N tg fv scope=UC):qb sc N tg fv scope:=by
 simp only[iA,NY] at h;obtain ⟨⟨⟨⟨⟨⟨h1,h2⟩,h3⟩,h4⟩,h5⟩,h6⟩,h7⟩:=h;rw[O8] at h3 h4 h5 h6;refine ⟨eq_of_beq h1,eq_of_beq h2,λy hy e=>?_,λy hy e=>?_,λy hy e=>?_,λq hq=>?_,mX h7⟩
 ·have:=h3 y hy;rw[e] at this;simp at this
 ·have:=h4 y hy;rw[e] at this;simpa using this
 ·have:=h5 y hy;rw[e] at this;simpa using this
 ·have:=h6 q hq;simp only[NY] at this;obtain ⟨⟨⟨a,b⟩,c⟩,d⟩:=this;exact ⟨by simpa using a,by simpa using b,by simpa using c,by simpa using d⟩
theorem iF {sc:OD}{x:Str}{k:Qd} (hk:k=.cell\/k=.free):∀ {names:List (Str×Qd)},(∀ y∈names,y.2≠.cell) →
 (names.map λ(n,k)=>if (k==OU&&sc.kind==.function&&sc.names.lookup n==UA .cell) then (n,Rl) else (n,k)).lookup x=UA k->(x,OU)∈names
 | [],_,h=>by simp at h
 | (n,q)::r,hc,h=>by
  have ih:=iF (sc:=sc) (x:=x) hk (names:=r) λy hy=>hc y (Oa _ hy);replace h:P4 x ((if (q==OU&&sc.kind==.function&&sc.names.lookup n==UA .cell)=UC then (n,Rl) else (n,q))::(r.map λ(n,k)=>if (k==OU&&sc.kind==.function&&sc.names.lookup n==UA .cell) then (n,Rl) else (n,k)))=UA k:=h;have go:∀ (q':Qd),(q'=q\/(q'=.cell/\q=.free))->P4 x ((n,q')::(r.map λ(n,k)=>if (k==OU&&sc.kind==.function&&sc.names.lookup n==UA .cell) then (n,Rl) else (n,k)))=UA k->(x,OU)∈(n,q)::r:=by
   intro q' hq gl;rw[OZ] at gl;split at gl
   ·rename_i hx;have hx:x=n:=by simpa using hx
    subst hx;have e:q'=k:=Ob gl;have hqf:q=.free:=by
     rcases hq with rfl|⟨_,e2⟩
     ·rcases hk with z|z
      exact absurd (e.trans z) (hc (x,q') Oe);exact e.trans z
     exact e2
    rw[hqf];exact Oe
   exact Oa _ (ih gl)
  by_cases c:(q==OU&&sc.kind==.function&&sc.names.lookup n==UA .cell)=UC
  ·rw[if_pos c] at h;refine go .cell (.inr ⟨rfl,?_⟩) h;simp only[NY] at c;exact eq_of_beq c.1.1
  ·rw[if_neg c] at h;exact go q (.inl rfl) h
noncomputable def blk (X:Cx) (N':List Str) (s2:N4) (H1:Hp) (scope:OD) (C:Of) (fp:List Of):Cx :=
 { X with N:=N',s₀:=s2,H₀:=H1,env:=Ur scope (BC.bW X.env.cells scope.names []) C X.env,outer:=X.stack,stack:=X.stack,ex:=fp,fn:=λ_=>UD,pn:=[],xe:=λ_ _=>False }
section
variable {X:Cx}{F:FT}{G:Str->Option BT.W}{sc:OD}{N:List Str}{zt:List (Of×Obj)}{σ:L2.St}{H1:Hp}{s2:N4}
theorem jX {scope:OD}{x:Str}{c:Of} (e:(BC.bW X.env.cells scope.names []).lookup x=UA c):X.env.cells.lookup x=UA c :=
 BC.lu (λ_ _ z=>by simp at z) x c e
theorem qc (hsc:X.env.scope=sc) (x:Str):(Ur scope (BC.bW X.env.cells scope.names []) C X.env).kindOf x=(aV scope sc).names.lookup x:=by subst hsc;rfl
theorem tR (I1:Inv X zt σ H1 s2) (hsc:X.env.scope=sc) (cf:qb sc N tg fv scope) (hx:(x,OU)∈scope.names):∃ c,(BC.bW X.env.cells scope.names []).lookup x=UA c:=by refine BC.ly hx (I1.ok.has x (.inl ?_));have:=cf.free _ hx rfl;rw[← hsc] at this;exact this
theorem Gb (I1:Inv X zt σ H1 s2) (hsc:X.env.scope=sc) {scope:OD}{tg:List Str}{fv:List (Nat×Str)} (cf:qb sc N tg fv scope) {N':List Str}{C:Of}{fp:List Of} (hC:C=s2.heap.objs.size+1)
 (hf:∀ b∈fp,lS X zt H1 b) (hlt:∀ b∈fp,b < s2.heap.objs.size):(blk X N' s2 H1 scope C fp).Ok where
 mod:=I1.ok.mod
 kind:=cf.k1
 glob:=I1.ok.glob
 blt:=I1.ok.blt
 above:=by show s2.heap.objs.size<=C;rw[hC];exact P7 _
 inj:=λx y c a b=>I1.ok.inj x y c (jX a) (jX b)
 has:=λx hx=>by
  refine tR I1 hsc cf ?_;have hx':(aV scope sc).names.lookup x=UA .cell\/(aV scope sc).names.lookup x=UA .free:=by rw[← qc hsc (C:=C)];exact hx
  rcases hx' with e|e
  exact iF (.inl rfl) cf.cell e;exact iF (.inr rfl) cf.cell e
 cab:=λx c z=>by cases z
 hd:=I1.ok.hd
 frames:=I1.ok.frames
 stk:=.inl rfl
 exf:=λb hb=>⟨λz=>by have l:=hlt b hb;have z:b=C:=z;rw[z,hC] at l;exact absurd l (Nat.not_lt.mpr (P7 _)),λx c e=>(hf b hb).2.2.2.2.1 x c (jX e)⟩
 bs:=I1.bs
 bsz:=OO I1.ok.bsz I1.sz
 noex:=λb o e hb=>by
  have q:=(I1.ok.bs b o e).1;rcases (hf b hb).2.2.2.1 with z|z
  exact I1.ok.noex b o e z;exact absurd (N6 q) (Nat.not_lt.mpr z)
 exfs:=λb hb z=>by
  rcases List.mem_cons.mp (I1.kE b z) with e|e
  exact (hf b hb).2.1 e;exact (hf b hb).2.2.1 e
 g9:=I1.stack
 frf:=I1.nk
end
noncomputable def lobj (us:List N1) (n:Nat):Obj:={ cls:=.type "list",data:=.seq us.toArray n }
section
variable {X:Cx}{F:FT}{G:Str->Option BT.W}{sc:OD}{N:List Str}{zt:List (Of×Obj)}{σ:L2.St}{H1:Hp}{s2:N4}
noncomputable def iG (n:Nat) (σ:L2.St) (fv:List (Nat×Str)):L2.St:=Oo n UB++fv.map λq=>(σ[q.1]?).getD UB
theorem BU (I1:Inv X zt σ H1 s2) (hsc:X.env.scope=sc) (hN:X.N=N) (cf:qb sc N tg fv scope) (hC:C=s2.heap.objs.size+1)
 (hf:∀ b∈fp,lS X zt H1 b) (hlt:∀ b∈fp,b < s2.heap.objs.size) (old:∀ b o,s2.heap.get? b=UA o->h1.get? b=UA o) (hns:h1.Ns C m) (hD:h1.get? s2.heap.objs.size=UA (lobj [] 0)) :
 Inv (blk X (tg++fv.map (·.2)) s2 H1 scope C fp) [(s2.heap.objs.size,lobj [] 0)] (iG tg.length σ fv) H1 { s2 with heap:=h1,toks:=tk } where
 ok:=Gb I1 hsc cf hC hf hlt
 os:=rfl
 bare:=I1.bare
 base:=Un.kept old
 loc:=by
  refine ⟨m,hns,λi x v e1 e2 e3=>?_⟩;have e1:(tg++fv.map (·.2))[i]?=UA x:=e1;unfold iG at e2
  by_cases c:i < tg.length
  ·rw[N5 (by simpa using c),Qg,if_pos c] at e2;cases e2
  ·rw[Ol (by simpa using c)] at e2;rw[Ol (by simpa using c)] at e1;simp only[Qs,Ox] at e1 e2;cases g:fv[i - tg.length]? with
   | none=>rw[g] at e1;cases e1
   | some q =>
    rw[g] at e1 e2;simp only[Q2,QE] at e1 e2;subst e1;obtain ⟨f1,f2,f3,f4⟩:=cf.fvs q (N9 g);have e2':σ[q.1]?=UA (UA v):=by
     cases gg:σ[q.1]? with
     | none=>rw[gg] at e2;cases e2| some o=>rw[gg] at e2;simp only[Uw] at e2;rw[e2]
    obtain ⟨m0,hn0,hl0⟩:=I1.loc;obtain ⟨u,ru,lk⟩:=hl0 q.1 q.2 v (by rw[hN];exact f1) e2' (by rw[hsc];exact .inr (.inl f3));refine ⟨u,ru,?_⟩;have kc:X.env.kindOf q.2=UA .cell:=by show X.env.scope.names.lookup q.2=_;rw[hsc];exact f3
    rcases lk with ⟨k,_⟩|⟨k,c,ec,o,ho,hd⟩
    rw[kc] at k;cases k
    ·obtain ⟨c',ec'⟩:=tR I1 hsc cf f2;have:=jX ec';rw[ec] at this;cases this;refine .inr ⟨.inl ?_,c,ec',o,old c o ho,hd⟩;show (Ur scope (BC.bW X.env.cells scope.names []) C X.env).kindOf q.2=_;rw[qc hsc];exact f4
 cell:=λx c e=>by obtain ⟨v,o,ho,hd⟩:=I1.cell x c (jX e);exact ⟨v,o,old c o ho,hd⟩
 free:=I1.hok.fresh (by show s2.heap.objs.size<=C;rw[hC];exact P7 _)
 freeC:=λx c e=>I1.freeC x c (jX e)
 pin:=λp hp=>by
  have e:p=(s2.heap.objs.size,lobj [] 0):=by have:p∈[]++[(s2.heap.objs.size,lobj [] 0)]:=hp;simpa using this
  subst e;refine ⟨hD,I1.hok.fresh (N3 _),?_,?_,λv z=>by cases (show Data.seq _ _=Data.cell v from z)⟩
  ·show s2.heap.objs.size≠C;rw[hC];exact On (Pk _)
  ·intro z;obtain ⟨_,o,ho,_⟩:=I1.stack.mem z;exact absurd (N6 ho) (OJ _)
 hok:=I1.hok.kept old
 len:=by show (iG tg.length σ fv).length=(tg++fv.map (·.2)).length;simp[iG]
end
noncomputable def tgI:List Str->List (Nat×Str)
 | [x]=>[(0,x)]| [x,y]=>[(0,x),(1,y)]| _=>[]
theorem oh (h:nmE te=UA x):∃ p,te=.Name x p:=by
 cases te with
 | Name y p=>cases h;exact ⟨p,rfl⟩| _=>exact absurd (show (UB:Option Str)=UA _ from h) (λz=>nomatch z)
theorem yR (h:Fj te=a::l):∃ k p,te=.Tuple (a::l) k p:=by
 cases te with
 | Tuple xs k p=>cases h;exact ⟨k,p,rfl⟩| _=>exact absurd (show ([]:List NX)=_::_ from h) (λz=>nomatch z)
theorem BV (h:pO sc tg te=UC):CT sc (tg++fs) (tgI tg) te/\(tgI tg).length=tg.length/\∀ q∈tgI tg,sc.names.lookup q.2=UA .local:=by
 have st:∀ {x:Str},sc.names.lookup x=UA .local->j6 sc x=UC:=λe=>by unfold j6;rw[e]
 unfold pO at h;rw[NY,PP,NY,O8] at h;obtain ⟨h,ha⟩:=h;have lo:∀ {x},x∈tg->sc.names.lookup x=UA .local:=λ{x} hx=>eq_of_beq (ha x hx);rcases h with h|⟨h1,h2⟩
 ·have e:=eq_of_beq h;cases tg with
  | nil=>exact absurd (congrArg QG e) (by simp)
  | cons x r =>
   cases r with
   | cons _ _=>exact absurd (congrArg QG e) (by simp)
   | nil =>
    obtain ⟨p,rfl⟩:=oh (QY e).symm;have l:sc.names.lookup x=UA .local:=lo Oe;exact ⟨.one rfl (st l),rfl,λq hq=>by simp[tgI] at hq;subst hq;exact l⟩
 ·have e:=eq_of_beq h2;obtain ⟨x,y,rfl⟩:∃ x y,tg=[x,y]:=by
   have h1:=eq_of_beq h1;cases tg with
   | nil=>simp at h1
   | cons x r =>
    cases r with
    | nil=>simp at h1
    | cons y r =>
     cases r with
     | nil=>exact ⟨x,y,rfl⟩| cons _ _=>simp at h1
  cases g:Fj te with
  | nil=>rw[g] at e;exact absurd (congrArg QG e) (by simp)
  | cons a l =>
   rw[g] at e;cases l with
   | nil=>exact absurd (congrArg QG e) (by simp)
   | cons b r =>
    cases r with
    | cons _ _=>exact absurd (congrArg QG e) (by simp)
    | nil =>
     have e1:UA x=nmE a:=QY e;have e2:UA y=nmE b:=QY (List.tail_eq_of_cons_eq e);obtain ⟨p1,rfl⟩:=oh e1.symm;obtain ⟨p2,rfl⟩:=oh e2.symm;obtain ⟨k,p,rfl⟩:=yR g;have l1:sc.names.lookup x=UA .local:=lo Oe;have l2:sc.names.lookup y=UA .local:=lo (Oa _ Oe);exact ⟨.two rfl (st l1) rfl (st l2),rfl,λq hq=>by
      simp[tgI] at hq;rcases hq with rfl|rfl
      exact l1
      ·exact l2⟩
theorem BW (h:(tgI tg).length=tg.length) (h0:tg≠[]) (hd:BT.target tg.length d0=UA ds) (hl:sl.length=tg.length+fs.length) (hr:sl.drop tg.length=fs) :
 BT.sets (tgI tg) ds sl=ds.map BT.aY++fs/\(ds.map BT.aY++fs).length=tg.length+fs.length/\(ds.map BT.aY++fs).drop tg.length=fs:=by
 match tg,h,h0 with
 | [],_,h0=>exact absurd rfl h0
 | [x],_,_ =>
  simp only[Oq,O6,TX,BT.gf] at hd hl hr;cases hd
  match sl,hl,hr with
  | a::r,hl,hr =>
   simp only[Uh,Ro] at hr;subst hr;exact ⟨rfl,by simp[Nat.add_comm],rfl⟩
 | [x,y],_,_ =>
  have hd:BT.unpack 2 d0=UA ds:=hd;cases d0<;>simp only[BT.unpack] at hd<;>try contradiction
  split at hd
  ·rename_i c;cases hd
   match ds,c with
   | [d1,d2],_ =>
    simp only[Oq,O6,TX] at hl hr
    match sl,hl,hr with
    | a::b::r,hl,hr =>
     simp only[Uh,Ro] at hr;subst hr;exact ⟨rfl,by simp;lia,rfl⟩
    | [a],hl,_=>simp at hl;lia| [],hl,_=>simp at hl;lia
  cases hd
 | x::y::z::r,h,_=>simp[tgI] at h
theorem jI:∀ {fv:List (Nat×Str)}{fs:BT.Sl},BT.frees s fv=UA fs->fs.length=fv.length/\∀ (i:Nat) (q:Nat×Str),fv[i]?=UA q->fs[i]?=s[q.1]?
 | [],fs,e=>by simp[BT.frees] at e;subst e;exact ⟨rfl,λi q z=>by simp at z⟩
 | q::r,fs,e=>by
  simp only[BT.frees] at e;cases g:s[q.1]? with
  | none=>rw[g] at e;cases e
  | some w =>
   rw[g] at e;obtain ⟨fs',e1,e2⟩:=ay e;subst e2;obtain ⟨h1,h2⟩:=jI e1;refine ⟨by simp[h1],λi p z=>?_⟩;cases i with
   | zero=>simp at z;subst z;simp[g]| succ i=>simpa using h2 i p (by simpa using z)
theorem vI {K:NV} (S:RS P w K m H σ s) (hf:BT.frees s fv=UA fs):RS P w K m H (iG n σ fv) (Oo n UB++fs):=by
 obtain ⟨h1,h2⟩:=jI hf;refine ⟨by simp[iG,h1],λi y e=>?_⟩
 by_cases c:i < n
 ·rw[N5 (by simpa using c),Qg,if_pos c] at e;cases e
 ·rw[Ol (by simpa using c)] at e;simp only[Qs] at e;have hi:i - n < fv.length:=by
   rw[← h1];rcases Os (i - n) fs.length with z|z
   exact z;rw[Od z] at e;cases e
  have g:=N7 hi;rw[h2 _ _ g] at e;obtain ⟨v,hv,r⟩:=S.get _ _ e;refine ⟨v,?_,r⟩;unfold iG;rw[Ol (by simpa using c)];simp only[Qs,Ox,g,Q2,hv,Uw]
theorem BY {rest:List BT.D} (e:BT.aM f n (d::r) h=UA (rest,h2)) :
 ∃ xs o hA rest',BT.target n d=UA xs/\f xs h=UA (o,hA)/\BT.aM f n r hA=UA (rest',h2)/\rest=(match o with|some x=>x::rest'|none=>rest'):=by
 rw[BT.aM] at e;cases g:BT.target n d with
 | none=>rw[g] at e;cases e
 | some xs =>
  rw[g] at e;obtain ⟨o,hA,e1,e2⟩:=ah e;unfold BT.u6 at e2;obtain ⟨rest',h3,e3,e4⟩:=ah e2;unfold BT.sJ at e4;cases e4;exact ⟨xs,o,hA,rest',rfl,e1,e3,rfl⟩
theorem Un.behind (u:Un fs ex H H' h h1) (a:∀ b,b < h.objs.size->H2 b=H' b) (lt:∀ b o,H b=UA o->b < h.objs.size) (k:∀ b o,b < h.objs.size->h1.get? b=UA o->h2.get? b=UA o):Un fs ex H H2 h h2 where
 keep:=λb o e n c d=>k b o (N6 e) (u.keep b o e n c d)
 slot:=λb o e n c d=>by obtain ⟨sl,q⟩:=u.slot b o e n c d;exact ⟨sl,k b _ (N6 e) q⟩
 free:=λb o e n d=>by rw[a b (N6 e)];exact u.free b o e n d
 there:=λb o e d=>by obtain ⟨o',q⟩:=u.there b o e d;exact ⟨o',k b o' (N6 e) q⟩
 tups:=λb xs e=>by rw[a b (lt b _ e)];exact u.tups b xs e
 frzs:=λb o w e=>by rw[a b (lt b _ e)];exact u.frzs b o w e
 tbls:=λb ps e=>by rw[a b (lt b _ e)];exact u.tbls b ps e
section
theorem Gc (O:Ok X F G sc N) (hu:b9 N=UC) (cf:qb sc N tg fv scope) :
 Ok (blk X (tg++fv.map (·.2)) s2 H1 scope C fp) F G (aV scope sc) (tg++fv.map (·.2)) where
 hsc:=by have:=O.hsc;subst this;rfl
 hN:=rfl
 nd:=cf.nd
 calm:=λ_=>O.calm hu
 hu:=O.hu
 own:=RP
 glob:=O.glob
 call:=O.call
 meth:=O.meth
 mkc:=O.mkc
 blt:=O.blt
 lam:=O.lam
 lamx:=λh=>absurd (show UD=UC from h "") (by decide)
theorem yS (e:BT.mT mu sr n (UA fs) ec ee ws h=UA z) (g:(BT.rds ws h).bind (BT.dI sr)=UA ds) :
 tM sr ws/\∃ f',(∀ xs h r,f' xs h=UA r->BT.aP ec ee fs xs h=UA r/\n8 ws ds r.2)/\n8 ws ds h/\BT.bnd (BT.aM f' n ds h) (BT.fq mu)=UA z:=by
 unfold BT.mT at e;rw[g] at e;simp only at e
 by_cases ca:BT.fu ws=UC
 ·rw[if_pos ca] at e;exact ⟨.inl ca,_,λxs h r q=>⟨q,k8 ca⟩,k8 ca,e⟩
 ·rw[if_neg ca] at e;have two:sr=.seq/\∃ q,ws=[.r q]:=by unfold BT.rC at e;split at e;exact ⟨rfl,_,rfl⟩;cases e
  obtain ⟨rfl,q,rfl⟩:=two;rw[BT.xF] at e;have gl:BT.lat h q=UA ds:=by
   simp only[BT.rds,BT.rd,Q2] at g;cases g1:BT.lat h q with
   | none=>rw[g1] at g;cases g| some xs=>rw[g1] at g;cases g;rfl
  refine ⟨.inr ⟨rfl,q,rfl⟩,_,λxs h r q=>?_,λq' e'=>by cases e';exact gl,e⟩;unfold BT.chk at q;cases g2:BT.aP ec ee fs xs h with
  | none=>rw[g2] at q;cases q
  | some r2 =>
   rw[g2] at q;simp only at q;split at q
   ·rename_i c;cases q;exact ⟨rfl,λq' e'=>by cases e';exact c⟩
   cases q
inductive LI (X:Cx) (F:FT) (G:Str->Option BT.W) (scope:OD) (tg:List Str) (fv:List (Nat×Str)) (cond:BT.Es) (elt:BT.E) (s2:N4) (H1:Hp) (C:Of) (fp:List Of) (tn:Nat->Heap->Prop) (m1:List Of) (ds outs:List BT.D) (fs:BT.Sl) (h2:BT.HH) (f':List BT.D->BT.HH->Option (Option BT.D×BT.HH)) (Cc:BT.HH->Prop) (n:Nat) (s:N4):Prop where
 | mk (i:Nat) (σ':L2.St) (H':Hp) (m':List Of) (hh:BT.HH) (out rest:List BT.D) (vs:List V) (us:List N1) (nn:Nat) (sl:BT.Sl) (p0:i<=ds.length) (p1:n=ds.length - i) (p2:Inv (blk X (tg++fv.map (·.2)) s2 H1 scope C fp) [(s2.heap.objs.size,lobj us nn)] σ' H' s) (p3:tn i s.heap) (p4:(∀ b∈fp,H' b=UB)) (p5:Ext m1 H1 m' H') (p6:RH X.K m' H' hh) (p7:RS X.prog X.w X.K m' H' σ' sl) (p8:sl.length=tg.length+fs.length) (p9:sl.drop tg.length=fs) (p10:ao vs us) (p11:RDs X.K m' H' vs out) (p12:BT.aM f' tg.length (ds.drop i) hh=UA (rest,h2)) (p13:out++rest=outs) (p14:Cc hh):LI X F G scope tg fv cond elt s2 H1 C fp tn m1 ds outs fs h2 f' Cc n s
structure Apart (X:Cx) (zt:List (Of×Obj)) (H:Hp) (C:Of):Prop where
 fr:H C=UB
 lo:C≠X.env.locals
 ab:X.s₀.heap.objs.size<=C
 ce:∀ x c,X.env.cells.lookup x=UA c->c≠C
 pi:∀ p∈X.pn++zt,p.1≠C
theorem mY (O:Ok X F G sc N) (hu:b9 N=UC) 
 (hk:iA sc N tg fv scope=UC) (ht:pO (aV scope sc) tg te=UC) (hset:iy iter=UC) (hI:PI X te iter (iD X F G sr sa)) (hC:lz F G (aV scope sc) (tg++fv.map (·.2)) cond ifs)
 (hE:∀ X',Ok X' F G (aV scope sc) (tg++fv.map (·.2))->PE X' elt' (tD X' F G elt)):∀ (zt:List (Of×Obj)) (s:N4) (σ:L2.St) (H:Hp) (Q:VK) (use:Option (N1->Sem Unit)) (Q':N1->N4->Prop),Inv X zt σ H s->tD X F G (.comp mu sr sa tg fv cond elt) σ H Q →
 (∀ (s6:N4) (H6:Hp) (C D:Of) (m:Str->Option N1),Inv X zt σ H6 s6->s6.heap.Ns C m->Apart X zt H6 C->Q (.ref D) H6->compPost (Ow X.prog X.w) X.A X.xe use Q' (.ref D) C (.ok .next) s6) →
 wpAny (Ow X.prog X.w) X.A (comprehension (.ListComp elt' [⟨te,iter,ifs,0⟩] scope pos) scope X.env (firstIterPos [⟨te,iter,ifs,0⟩] pos) (newList []) UD (eval iter X.env) use) Q' X.xe s:=by
 have cf:=Jt hk;obtain ⟨ct,tl,tloc⟩:=BV (fs:=fv.map (·.2)) ht;have t0:tg≠[]:=by
  rintro rfl
  simp[pO] at ht
 intro zt s σ H Q use Q' I q hfin;obtain ⟨m,s',h,z,h',R,S,ee,zr⟩:=q;simp only[BT.ev] at ee;obtain ⟨ws,h1,e1,e2⟩:=ah ee;cases g1:(BT.rds ws h1).bind (BT.dI sr) with
 | none=>unfold BT.mT at e2;rw[g1] at e2;cases e2
 | some ds =>
  cases g2:BT.frees s' fv with
  | none=>unfold BT.mT at e2;rw[g1,g2] at e2;cases e2
  | some fs =>
   rw[g2] at e2;obtain ⟨ca,f',hf',c1,e2⟩:=yS e2 g1;obtain ⟨outs,h2,e3,e4⟩:=ah e2;unfold BT.fq at e4
   by_cases cl:outs.length<=BT.lim
   case neg=>rw[if_neg cl] at e4;cases e4
   rw[if_pos cl] at e4;have ez:BT.new mu outs h2=(z,h'):=Ob e4;have hfree:BC.rM X.env.cells scope.names:=λx hx e=>I.ok.has x.1 (.inl (by
    have:=cf.free x hx e;show X.env.scope.names.lookup x.1=_;rw[O.hsc];exact this))
   refine wpAny_comprehension_free (use:=use) rfl (tQ hset) (BC.lg hfree) cf.k1 cf.loc
    (thn (hI zt s σ H (λJ H1=>∃ m1,Ext m H m1 H1/\RH X.K m1 H1 h1/\pW X.K J m1 H1 ds (n8 ws ds)) I ⟨m,s',h,ws,h1,ds,R,S,e1,g1,ca,λH1 m1 J x1 R1 it=>⟨m1,x1,R1,it⟩⟩) λv s1 hv=>thn hv λitv s2 h2'=>?_)
   obtain ⟨it,fp,tn,J,H1,rfl,I1,T,st,hf,m1,x1,R1,ito⟩:=h2';have hlt:∀ b∈fp,b < s2.heap.objs.size:=λb hb=>by obtain ⟨o,ho,_⟩:=T.obj 0 _ st b hb;exact N6 ho
   refine Px (wpAny_newFunctionEnv cf.cell (by intro y hy;simp at hy) (λh3 hns hsb=>?_) cf.k1);dsimp only at hns hsb ⊢;generalize hH2:s2.heap.push { cls:=.type "list",dict:=UB,data:=.seq ([]:List N1).toArray }=H2 at hns hsb ⊢;have hCs:H2.objs.size=s2.heap.objs.size+1:=by rw[← hH2,Qp]
   have old:∀ b o,s2.heap.get? b=UA o->h3.get? b=UA o:=λb o e=>hsb.extBut b o (by rw[hCs];exact On (Sb (N6 e))) (NW _ (hH2 ▸ NW _ e));have hacc:h3.get? s2.heap.objs.size=UA (lobj [] 0):=hsb.extBut _ _ (by rw[hCs];exact On (Pk _)) (NW _ (hH2 ▸ N8 _ rfl));have I4:=BU (tk:=s2.toks+([]:List (Str×N1)).length) I1 O.hsc O.hN cf hCs hf hlt old hns hacc;have O':=Gc (s2:=s2) (H1:=H1) (C:=H2.objs.size) (fp:=fp) O hu cf;obtain ⟨g,hg1,hg2⟩:=sCT O' (O.calm hu) ct λq hq=>.inr (by rw[O'.hsc];exact tloc q hq);have hfl:fs.length=fv.length:=(jI g2).1;have stat:∀ {H':Hp}{o:Obj},(∀ b∈fp,H' b=UB)->∀ b∈fp,lS (blk X (tg++fv.map (·.2)) s2 H1 scope H2.objs.size fp) [(s2.heap.objs.size,o)] H' b:=λ{H' o} hn b hb=>by
    refine ⟨hn b hb,?_,?_,.inl hb,λx c e=>(hf b hb).2.2.2.2.1 x c (jX e),λp hp=>?_⟩
    ·show b≠H2.objs.size;rw[hCs];exact On (Sb (hlt b hb))
    ·intro zz;rcases List.mem_cons.mp (I1.kE b zz) with e|e
     exact (hf b hb).2.1 e;exact (hf b hb).2.2.1 e
    ·have hp':p=(s2.heap.objs.size,o):=by have:p∈[]++[(s2.heap.objs.size,o)]:=hp;simpa using this
     rw[hp'];show s2.heap.objs.size≠b;exact PR (hlt b hb)
   have loop:∀ s4:N4,s4={ s2 with heap:=h3,toks:=s2.toks+([]:List (Str×N1)).length } →
    codeAny (Ow X.prog X.w) X.A (.compLoop (.ListComp elt' [⟨te,iter,ifs,0⟩] scope pos) 0 (.ref it) (.ref s2.heap.objs.size) (Ur scope (BC.bW X.env.cells scope.names []) H2.objs.size X.env))
     (compPost (Ow X.prog X.w) X.A X.xe use Q' (.ref s2.heap.objs.size) H2.objs.size) s4:=by
    rintro s4 rfl
    refine BC.vH (LI X F G scope tg fv cond elt s2 H1 H2.objs.size fp tn m1 ds outs fs h2 f' (n8 ws ds)) ?_
     ds.length ⟨0,_,H1,m1,h1,[],outs,[],[],0,_,O5 _,rfl,I4,T.keep 0 _ _ st (λb hb o e=>old b o e),λb hb=>(hf b hb).1,.refl _ _,R1,vI (S.ext x1) g2,by simp,by simp,.nil,.nil,by rw[Ro];exact e3,rfl,c1⟩
    rintro n s5 ⟨i,σ5,H5,m5,hh,out,rest,vs,us,nn,sl,hi,rfl,I5,st5,fr5,x5,R5,S5,sl1,sl2,rv5,rd5,go5,ou5,cc5⟩
    by_cases c:i < ds.length
    ·rw[SS c] at go5;obtain ⟨xs,o,hA,rest',eT,eF,eG,eR⟩:=BY go5;obtain ⟨eF,cA⟩:=hf' _ _ _ eF;refine thn (T.item (blk X (tg++fv.map (·.2)) s2 H1 scope H2.objs.size fp) rfl rfl rfl (O.calm hu) i _ s5 σ5 H5 _ I5 (stat fr5) st5 (ito.go m5 H5 hh i x5 R5 cc5 c)) λr s6 hr=>?_;obtain ⟨u,rfl,hr⟩:=hr;refine thn hr λ_ s7 zq=>?_;obtain ⟨x,H7,I7,r7,y7,st7,fr7⟩:=zq;obtain ⟨x7,k7,rd7⟩:=ito.yld m5 H5 hh i x H7 ds[i] x5 R5 cc5 (N7 c) y7;have R7:=R5.ext x7 k7;have I7':=I7.pinned (stat fr7) (T.obj _ _ st7);obtain ⟨sq1,sq2,sq3⟩:=BW tl t0 eT sl1 sl2;refine thn (hg1 _ s7 σ5 H7 x u (fun σ8 H8=>H8=H7/\RS X.prog X.w X.K m5 H7 σ8 (xs.map BT.aY++fs)) I7' r7 (hg2 m5 H7 σ5 sl x ds[i] xs _ (S5.ext x7) rd7 (by rw[tl];exact eT) fun σ8 S8=>⟨rfl,by rw[← sq1];exact S8⟩)) λ_ s8 h8=>?_;obtain ⟨σ8,H8,I8,rfl,S8⟩:=h8;have kept:∀ {s9:N4}{σ9:L2.St}{H9:Hp},Inv (blk X (tg++fv.map (·.2)) s2 H1 scope H2.objs.size fp) ([(s2.heap.objs.size,lobj us nn)]++jq fp s7.heap) σ9 H9 s9->tn (i+1) s9.heap/\∀ b∈fp,H9 b=UB:=λ{s9 σ9 H9} I9=>by refine ⟨T.keep _ _ _ st7 λb hb o e=>(I9.pin (b,o) (Oz _ (Oz _ (fB hb e)))).1,λb hb=>?_⟩;obtain ⟨o,e,_⟩:=T.obj _ _ st7 b hb;exact (I9.pin (b,o) (Oz _ (Oz _ (fB hb e)))).2.1
     have elem:∀ {s9:N4}{H9:Hp}{m9:List Of}{h9:BT.HH}{w:BT.W}{hB:BT.HH}{d:BT.D},Inv (blk X (tg++fv.map (·.2)) s2 H1 scope H2.objs.size fp) ([(s2.heap.objs.size,lobj us nn)]++jq fp s7.heap) σ8 H9 s9->Ext m5 H8 m9 H9->RH X.K m9 H9 h9 →
      BT.ev F G elt (xs.map BT.aY++fs) h9=UA (w,hB)->BT.lY w hB=UA (UA d,hA)->o=UA d →
      wpAny (Ow X.prog X.w) X.A (eval elt' (Ur scope (BC.bW X.env.cells scope.names []) H2.objs.size X.env)) (λx s₄ =>
       wpAny (Ow X.prog X.w) X.A (call (.builtin "list.append") [.ref s2.heap.objs.size,x]) (λ_ s₅=>∃ m,m < ds.length - i/\LI X F G scope tg fv cond elt s2 H1 H2.objs.size fp tn m1 ds outs fs h2 f' (n8 ws ds) m s₅) (λ_ _=>False) s₄) (λ_ _=>False) s9:=by
      intro s9 H9 m9 h9 w hB d I9 x9 R9 eE eK eO;have ew:w=.p d/\hB=hA:=by
       unfold BT.lY at eK;cases w with
       | p d'=>cases eK;exact ⟨rfl,rfl⟩| _=>cases eK
      obtain ⟨rfl,rfl⟩:=ew;refine thn (hE _ O' _ s9 σ8 H9 (λv Ha=>∃ ma,Ext m9 H9 ma Ha/\RH X.K ma Ha hB/\RD X.K ma Ha v d) I9 ⟨m9,_,h9,_,hB,R9,S8.ext x9,eE,λv Ha ma xa Ra ra=>by cases ra with|p ra=>exact ⟨ma,xa,Ra,ra⟩⟩) λu10 s10 ⟨v10,H10,I10,r10,m10,x10,R10,rd10⟩=>?_
      obtain ⟨pD,nD,neD,nfD,_⟩:=I10.pin (s2.heap.objs.size,lobj us nn) (by simp);have lus:=rv5.length;have lvs:=rd5.length;have lou:out.length<=outs.length:=by rw[← ou5];simp
      have lle:=bN;have cl':outs.length<=BT.lim:=cl;refine wpAny_list_append_plain ⟨nn,pD⟩ (λh11 hp11 sb11=>?_) (by rw[N2];lia);obtain ⟨nn',hp11⟩:=hp11;have hp11:h11.get? s2.heap.objs.size=UA (lobj (us++[u10]) nn'):=by rw[hp11];simp[lobj]
      have sb11:Qt s2.heap.objs.size s10.heap h11:=sb11;obtain ⟨st10,fr10⟩:=kept I10;have I11:Inv (blk X (tg++fv.map (·.2)) s2 H1 scope H2.objs.size fp) [] σ8 H10 { s10 with heap:=h11 } :=
       Inv.turned (t':=s10.toks) (I10.j9 (λp hp=>by cases hp)) (λb o hb e=>(sb11.2 b hb).trans e) nD neD (.inr (N3 _)) (λx c e zz=>by obtain ⟨v,o,ho,_⟩:=I1.cell x c (jX e);have:=N6 ho;rw[zz] at this;exact absurd this (OJ _)) λp hp=>by cases hp
      have I12:Inv (blk X (tg++fv.map (·.2)) s2 H1 scope H2.objs.size fp) [(s2.heap.objs.size,lobj (us++[u10]) nn')] σ8 H10 { s10 with heap:=h11 }:=I11.j9 λp hp=>by simp only[List.mem_singleton] at hp;subst hp;exact ⟨hp11,nD,neD,nfD,λv zz=>by cases (show Data.seq _ _=Data.cell v from zz)⟩
      have xt:Ext m5 H5 m10 H10:=(x7.trans x9).trans x10;refine ⟨ds.length - (i+1),by lia,i+1,σ8,H10,m10,hB,out++[d],rest',vs++[v10],us++[u10],nn',_,c,rfl,I12,?_,fr10,x5.trans xt,R10,(S8.ext x9).ext x10,sq2,sq3,rv5.append (.cons r10 .nil),(rd5.ext xt).append (.cons rd10 .nil),eG,?_,cA⟩
      ·refine T.keep _ _ _ st10 λb hb o' e=>(sb11.2 b ?_).trans e;exact On (hlt b hb)
      rw[← ou5,eR,eO,OY];rfl
     unfold BT.aP at eF;obtain ⟨cs,hc,eC,eK⟩:=ah eF;rcases hC with ⟨rfl,rfl⟩|⟨cc,cc',rfl,rfl,hCC⟩
     ·simp only[BT.evs] at eC;cases eC;have eK:=(show BT.bnd _ BT.lY=_ from eK);obtain ⟨w,hB,eE,eL⟩:=ah eK;refine wpAny_tests_nil ?_;rw[if_pos rfl];have:∃ d,o=UA d:=by
       unfold BT.lY at eL;cases w with
       | p d'=>cases eL;exact ⟨_,rfl⟩| _=>cases eL
      obtain ⟨d,rfl⟩:=this;exact elem I8 (.refl _ _) R7 eE eL rfl
     ·simp only[BT.evs] at eC;obtain ⟨wc,hc2,eC1,eC2⟩:=ah eC;simp only[BT.kT,BT.aO,BT.ig] at eC2;cases eC2;have hb:∃ b,wc=.p (.bl b):=by
       cases wc with
       | p d =>
        cases d<;>first|exact ⟨_,rfl⟩|exact aA eK
       | _=>exact aA eK
      obtain ⟨b,rfl⟩:=hb;refine wpAny_tests_one (thn (hCC _ O' _ s8 σ8 H8 (λb' Ha=>b'=b/\∃ ma,Ext m5 H8 ma Ha/\RH X.K ma Ha hc) I8 ⟨m5,_,hh,b,hc,R7,S8,eC1,λHa ma xa Ra=>⟨rfl,ma,xa,Ra⟩⟩) λb' s9 zq=>?_);obtain ⟨H9,I9,hbb,m9,x9,R9⟩:=zq;subst hbb;cases b' with
      | false =>
       have eK:=(show UA ((UB:Option BT.D),hc)=UA _ from eK);cases eK;rw[if_neg (by decide)];obtain ⟨st9,fr9⟩:=kept I9;have xt:Ext m5 H5 m9 H9:=x7.trans x9;refine ⟨ds.length - (i+1),by lia,i+1,σ8,H9,m9,hA,out,rest',vs,us,nn,_,c,rfl,I9.iN,st9,fr9,x5.trans xt,R9,S8.ext x9,sq2,sq3,rv5,rd5.ext xt,eG,?_,cA⟩;rw[← ou5,eR]
      | true =>
       have eK:=(show BT.bnd _ BT.lY=_ from eK);rw[if_pos rfl];obtain ⟨w,hB,eE,eL⟩:=ah eK;have:∃ d,o=UA d:=by
        unfold BT.lY at eL;cases w with
        | p d'=>cases eL;exact ⟨_,rfl⟩| _=>cases eL
       obtain ⟨d,rfl⟩:=this;exact elem I9 x9 R9 eE eL rfl
    ·have ei:i=ds.length:=by lia
     subst ei;rw[List.drop_length,BT.aM] at go5;cases go5;rw[OM] at ou5;subst ou5;refine thn (T.done (blk X (tg++fv.map (·.2)) s2 H1 scope H2.objs.size fp) rfl rfl rfl (O.calm hu) _ _ s5 σ5 H5 _ I5 (stat fr5) st5 (ito.stop m5 H5 _ x5 R5 cc5)) λr s6 zq=>?_;obtain ⟨hr,I6⟩:=zq;subst hr;obtain ⟨mm,hmm,_⟩:=I6.loc;obtain ⟨pD,nD,neD,nfD,_⟩:=I6.pin (s2.heap.objs.size,lobj us nn) (by simp);have neD:s2.heap.objs.size≠H2.objs.size:=neD;have hos:s6.os=s2.os:=I6.os;have lus:=rv5.length;have lvs:=rd5.length;have lle:=bN;have cl':out.length<=BT.lim:=cl;have hok:HOk X.prog X.w (upd H5 s2.heap.objs.size (.lst vs)) s6.heap:=λb u e=>by
      by_cases eb:b=s2.heap.objs.size
      ·subst eb;rw[aB] at e;cases e;exact ⟨by lia,us,nn,rv5,pD⟩
      ·rw[av eb] at e;refine (I6.hok b u e).stay (λc v hc q=>q) (λc q=>?_) λc l q=>?_;rw[av (λzz=>by rw[zz,nD] at q;cases q)];exact q;rw[av (λzz=>by rw[zz,nD] at q;cases q)];exact q
     have u7:Un (frs X.stack) fp H1 (upd H5 s2.heap.objs.size (.lst vs)) s2.heap s6.heap:=Un.behind (h1:=s6.heap) I6.base (λb hb=>av (On hb)) (λb o e=>I1.hok.lt e) λb o hb e=>e;have I7:=I1.call (g':=s6.gens) (t':=s6.toks) (d':=s6.drawn) (ch:=fp) u7 hok I6.bare λb hb=>⟨(hf b hb).2.2.2.1,(hf b hb).2.1,(hf b hb).2.2.2.2.1,(hf b hb).2.2.2.2.2⟩;have fr6:H5 H2.objs.size=UB:=I6.free;have ltC:s2.heap.objs.size < H2.objs.size:=by rw[hCs];exact Pk _
     have ap:Apart X zt (upd H5 s2.heap.objs.size (.lst vs)) H2.objs.size:=by
      refine ⟨by rw[av (Pb neD)];exact fr6,?_,?_,λx c e zz=>?_,λp hp zz=>?_⟩;exact PR (Qu I1.lt ltC);exact OO I1.sz (O0 ltC)
      ·obtain ⟨v,o,ho,_⟩:=I1.cell x c e;have l:=N6 ho;rw[zz] at l;exact absurd (Qu l ltC) (OJ _)
      ·have l:=N6 (I1.pin p hp).1;rw[zz] at l;exact absurd (Qu l ltC) (OJ _)
     refine hfin s6 _ _ _ mm ?_ hmm ap (iX (mu:=mu) R5 nD rd5 (by rw[ez];exact λv' H' m' xx RR rr=>zr v' H' m' ((x1.trans x5).trans xx) RR rr));obtain ⟨hp6,g6,d6,t6,os6⟩:=s6;have hos:os6=s2.os:=hos;subst hos;exact I7
   exact codeAny_compStart_list (loop _ rfl) (T.self _ 0 _ _ _ (T.keep 0 _ _ st (λb hb o e=>old b o e)) (loop _ rfl))
theorem BZ (O:Ok X F G sc N) (hu:b9 N=UC) 
 (hk:iA sc N tg fv scope=UC) (ht:pO (aV scope sc) tg te=UC) (hset:iy iter=UC) (hI:PI X te iter (iD X F G sr sa)) (hC:lz F G (aV scope sc) (tg++fv.map (·.2)) cond ifs)
 (hE:∀ X',Ok X' F G (aV scope sc) (tg++fv.map (·.2))->PE X' elt' (tD X' F G elt)):PE X (.ListComp elt' [⟨te,iter,ifs,0⟩] scope pos) (tD X F G (.comp mu sr sa tg fv cond elt)):=by
 intro zt s σ H Q I q;rw[eval_ListComp];refine mY O hu hk ht hset hI hC hE zt s σ H Q UB _ I q λs6 H6 C D m I6 hn ap hq=>?_;refine ⟨m,hn,λh7 sb7=>?_⟩;have sb7:Qt C s6.heap h7:=sb7;exact ⟨.ref D,H6,Inv.turned (t':=s6.toks) I6 (λb o hb e=>(sb7.2 b hb).trans e) ap.fr ap.lo (.inr ap.ab) ap.ce ap.pi,rfl,hq⟩
theorem B0 (O:Ok X F G sc N) (hu:b9 N=UC) 
 (hk:iA sc N tg fv scope=UC) (ht:pO (aV scope sc) tg te=UC) (hset:iy iter=UC) (hI:PI X te iter (iD X F G sr sa)) (hC:lz F G (aV scope sc) (tg++fv.map (·.2)) cond ifs)
 (hE:∀ X',Ok X' F G (aV scope sc) (tg++fv.map (·.2))->PE X' elt' (tD X' F G elt)) (hy:N[i]?=UA y) (hl:sc.names.lookup y=UA .local)
 (hsw:QL (.ListComp elt' [⟨te,iter,ifs,0⟩] scope pos) (UA (.Name y py)) spos.line X.env=pure UC) :
 PS X (.Assign [.Name y py] (.ListComp elt' [⟨te,iter,ifs,0⟩] scope pos) spos) (uG (tD X F G (.comp mu sr sa tg fv cond elt)) (oZ i)):=by
 intro zt s σ H D I q;rw[exec_Assign_Name_used _ _ _ _ hsw];refine NZ (Ui (NZ ?_));show wpAny _ X.A (do let _ ← comprehension (.ListComp elt' [⟨te,iter,ifs,0⟩] scope pos) scope X.env _ (newList []) UD (eval iter X.env) (UA (To (.Name y py) X.env))) _ _ s;refine NZ (thn (mY O hu hk ht hset hI hC hE zt s σ H _ (UA (To (.Name y py) X.env)) (λ_ s'=>SP X zt D .next s') I q λs6 H6 C D' m I6 hn ap hq=>?_) λ_ s' hq=>wpAny_pure (wpAny_pure hq));show wpAny _ X.A (To (.Name y py) X.env (.ref D')) _ _ _;refine wpAny_assign_Name (mH I6 O.nd (by rw[O.hN];exact hy) (.inl (by rw[O.hsc];exact hl)) (v:=.ref D') rfl (λs7 I7 hs=>?_) (.inr (by rw[O.hsc];exact hl)));obtain ⟨a,sb,ha⟩:=hs;have neC:C≠a:=by
  rcases ha with rfl|ha
  exact ap.lo;exact λz=>ap.ce y a ha z.symm
 refine ⟨m,hn.sameBut sb neC,λh8 sb8=>?_⟩;have sb8:Qt C s7.heap h8:=sb8;exact ⟨_,H6,Inv.turned (t':=s7.toks) I7 (λb o hb e=>(sb8.2 b hb).trans e) ap.fr ap.lo (.inr ap.ab) ap.ce ap.pi,hq⟩
end
theorem yT:Sx (.type "list_reverseiterator") "__len__"=pure UB:=by rw[Ry,QC];kernel_rfl
theorem B3:Sx (.type "list_reverseiterator") "__length_hint__"=pure (UA (.builtin "list_reverseiterator.__length_hint__")):=by rw[Ry,QC];kernel_rfl
section
variable {E:N1->N4->Prop}
theorem yU (hi:s.heap.IsRevIter J l i) (h:Q UD s):wpAny (Ow prog w) A (Rv (.ref J)) Q E s:=by
 delta Rv
 refine NZ (wpAny_specialOf hi.typeIs yT ?_);show wpAny _ A (specialOf (OL J) (Om "__length_hint__") >>= _) _ _ _;refine NZ (wpAny_specialOf hi.typeIs B3 ?_);generalize hid:("list_reverseiterator.__length_hint__":String)=id1
 wp_delta
 rw[show splitId id1=UA ("list_reverseiterator","__length_hint__") from by subst hid;decide +kernel];subst hid;exact NZ (SW (b:=UC) hi.typeIs (by rw[isSubtype_type];kernel_rfl) (wpAny_pure h))
theorem mq (hh:A.handled=UB) (hi:s.heap.IsRevIter J l ((its.size:Int) - 1)) (hl:s.heap.IsList l its) (hne:l≠J) (hz:its.size<=sizeLine)
 (hQ:∀ h' tk acc c,(∀ b o,b≠J->s.heap.get? b=UA o->h'.get? b=UA o)->h'.get? s.heap.objs.size=UA { cls:=.type "list",data:=.seq acc c }->ItemsOf (λi v=>its[its.size - 1 - i]?=UA v) acc its.size->Q (.ref s.heap.objs.size) { s with heap:=h',toks:=tk }) :
 wpAny (Ow prog w) A (call (.type "list") [.ref J]) Q E s:=by
 refine callType_codes (Q₁:=λy t=>y=.ref s.heap.objs.size/\t={ s with heap:=s.heap.push { cls:=.type "list",data:=.seq #[] } }) F.called_list (F.typeCall_list_1 _) F.entry_list_init (code_list_new _ ⟨rfl,rfl⟩) λy t q=>?_;obtain ⟨rfl,rfl⟩:=q;have nS:(s.heap.push { cls:=.type "list",data:=.seq #[] }).get? s.heap.objs.size=UA { cls:=.type "list",data:=.seq #[] }:=N8 _ rfl;have hiJ:J < s.heap.objs.size:=by obtain ⟨o,e,_⟩:=hi;exact N6 e
 have hlL:l < s.heap.objs.size:=by obtain ⟨o,e,_⟩:=hl;exact N6 e
 have SJ:s.heap.objs.size≠J:=λe=>OJ _ (e ▸ hiJ);have Sl:s.heap.objs.size≠l:=λe=>OJ _ (e ▸ hlL);have Sf:s.heap.objs.size∉[J,l]:=λhm=>by
  rcases List.mem_cons.mp hm with e|e
  exact SJ e;exact Sl (List.mem_singleton.mp e)
 refine ⟨⟨_,nS,rfl⟩,F.args_list_init_2 _ _,?_⟩;show wpAny _ _ (Sd (.ref s.heap.objs.size) >>= λold=>Builtin.List.listUpdate (.ref s.heap.objs.size) (λ_=>#[]) >>= λ_=>letGo old.toList.reverse >>= λ_=>Pw (.ref s.heap.objs.size) (.ref J) .none) _ _ _;refine NZ ?_
 delta Sd
 refine NZ (wpAny_seqItems nS rfl (wpAny_pure ?_));show wpAny _ _ (updateSeq s.heap.objs.size (λ_=>#[]) >>= λ_=>letGo (#[]:Array N1).toList.reverse >>= λ_=>Pw (.ref s.heap.objs.size) (.ref J) .none) _ _ _;refine NZ (wpAny_updateSeq nS rfl ?_);have nS2:=Rf (Qa (λ_=>(#[]:Array N1))) nS rfl;have oth:∀ b o,s.heap.get? b=UA o->((s.heap.push { cls:=.type "list",data:=.seq #[] }).update s.heap.objs.size (Qa (λ_=>(#[]:Array N1)))).get? b=UA o :=
  λb o e=>(Qk _ _ (λz=>OJ _ (z ▸ N6 e))).trans (NW _ e)
 refine NZ (wpAny_letGo ?_);have hi2:=hi.at (h':=(s.heap.push { cls:=.type "list",data:=.seq #[] }).update s.heap.objs.size (Qa (λ_=>(#[]:Array N1)))) (oth J);have hl2:=hl.at (h':=(s.heap.push { cls:=.type "list",data:=.seq #[] }).update s.heap.objs.size (Qa (λ_=>(#[]:Array N1)))) (oth l)
 delta Pw
 refine NZ (QB (T:="list_reverseiterator") (let ⟨o,e,c,_⟩:=hi2;⟨o,e,c⟩) ?_);rw[if_neg (by rw[show RV (.ref s.heap.objs.size) (.ref J)=UD by simp[RV,SJ]];decide)];refine NZ (RO hi2 ?_);refine NZ (PB (yU hi2 ?_));rw[if_neg (by decide)];have W:=(Walks.listRev (prog:=prog) (w:=w) (A:=A.in1.in1) hh J l hne its).toS;refine wpAny_pure ⟨plainId_quiet F.plain_extend_loop _,codeAny_extend_loopS W hz _ Sf _ its.size 0 _ _ _ rfl (O5 _) ⟨O5 _,by simpa using hi2,hl2⟩ nS2 (ItemsOf.nil _) λs' acc c hm hS' hacc=>⟨rfl,?_⟩⟩;rw[Moved.eq_with hm];refine hQ s'.heap s'.toks acc c (λb o hb e=>hm.heap b o (λhmem=>?_) (oth b o e)) hS' hacc;rcases List.mem_cons.mp hmem with z|z
 exact OJ _ (z ▸ N6 e);exact hb (List.mem_singleton.mp z)
end
section
theorem yV (O:Ok X F G sc N) (hu:b9 N=UC) (hg:aL sc "list"=UC) (hg2:aL sc "reversed"=UC) (hs:noStar ex=UC) (hA:PA X [ex] (tDs X F G sa)) :
 PE X (.Call (.Name "list" np) [.Call (.Name "reversed" zp) [ex] [] pos] [] p) (tD X F G (.lsr mu .rev sa)):=by
 intro zt s σ H Q I q;have q:=i9 (as:=sa) (k:=λws h=>BT.kLs mu .rev ws h) (λs h=>by simp only[BT.ev]) q (R':=λvs H1=>∃ m h ws z h',RH X.K m H1 h/\RWs X.prog X.w X.K m H1 vs ws/\BT.kLs mu .rev ws h=UA (z,h')/\Post X.prog X.w X.K m H1 z h' Q) λm h xs z h' vs H1 R r e zr=>⟨m,h,xs,z,h',R,r,e,zr⟩;refine Call_ (dH (u:=.type "list") I (aW O hg) (O.blt _ (by decide)) (by decide +kernel) (OG ?_ (ai rfl) rfl));rw[ai (show noStar (.Call (.Name "reversed" zp) [ex] [] pos)=UC from rfl)];show wpAny _ _ (Sy ((UD,eval (.Call (.Name "reversed" zp) [ex] [] pos) X.env)::PU p (OA [] X.env))) _ _ s;refine Pz (Call_ (dH (u:=.type "reversed") I (aW O hg2) (O.blt _ (by decide)) (by decide +kernel) (OG (thn (hA pos zt s σ H _ I q) λus s1 ⟨vs,H1,I1,r1,q1⟩=>?_) (ai hs) rfl)));obtain ⟨m,h,ws,z,h',R,rws,e,zr⟩:=q1;unfold BT.kLs at e;cases g1:(BT.rds ws h).bind (BT.dI .rev) with
 | none=>rw[g1] at e;cases e
 | some ds =>
  rw[g1] at e;simp only at e
  by_cases cl:ds.length<=BT.lim
  case neg=>rw[if_neg cl] at e;cases e
  rw[if_pos cl] at e;have ez:BT.new mu ds h=(z,h'):=Ob e;obtain ⟨xs,e1,e2⟩:=Option.bind_eq_some_iff.mp g1;have rr:=fH R rws e1;have hd:∃ ys:List BT.D,xs=[.lst ys]/\ds=ys.reverse:=by
   match xs,e2 with
   | [.lst ys],e2=>exact ⟨ys,rfl,(Ob e2).symm⟩
  obtain ⟨ys,rfl,ed⟩:=hd;obtain ⟨v,rfl,r⟩:=rr.one;obtain ⟨a,vt,rfl,ha,ra⟩:=r.lst;obtain ⟨u,rfl,eu⟩:=vals1 r1;cases eu;obtain ⟨zz,its,nn,rv,hl,ee⟩:=rdL I1 ha;have hL:s1.heap.IsList a its.toArray:=⟨_,ee,rfl,_,rfl⟩;refine call_reversed_list hL (Ql ?_);have la:=N6 ee;have hle:s1.heap.objs.size<=(s1.heap.push (revObj a ((its.toArray.size:Int) - 1))).objs.size:=by rw[Qp];exact P7 _
  refine mq (s:={ s1 with heap:=s1.heap.push (revObj a ((its.toArray.size:Int) - 1)) }) (I1.ok.hd (O.calm hu)) ⟨_,N8 _ rfl,rfl,rfl⟩ (hL.at λo e=>NW _ e) (On la) (by rw[N2,← hl];exact zz) λh2 tk acc c hk hS hacc=>?_;have hk':∀ b u,s1.heap.get? b=UA u->h2.get? b=UA u:=λb u q=>hk b u (On (N6 q)) (NW _ q);have sz:its.toArray.size=vt.length:=by rw[N2,hl]
  have hv:ao vt.reverse acc.toList:=by
   refine BQ (by simp[hacc.1,hl]) λj x u e1 e2=>?_;have jl:j < vt.length:=by
    have:=(List.getElem?_eq_some_iff.mp e1).1
    rwa [Ug] at this
   rw[TM jl] at e1;have e3:=hacc.2 j u (by simpa using e2);rw[sz] at e3;obtain ⟨u',e4,r4⟩:=rv.get e1;have:its.toArray[vt.length - 1 - j]?=its[vt.length - 1 - j]?:=by simp
   rw[this,e4] at e3;cases e3;exact r4
  refine ⟨.ref _,_,I1.laid (h':=h2) (t':=tk) (o:=.lst vt.reverse) hk' hle ⟨by rw[Ug];exact zz,acc.toList,c,hv,by simpa using hS⟩,rfl,?_⟩;refine iX (mu:=mu) R (I1.hok.fresh hle) ra.reverse ?_;rw[← ed,ez];exact zr
end
section
variable {E:N1->N4->Prop}
end
section
variable {prog:Ot}{w:OR}{A:PK}{s:N4}{R:T6->N4->Prop}{xs ys:Array N1}{z TI TO i1 i2 l1 l2 S:Of}
end
section
variable {prog:Ot}{w:OR}{A:PK}{E:N1->N4->Prop}{s:N4}{R:T6->N4->Prop}{xs ys:Array N1}{z TI TO i1 i2 l1 l2 S:Of}
end
section
variable {E:N1->N4->Prop}
end
section
end
section
theorem vJ {X:Cx}{v:V}{ds:List BT.D} (r:∀ m H,RW X.prog X.w X.K m H v (.p (.tup ds))):∃ a vs,v=.ref a/\KT X.K a vs:=by
 have z:=r [] (λ_=>UB);cases z with
 | p z =>
  cases z with
  | @tup a vs _ h _ =>
   rcases h with ⟨h,_⟩|h
   ·rcases h with h|⟨o,h⟩<;>cases h
   exact ⟨a,vs,rfl,h⟩
theorem vK {X:Cx}{sc:OD}{N:List Str} (O:Ok X F G sc N) {x:Str}{as:BT.Es}{es:List NX}{np apos cpos:Pos} (h2:aL sc x=UC) (h3:bU x=UC) (hl:(apos.endLine==cpos.line)=UC) (hlen:es.length < 20) (hc:CEs sc N as es) (ha:PA X es (tDs X F G as)) :
 PE X (.Call (.Attribute (.Name x np) "index" apos) es [] cpos) (tD X F G (.me .tindex (.glo x) as)):=by
 have hst:=cM hc;intro zt s σ H Q I q;obtain ⟨m,s',h,z,h',R,S,ee,zr⟩:=q;simp only[BT.ev] at ee;obtain ⟨w,g,e1,e2⟩:=ah ee;obtain ⟨_,e2⟩:=sW e2;obtain ⟨ws,g2,e3,e4⟩:=ah e2;obtain ⟨w',e5,e6⟩:=ay e1;cases e6;obtain ⟨u,v0,hm,rv,rw0⟩:=O.glob _ _ e5;have hT:∃ ds xs,BT.aE ws=UA ds/\w=.p (.tup xs)/\ds≠[]:=by
  cases w with
  | p d =>
   rw[BT.kP] at e4;cases gp:BT.aE ws with
   | none=>rw[gp] at e4;cases e4
   | some ds =>
    rw[gp] at e4;obtain ⟨b,e7,e8⟩:=ay e4;cases d with
    | tup xs=>refine ⟨ds,xs,rfl,rfl,λz=>?_⟩;subst z;exact aA e7| _=>cases ds<;>exact aA e7
  | _=>cases ws<;>(first|(cases e4;done)|simp[BT.meW] at e4)
 obtain ⟨ds,xs,gp,rfl,hne⟩:=hT;obtain ⟨a,vt,rfl,o,its,n,⟨k1,k2,k3,k4,k5⟩,k6⟩:=vJ rw0;cases es with
 | nil =>
  cases as with
  | cons a r=>cases hc| nil=>simp only[BT.evs] at e3;cases e3;simp[BT.aE] at gp;exact absurd gp hne
 | cons e es =>
  simp only[aq,NY] at hst;have h30:decide ((e::es).length+([]:List SL).length+(if ([]:List SL).isEmpty then 0 else 1) < 30)=UC:=decide_eq_true (by
   simp only[Oq,O6,List.isEmpty_nil,if_true] at hlen ⊢;lia)
  refine (DG PySem.F.plainAttrs_tuple PySem.F.slot_tuple_index PySem.F.type_tuple_index (vv O.hu) (su (aW O h2) hm rv (cZ h3).1) ha rfl (by
   rw[i8 (es:=e::es) (by simp only[aq,NY];exact hst),h30];rfl) hl (ai hst.1) (aH hst.2)) zt s σ H Q I ?_
  refine ⟨.inr (.inl ⟨rfl,o,k1,k2,k6⟩),m,s',h,ws,g2,R,S,e3,λvs H2 m2 x2 R2 r2=>?_⟩;exact ⟨m2,g2,.p (.tup xs),ws,z,h',R2,rw0 m2 H2,r2,e4,λv5 H5 m5 x5 R5 r5=>zr v5 H5 m5 (x2.trans x5) R5 r5⟩
theorem Gd {X:Cx}{me:BT.Me} (hm:me=.append\/me=.pop\/me=.extend) {o:BT.E}:∀ (m:List Of) (h h2:BT.HH) (H:Hp) (v:V) (x:BT.W) ws r,RH X.K m H h->RW X.prog X.w X.K m H v x->BT.lX x h=UC->BT.meW me x ws h2=UA r->(∃ σ s,RS X.prog X.w X.K m H σ s/\∃ h0,BT.ev F G o s h0=UA (x,h))->tyV X.K "list" v H:=by intro m h h2 H v x ws r R rq ok e _;obtain ⟨n,rfl⟩:=MC hm e;exact ty_list R rq ok
theorem MD {X:Cx}{o:BT.E}:∀ (m:List Of) (h h2:BT.HH) (H:Hp) (v:V) (x:BT.W) ws r,RH X.K m H h->RW X.prog X.w X.K m H v x->BT.lX x h=UC->BT.meW .sindex x ws h2=UA r->(∃ σ s,RS X.prog X.w X.K m H σ s/\∃ h0,BT.ev F G o s h0=UA (x,h))->tyV X.K "str" v H:=by
 intro m h h2 H v x ws r R rq _ e _;cases x with
 | p d =>
  rw[BT.kQ] at e;cases g:BT.aE ws with
  | none=>rw[g] at e;cases e
  | some ds =>
   rw[g] at e;obtain ⟨b,e7,e8⟩:=ay e;cases d with
   | str y=>cases rq with|p r=>cases r;exact rfl
   | _=>cases ds<;>exact aA e7
 | _=>cases ws<;>(first|(cases e;done)|simp[BT.meW] at e)
theorem Ju {X:Cx}{me:BT.Me} (hm:me=.count\/me=.lindex) {o:BT.E}:∀ (m:List Of) (h h2:BT.HH) (H:Hp) (v:V) (x:BT.W) ws r,RH X.K m H h->RW X.prog X.w X.K m H v x->BT.lX x h=UC->BT.meW me x ws h2=UA r->(∃ σ s,RS X.prog X.w X.K m H σ s/\∃ h0,BT.ev F G o s h0=UA (x,h))->tyV X.K "list" v H:=by
 intro m h h2 H v x ws r R rq _ e _;have key:∃ xs,x=.p (.lst xs):=by
  cases x with
  | p d =>
   rw[pQ] at e;cases g:BT.aE ws with
   | none=>rw[g] at e;cases e
   | some ds =>
    rw[g] at e;obtain ⟨b,e7,e8⟩:=ay e;cases d with
    | lst y=>exact ⟨y,rfl⟩
    | _=>rcases hm with rfl|rfl<;>cases ds<;>exact aA e7
  | _=>rcases hm with rfl|rfl<;>cases ws<;>(first|(cases e;done)|simp[BT.meW] at e)
 obtain ⟨xs,rfl⟩:=key;cases rq with
 | p r =>
  cases r with
  | @lst a vs _ h _=>exact .inl ⟨rfl,vs,LL.sq (h.elim (λq=>.inl q.1) .inr)⟩
theorem ME (σ:L2.St) (H:Hp) (Q:Bool->Hp->Prop) (q:tDT X F G e σ H Q):tB (tD X F G e) σ H Q:=by obtain ⟨m,s,h0,b,h',R,S,ee,zr⟩:=q;refine ⟨m,s,h0,_,h',R,S,ee,λv H' m' x R' r=>?_⟩;exact ⟨b,jD r,zr H' m' x R'⟩
def XE (F:FT) (G:Str->Option BT.W) (X:Cx) (e':BT.E) (e:NX):Prop:=PE X e (tD X F G e')/\(tOK e'=UC->PT X e (tDT X F G e')/\∀ op vs p,e=.BoolOp op vs p->PW X e (tDT X F G e'))
def XO (F:FT) (G:Str->Option BT.W) (X:Cx) (es':BT.Es) (o:Option NX):Prop:=∃ t,PO X o t ∧
 ∀ σ H (Q:Option Int->Hp->Prop),(∃ m s h l zs h',RH X.K m H h/\RS X.prog X.w X.K m H σ s/\BT.evs F G es' s h=UA (zs,h')/\(BT.aE zs).bind BT.nF=UA l/\∀ H' m',Ext m H m' H'->RH X.K m' H' h'->Q l H')->t σ H Q
theorem bL (p:PE X e (tD X F G e')) (hb:∀ op vs q,e≠.BoolOp op vs q) (he:∀ whole,isTrue e X.env whole=(do let v ← whole;standAt e.pos;holding [v] (truthy v)):=by intro _;rfl):XE F G X e' e :=
 ⟨p,λ_=>⟨PT.weak (Ef p he) ME,λop vs q z=>absurd z (hb op vs q)⟩⟩
theorem Ge:XO F G X .nil UB:=⟨_,AN,fun σ H Q q=>by obtain ⟨m,s,h,l,zs,h',R,S,e1,e2,zr⟩:=q;simp only[BT.evs] at e1;cases e1;simp[BT.aE,BT.nF] at e2;subst e2;exact zr H m (.refl _ _) R⟩
theorem Gf (ha:PE X e (tD X F G a)):XO F G X (.cons a .nil) (UA e):=by
 refine ⟨_,AO ha,fun σ H Q q=>?_⟩;obtain ⟨m,s,h,l,zs,h',R,S,e1,e2,zr⟩:=q;simp only[BT.evs] at e1;obtain ⟨x,h1,e3,e4⟩:=ah e1;simp only[BT.kT,BT.aO,BT.ig] at e4;cases e4;refine ⟨m,s,h,x,h',R,S,e3,λv H1 m1 x1 R1 r1=>?_⟩;cases r1 with
 | p r =>
  cases r<;>simp[BT.aE,BT.nF] at e2;subst e2;exact ⟨_,rfl,zr H1 m1 x1 R1⟩
 | _=>simp[BT.aE] at e2
theorem lA (ha:PE X e (tD X F G a)) (hs:noStar e=UC):PA X [e] (tDs X F G (.cons a .nil)) :=
 PA.weak (dW ha ju (ai hs)) fun σ H Q q=>by obtain ⟨m,s,h,z0,h',R,S,ee,zr⟩:=cons_of σ H Q q;exact ⟨m,s,h,z0,h',R,S,ee,λv H1 m1 x1 R1 r1=>gQ (zr v H1 m1 x1 R1 r1)⟩
theorem rN (ha:PE X e (tD X F G a)) (hb:PE X f (tD X F G b)) (hs:noStar e=UC) (hs2:noStar f=UC):PA X [e,f] (tDs X F G (.cons a (.cons b .nil))) :=
 PA.weak (dW ha (lA hb hs2) (ai hs)) cons_of
theorem sMe (O:Ok X F G sc N) (h1:Bf m o=UC) (h2:name=xV m) (h3:aD oe=UC) (h6:(apos.endLine==cpos.line)=UC) (h7:es.length < 20) (ho:CE' sc N o oe) (ha:CEs sc N as es) (hO:PE X oe (tD X F G o)) (hA:PA X es (tDs X F G as)) :
 PE X (.Call (.Attribute oe name apos) es [] cpos) (tD X F G (.me m o as)):=by
 subst h2;cases m with
 | append=>exact jE (sc:=sc) (N:=N) Pu PySem.F.slot_list_append PySem.F.type_list_append vp h3 h6 h7 hO ha hA (Gd (.inl rfl))| pop=>exact jE (sc:=sc) (N:=N) Pu PySem.F.slot_list_pop PySem.F.type_list_pop FA h3 h6 h7 hO ha hA (Gd (.inr (.inl rfl)))| extend=>exact jE (sc:=sc) (N:=N) Pu PySem.F.slot_list_extend PySem.F.type_list_extend vq h3 h6 h7 hO ha hA (Gd (.inr (.inr rfl)))| sindex=>exact jE (sc:=sc) (N:=N) PySem.F.plainAttrs_str PySem.F.slot_str_index PySem.F.type_str_index vz h3 h6 h7 hO ha hA MD
 | tindex =>
  cases ho with
  | glo hg hn=>exact vK O hg hn h6 h7 ha hA| _=>simp[Bf,xW] at h1
 | dget=>simp[Bf] at h1| count=>exact jE (sc:=sc) (N:=N) Pu PySem.F.slot_list_count PySem.F.type_list_count (yG O.hu) h3 h6 h7 hO ha hA (Ju (.inl rfl))| lindex=>exact jE (sc:=sc) (N:=N) Pu PySem.F.slot_list_index PySem.F.type_list_index (vC O.hu) h3 h6 h7 hO ha hA (Ju (.inr rfl))
theorem Jv (pe:PE X (.BoolOp .And (x::r) p) (tD X F G (.and a b))) (w:tOK (.and a b)=UC->PW X (.BoolOp .And (x::r) p) (tDT X F G (.and a b))):XE F G X (.and a b) (.BoolOp .And (x::r) p) :=
 ⟨pe,λht=>⟨(w ht).pt,λ_ _ _ e=>by cases e;exact w ht⟩⟩
theorem sOr (pe:PE X (.BoolOp .Or (x::r) p) (tD X F G (.or a b))) (w:tOK (.or a b)=UC->PW X (.BoolOp .Or (x::r) p) (tDT X F G (.or a b))):XE F G X (.or a b) (.BoolOp .Or (x::r) p) :=
 ⟨pe,λht=>⟨(w ht).pt,λ_ _ _ e=>by cases e;exact w ht⟩⟩
theorem kr (h:tOK (.and a b)=UC):tOK a=UC/\tOK b=UC:=by have h:(tOK a&&tOK b)=UC:=h;simpa only[NY] using h
theorem oi (h:tOK (.or a b)=UC):tOK a=UC/\tOK b=UC:=by have h:(tOK a&&tOK b)=UC:=h;simpa only[NY] using h
theorem sX (h:CE' sc N e' e) (O:Ok X F G sc N):XE F G X e' e:=by
 refine @CE'.rec (λsc N e' e _=>∀ (X:Cx),Ok X F G sc N->XE F G X e' e) (λsc N as es _=>∀ (X:Cx),Ok X F G sc N->PA X es (tDs X F G as)) (λsc N es' o _=>∀ (X:Cx),Ok X F G sc N->XO F G X es' o) (λsc N cond ifs _=>lz F G sc N cond ifs) (λsc N sr sa iter _=>∀ (X:Cx),Ok X F G sc N->∀ (tg:NX),pN sr tg=UC->PI X tg iter (iD X F G sr sa))
  (λh1 h2 h3 X O=>bL (nX O h1 h2 h3) (λ_ _ _ z=>nomatch z))
  (λh X O=>bL (Bp h) (λ_ _ _ z=>nomatch z))
  (λh2 h3 X O=>bL (Bq O h2 h3) (λ_ _ _ z=>nomatch z))
  (λh _ _ ia ib X O=>bL (PE.weak (HS (opB h) (ia _ O).1 (ib _ O).1) (nW λs h=>by simp only[BT.ev])) (λ_ _ _ z=>nomatch z))
  (λ_ ia X O=>bL (PE.weak (DB wN (ia _ O).1) FM) (λ_ _ _ z=>nomatch z))
  (λ_ ia X O=>⟨PE.weak (Ei (ia _ O).1) Bu,λht=>⟨PT.weak (Eh ((ia _ O).2 ht).1) Bt,λ_ _ _ e=>nomatch e⟩⟩)
  (λ_ _ ia ib X O=>Jv (PE.weak (wD (ia _ O).1 (wC (ib _ O).1)) tw) λht=>PW.weak (wB ((ia _ O).2 (kr ht).1).1 (Aw ((ib _ O).2 (kr ht).2).1)) tE)
  (λ_ _ ia ib X O=>Jv (PE.weak (wD (ia _ O).1 (ib _ O).1) tw) λht=>PW.weak (wB ((ia _ O).2 (kr ht).1).1 (((ib _ O).2 (kr ht).2).2 _ _ _ rfl)) tE)
  (λ_ _ ia ib X O=>sOr (PE.weak (Dz (ia _ O).1 (wC (ib _ O).1)) yr) λht=>PW.weak (Dv ((ia _ O).2 (oi ht).1).1 (Eg ((ib _ O).2 (oi ht).2).1)) yt)
  (λ_ _ ia ib X O=>sOr (PE.weak (Dz (ia _ O).1 (ib _ O).1) yr) λht=>PW.weak (Dv ((ia _ O).2 (oi ht).1).1 (((ib _ O).2 (oi ht).2).2 _ _ _ rfl)) yt)
  (λh _ _ hm ia ib X O=>⟨PE.weak (AE (opC O h) (ia _ O).1 (ib _ O).1 hm) (nW λs h=>by simp only[BT.ev]),λ_=>⟨PT.weak (AF (opC O h) (ia _ O).1 (ib _ O).1 hm) (pT (nW λs h=>by simp only[BT.ev])),λ_ _ _ e=>nomatch e⟩⟩)
  (λh h' _ _ _ hm ia ib ic X O=>⟨PE.weak (wR (opC O h) (opC O h') (ia _ O).1 (ib _ O).1 (ic _ O).1 hm) pU,λ_=>⟨PT.weak (wU (opC O h) (opC O h') (ia _ O).1 (ib _ O).1 (ic _ O).1 hm) (pT pU),λ_ _ _ e=>nomatch e⟩⟩)
  (λh _ _ _ ic ia ib X O=>⟨PE.weak (wF ((ic _ O).2 h).1 (ia _ O).1 (ib _ O).1) FJ,λht=>nomatch ht⟩)
  (λ_ ia X O=>⟨PE.weak (ED (ia _ O)) FP,λht=>nomatch ht⟩)
  (λ_ ia X O=>⟨PE.weak (EF (ia _ O)) FQ,λht=>nomatch ht⟩)
  (λ_ _ hs ia ii X O=>bL (PE.weak (Ii Fz (ia _ O).1 (ii _ O).1 (yo hs)) (nW λs h=>by simp only[BT.ev])) (λ_ _ _ z=>nomatch z))
  (λ_ _ _ ia il iu X O=>bL (by
   obtain ⟨tl,hl1,hl2⟩:=il _ O;obtain ⟨tu,hu1,hu2⟩:=iu _ O;exact PE.weak (xo osl (ia _ O).1 hl1 hu1) (FN hl2 hu2)) (λ_ _ _ z=>nomatch z))
  (λhg hn ha ia X O=>bL (yu O hg hn ha (ia _ O)) (λ_ _ _ z=>nomatch z))
  (λhu hg hg2 hs _ ia X O=>bL (yV O hu hg hg2 hs (lA (ia _ O).1 hs)) (λ_ _ _ z=>nomatch z))
  (λhu hb hg hs _ ia X O=>bL (FO O hu hb hg (by simp[aq,hs]) (lA (ia _ O).1 hs)) (λ_ _ _ z=>nomatch z))
  (λhb hg hg2 hs _ ia X O=>bL (yv O hb hg hg2 hs (ia _ O).1) (λ_ _ _ z=>nomatch z))
  (λh1 h2 h3 h6 h7 ho ha io ia X O=>bL (sMe O h1 h2 h3 h6 h7 ho ha (io _ O).1 (ia _ O)) (λ_ _ _ z=>nomatch z))
  (λhu hk ht hz hs _ _ _ ii ic ie X O=>⟨BZ O hu hk ht hs (ii _ O _ hz) ic λX' O'=>(ie _ O').1,λht=>nomatch ht⟩)
  (λhb hf _ ia X O=>bL (Bw (sc:=sc) (N:=N) hb hf (ia _ O).1) (λ_ _ _ z=>nomatch z))
  (λh3 h6 h7 _ ha io ia X O=>bL (yx O h3 h6 h7 (io _ O).1 ha (ia _ O)) (λ_ _ _ z=>nomatch z))
  (λhk _ ia X O=>bL (Bx hk (ia _ O).1) (λ_ _ _ z=>nomatch z))
  (λhu hb hg hs1 hs2 _ _ ia ib X O=>bL (By O hu hb hg (by simp[aq,hs1,hs2]) (rN (ia _ O).1 (ib _ O).1 hs1 hs2)) (λ_ _ _ z=>nomatch z))
  (λhg hn ha ia X O=>bL (yy O hg hn ha (ia _ O)) (λ_ _ _ z=>nomatch z))
  (λh1 h2 h3 ha ia X O=>bL (yF O h1 h2 h3 ha (ia _ O)) (λ_ _ _ z=>nomatch z))
  (λX O=>bL BI (λ_ _ _ z=>nomatch z))
  (λhu hg h3 h6 _ io X O=>bL (F8 O hu hg h3 h6 (io _ O).1) (λ_ _ _ z=>nomatch z))
  (λhu hg hs _ ia X O=>bL (F9 O hu hg hs (ia _ O).1) (λ_ _ _ z=>nomatch z))
  (λhu hg hs _ ia X O=>bL (Ga O hu hg hs (ia _ O).1) (λ_ _ _ z=>nomatch z))
  (λX O=>PA.weak ju fun σ H Q q=>gQ q)
  (λhs _ _ ia ir X O=>PA.weak (dW (ia _ O).1 (ir _ O) (ai hs)) cons_of)
  (λX O=>Ge)
  (λ_ ia X O=>Gf (ia _ O).1)
  (.inl ⟨rfl,rfl⟩)
  (λht _ ia=>.inr ⟨_,_,rfl,rfl,λX' O'=>((ia _ O').2 ht).1⟩)
  (λhg hs _ ia X O _ _=>pX O hg hs (lA (ia _ O).1 hs))
  (λhg hs hs2 _ _ ia ib X O _ _=>pY O hg hs hs2 (rN (ia _ O).1 (ib _ O).1 hs hs2))
  (λhg hs _ ia X O _ _=>tP O hg hs (ia _ O).1)
  (λ_ ia X O _ _=>yQ (ia _ O).1)
  (λ_ ia X O _ _=>tO (ia _ O).1)
  sc N e' e h X O
theorem sE (h:CE' sc N e' e) (O:Ok X F G sc N):PE X e (tD X F G e'):=(sX h O).1
theorem sT (h:CE' sc N e' e) (O:Ok X F G sc N) (ht:tOK e'=UC):PT X e (tDT X F G e')/\∀ op vs p,e=.BoolOp op vs p->PW X e (tDT X F G e'):=(sX h O).2 ht
theorem sCC (h:CC sc N cond ifs):lz F G sc N cond ifs:=by
 cases h with
 | nil=>exact .inl ⟨rfl,rfl⟩| one ht ha=>exact .inr ⟨_,_,rfl,rfl,λX' O'=>(sT ha O' ht).1⟩
theorem sCI (h:CI sc N sr sa iter) (O:Ok X F G sc N) (hz:pN sr tg=UC):PI X tg iter (iD X F G sr sa):=by
 cases h with
 | dks h=>exact yQ (sE h O)| seq h=>exact tO (sE h O)| rng1 hg hs h=>exact pX O hg hs (lA (sE h O) hs)| rng2 hg hs hs2 ha hb=>exact pY O hg hs hs2 (rN (sE ha O) (sE hb O) hs hs2)| rev hg hs h=>exact tP O hg hs (sE h O)
end
noncomputable def mk3 (H:Hp) (P c f:Of) (t c0 f0:HO):Hp:=upd (upd (upd H P t) c c0) f f0
theorem bR (hP:H P=UA (.tbl ps)) (hc:H c=UB) (hf:H f=UB) (e:H a=UA u) (n:ya u=UD):mk3 H P c f t c0 f0 a=UA u:=by unfold mk3;rw[av (az e hf),av (az e hc),av (λz=>by subst z;rw[hP] at e;cases e;cases n)];exact e
theorem rO (l:List N1) (h:TriplesOk l) (e:QN pos (l++[QM a,QM b,v0])=UA v):QN pos l=UA v\/v=v0:=by
 fun_induction TriplesOk l with
 | case1 =>
  simp only[Qe,QM,QN] at e;split at e;cases e;exact .inr rfl;cases e
 | case2 a' t b' u x rest ih =>
  simp only[List.cons_append,QN] at e ⊢;split at e;rename_i hc;rw[if_pos hc];exact .inl e;rename_i hc;rw[if_neg hc];exact ih h e
 | case3 l h1 h2=>exact h.elim
structure Made (X:Cx) (zt:List (Of×Obj)) (σ:L2.St) (m:List Of) (H:Hp) (h:BT.HH) (q:Str) (pa:Su) (be:NX) (sc:OD) (cl:List (Str×Of)) (f:Of) (H3:Hp) (s3:N4):Prop where
 inv:Inv X zt σ H3 s3
 ext:Ext m H m H3
 rh:RH X.K m H3 h
 ex:∃ pm ctv c' oc os t,Tr m H3 f (QZ "<lambda>" q pa be sc cl pm c' ctv)/\Tr m H3 c' oc/\oc.data=.fields os/\os[1]?=UA (.str q t)
theorem B4 (I:Inv X zt σ H s) (R:RH X.K m H h) (lx:LX X x) (tc:OS X.K x=UA (c,P)) (hP:H P=UA (.tbl ps))
 (ht:TriplesOk ps.toList) (hall:∀ pos v,QN pos ps.toList=UA v->∃ c' oc os t,v=.ref c'/\H c'=UA (.frz oc (.own 0))/\oc.data=.fields os/\os[1]?=UA (.str (vf x) t))
 (uniq:∀ y∈BT.cQ,∀ c2,OS X.K y=UA (c2,P)->y=x)
 (hn:QN pos ps.toList=UB) {f:Of} (hfo:fo.isFreed=UD) {os:Array N1} (hx:Heap.ExtBut P s.heap h') (hge:s.heap.objs.size<=c') (hlt:c' < h'.objs.size) (ho:h'.get? c'=UA oc) (hd:oc.data=.fields os) (hq:os[1]?=UA (.str (vf x) t))
 (hT:h'.get? P=UA (PY (ps++#[QM pos.line,QM pos.col,.ref c']))) :
 Inv X zt σ (mk3 H P c' h'.objs.size (.tbl (ps++#[QM pos.line,QM pos.col,.ref c'])) (.frz oc (.own 0)) (.frz fo (.own 0))) { s with heap:=h'.push fo,toks:=tk }/\Ext m H m (mk3 H P c' h'.objs.size (.tbl (ps++#[QM pos.line,QM pos.col,.ref c'])) (.frz oc (.own 0)) (.frz fo (.own 0))) ∧
 RH X.K m (mk3 H P c' h'.objs.size (.tbl (ps++#[QM pos.line,QM pos.col,.ref c'])) (.frz oc (.own 0)) (.frz fo (.own 0))) h:=by
 have hPs:s.heap.get? P=UA (PY ps):=I.hok _ _ hP;have szP:P < s.heap.objs.size:=N6 hPs;have cP:c'≠P:=λz=>by rw[z] at hge;exact absurd szP (Nat.not_lt.mpr hge)
 have fP:h'.objs.size≠P:=λz=>by rw[← z] at szP;exact absurd (Ou szP hge) (Nat.not_lt.mpr (O0 hlt))
 have fc:h'.objs.size≠c':=PR hlt;have fr:∀ a,s.heap.objs.size<=a->H a=UB:=λa ha=>I.hok.fresh ha;have hc:=fr c' hge;have hf:=fr h'.objs.size (O0 (RU hge hlt));have at1:∀ t c0 f0,mk3 H P c' h'.objs.size t c0 f0 h'.objs.size=UA f0:=λ_ _ _=>aB;have at2:∀ t c0 f0,mk3 H P c' h'.objs.size t c0 f0 c'=UA c0:=λ_ _ _=>by unfold mk3;rw[av (Pb fc),aB]
 have at3:∀ t c0 f0,mk3 H P c' h'.objs.size t c0 f0 P=UA t:=λ_ _ _=>by unfold mk3;rw[av (Pb fP),av (Pb cP),aB]
 have at4:∀ t c0 f0 b,b≠P->b≠c'->b≠h'.objs.size->mk3 H P c' h'.objs.size t c0 f0 b=H b:=λ_ _ _ b n1 n2 n3=>by unfold mk3;rw[av n3,av n2,av n1]
 have nP:∀ b,H b=UB->b≠P:=λb e z=>by rw[z,hP] at e;cases e
 have lt:∀ b o,s.heap.get? b=UA o->b≠c'/\b≠h'.objs.size:=λb o e=>by have l:=N6 e;exact ⟨λz=>by rw[z] at l;exact absurd l (Nat.not_lt.mpr hge),λz=>by rw[z] at l;exact absurd (Ou l hge) (Nat.not_lt.mpr (O0 hlt))⟩
 have kp:∀ b o,b≠P->s.heap.get? b=UA o->(h'.push fo).get? b=UA o:=λb o n e=>NW _ (hx b o n e);refine ⟨I.un ⟨λb o e n _ _=>kp b o (nP b n) e,λb o e n _ _=>⟨o.slots,kp b o (nP b n) e⟩,λb o e n _=>?_,λb o e _=>?_,λb xs e=>bR hP hc hf e rfl,λb o u e=>bR hP hc hf e rfl,λb qs e=>?_⟩ λb u e=>?_,?_,?_⟩;rw[at4 _ _ _ b (nP b n) (lt b o e).1 (lt b o e).2];exact n
 ·by_cases z:b=P
  exact ⟨_,by rw[z];exact NW _ hT⟩;exact ⟨o,kp b o z e⟩
 ·by_cases z:b=P
  subst z;rw[hP] at e;cases e;exact ⟨_,at3 _ _ _⟩;exact ⟨#[],by rw[at4 _ _ _ b z (az e hc) (az e hf),e];simp⟩
 ·by_cases z1:b=h'.objs.size
  subst z1;rw[at1] at e;cases e;exact ⟨N8 _ hfo,_,N8 _ hfo⟩
  by_cases z2:b=c'
  subst z2;rw[at2] at e;cases e;exact ⟨NW _ ho,_,NW _ ho⟩
  by_cases z3:b=P
  subst z3;rw[at3] at e;cases e;exact NW _ hT;rw[at4 _ _ _ b z3 z2 z1] at e;refine (I.hok b u e).stay (λd o hd q=>kp d o ?_ q) (λd q=>bR hP hc hf q rfl) λd xs q=>bR hP hc hf q rfl;rcases hd with rfl|hd
  exact z3
  ·rintro rfl;rw[hP] at hd;cases hd
 ·refine ⟨⟨[],by simp,by simp⟩,λa o e n t=>bR hP hc hf e t,λa e=>?_⟩
  by_cases z1:a=h'.objs.size
  rw[z1];exact hf
  by_cases z2:a=c'
  rw[z2];exact hc
  by_cases z3:a=P
  subst z3;rw[at3] at e;cases e;rw[at4 _ _ _ a z3 z2 z1] at e;exact e
 ·have sq:kY H (mk3 H P c' h'.objs.size (.tbl (ps++#[QM pos.line,QM pos.col,.ref c'])) (.frz oc (.own 0)) (.frz fo (.own 0))) :=
   ⟨λa vs r=>r.elim (λz=>.inl (bR hP hc hf z rfl)) λ⟨o,z⟩=>.inr ⟨o,bR hP hc hf z rfl⟩,λa vs r=>r.elim (λz=>.inl (bR hP hc hf z rfl)) λ⟨o,z⟩=>.inr ⟨o,bR hP hc hf z rfl⟩⟩
  refine R.tr sq (λa ha=>?_) λy hy c2 P2 e2=>?_
  ·obtain ⟨o,e,z⟩:=R.mu ha;rw[e];exact bR hP hc hf e (by cases o<;>first|rfl|cases z)
  ·by_cases z:P2=P
   ·subst z;obtain rfl:=uniq y hy c2 e2;refine ⟨_,at3 _ _ _,?_,λpos' v e=>?_⟩
    ·have:=TriplesOk_snoc pos.line pos.col (.ref c') ps.toList ht;simpa using this
    ·have e':QN pos' (ps.toList++[QM pos.line,QM pos.col,.ref c'])=UA v:=by simpa using e
     rcases rO _ ht e' with q|q
     ·obtain ⟨c3,oc3,os3,t3,q1,q2,q3⟩:=hall pos' v q;exact ⟨c3,oc3,os3,t3,q1,bR hP hc hf q2 rfl,q3⟩
     ·subst q;exact ⟨c',oc,os,t,rfl,at2 _ _ _,hd,hq⟩
   ·obtain ⟨qs,e3,e4,e5⟩:=R.tb y hy c2 P2 e2;refine ⟨qs,by rw[at4 _ _ _ P2 z (az e3 hc) (az e3 hf)];exact e3,e4,λpos' v e=>?_⟩;obtain ⟨c3,oc3,os3,t3,q1,q2,q3⟩:=e5 pos' v e;exact ⟨c3,oc3,os3,t3,q1,bR hP hc hf q2 rfl,q3⟩
theorem yW (I:Inv X zt σ H s) (R:RH X.K m H h) (lx:LX X x) (hp:LPa pa ps)
 (hfree:∀ y∈scope.names,y.2=.free->X.env.scope.names.lookup y.1=UA .cell) {E:N1->N4->Prop}
 (hQ:∀ f H3 s3,Made X zt σ m H h (vf x) pa be scope (BC.bW X.env.cells scope.names []) f H3 s3->Q (.ref f) s3):wpAny (Ow X.prog X.w) X.A (eval (.Lambda pa be scope lp) X.env) Q E s:=by
 obtain ⟨c,P,tc,hcode,chd,uniq⟩:=lx.ex;obtain ⟨ts,hP,ht,hall⟩:=R.tb x lx.mem c P tc;have hPs:s.heap.get? P=UA (PY ts):=I.hok _ _ hP;have hg:=I.ok.mod.glob.keeps I.bk;obtain ⟨bm,ob,b1,b2,b3,b4,b5,b6⟩:=lx.bm;have b3':=I.bk _ _ b3;have hgP:Og≠P:=λq=>by obtain ⟨o,es,ep,e,hd,_⟩:=hg;rw[q,hPs] at e;cases e;cases hd
 have hbP:bm≠P:=λq=>by rw[q,hPs] at b3';cases b3';cases b4
 have hbG:bm≠Og:=λq=>by obtain ⟨o,es,ep,e,hd,_⟩:=hg;rw[q,e] at b3';cases b3';rw[hd] at b6;cases b6
 have hcl:closureFor scope X.env=pure (BC.bW X.env.cells scope.names []):=BC.lg λy hy e=>I.ok.has y.1 (.inl (hfree y hy e));have hB:s.heap.BuiltinsAt X.mg P:=⟨bm,ob,b1,b2,hbG,hbP,b3',b4,b5,b6⟩;refine PySem.W.kla_eval (by cases hp<;>rfl) ?_;rw[lx.ql];cases hq:QN lp ts.toList with
 | none =>
  refine PySem.W.kla_makeFunction (mg:=X.mg) hcl I.ok.glob hg hcode (chd.keeps I.bk) hPs ht hq hgP hB λc' ctv h' tk hx hge hlt hrec htb=>?_;obtain ⟨c2,oc,vs,t,e2,hoc,hd,hv⟩:=hrec;cases e2;obtain ⟨z1,z2,z3⟩:=B4 (tk:=tk) (fo:=QZ "<lambda>" (vf x) pa be scope (BC.bW X.env.cells scope.names []) ((X.mg "__name__").getD .none) c' ctv) I R lx tc hP ht hall uniq (f:=h'.objs.size) hq rfl hx hge hlt hoc hd hv htb;have nf:h'.objs.size≠c':=PR hlt;have e1:=I.hok.fresh (O0 (RU hge hlt));have e2:=I.hok.fresh hge;exact hQ _ _ _ ⟨z1,z2,z3,_,ctv,c',oc,vs,t,⟨aB,R.cY e1⟩,⟨by unfold mk3;rw[av (Pb nf),aB],R.cY e2⟩,hd,hv⟩
 | some cv =>
  obtain ⟨c',oc,os,t,rfl,q2,q3,q4⟩:=hall _ _ hq;refine PySem.W.kla_makeFunctionHit (mg:=X.mg) hcl I.ok.glob hg hcode (chd.keeps I.bk) hPs ht hq hB λctv h' tk hk hsz=>?_;have e1:=I.hok.fresh hsz;refine hQ _ _ _ ⟨I.laid (o:=.frz (QZ "<lambda>" (vf x) pa be scope (BC.bW X.env.cells scope.names []) ((X.mg "__name__").getD .none) c' ctv) (.own 0)) (t':=tk) (λb u e=>NW _ (hk b u e)) hsz ⟨N8 _ rfl,_,N8 _ rfl⟩,d9 e1,R.new e1,_,ctv,c',oc,os,t,⟨aB,R.cY e1⟩,⟨rG e1 _ _ q2,R.nin q2 rfl⟩,q3,q4⟩
end BS
end
section
namespace BS
open PySem PySem.Spec PyProof.Rows L2
open Classical in
noncomputable def dS (cl:List (Str×Of)) (h:Heap) (H:Hp):Hp:=λb=>if ∃ x,cl.lookup x=UA b then UA (.frz ((h.get? b).getD default) (.own 0)) else H b
section
theorem ku (e:cl.lookup x=UA b) (g:h.get? b=UA o):dS cl h H b=UA (.frz o (.own 0)):=by unfold dS;rw[if_pos ⟨x,e⟩,g];rfl
theorem dN (e:¬ ∃ x,cl.lookup x=UA b):dS cl h H b=H b:=if_neg e
theorem B5 (N:∀ x c,cl.lookup x=UA c->H c=UB):Le H (dS cl h H):=λa u e=>by rw[dN (λ⟨x,q⟩=>by rw[N x a q] at e;cases e)];exact e
end
theorem kB:∀ {names:List (Str×Qd)}{acc:List (Str×Of)},(BC.bW cells names acc).lookup y=UA d->acc.lookup y=UA d\/(y,OU)∈names
 | [],acc,e=>.inl e
 | (n,k)::r,acc,e=>by
  rw[BC.bW] at e;split at e
  ·rename_i hk;have hk:k=.free:=eq_of_beq hk;split at e
   ·rename_i a ea;rcases kB e with q|q
    ·rw[OZ] at q;split at q
     ·rename_i hy;have:y=n:=by simpa using hy
      subst this;subst hk;exact .inr Oe
     exact .inl q
    exact .inr (Oa _ q)
   ·rcases kB e with q|q
    exact .inl q;exact .inr (Oa _ q)
  ·rcases kB e with q|q
   exact .inl q;exact .inr (Oa _ q)
theorem Gg (e:(BC.bW cells names []).lookup y=UA d):(y,OU)∈names:=by
 rcases kB e with q|q
 simp at q;exact q
theorem RWs.le {K:NV} (q:Le H H') (r:RWs P w K m H vs ws):RWs P w K m H' vs ws:=by
 induction r with
 | nil=>exact .nil| cons r t ih=>exact .cons (r.le q) ih
section
variable {F:FT}{G:Str->Option BT.W}
theorem Gi {K:NV} (r:RW P w K m H v x) (e:BT.pH x=UA cp):RA K m H v cp.w:=by
 cases r with
 | p r=>cases e;exact .p r| o h=>cases e;exact .o h| _=>cases e
theorem qd (I:Inv X zt σ H s) (R:RH X.K m H g) (hsc:X.env.scope=sc) (hN:X.N=N) (S:RS X.prog X.w X.K m H σ sl)
 (hsub:∀ x c,cl.lookup x=UA c->X.env.cells.lookup x=UA c):∀ (fv:List (Nat×Str)) (cs:List BT.Cp),ve sc N fv=UC->(∀ q∈fv,∃ c,cl.lookup q.2=UA c)->BT.caps sl fv=UA cs->∃ cvs,fU m (dS cl s.heap H) cl (fv.map (·.2)) cvs/\RCs X.K m H cvs cs
 | [],cs,_,_,e=>by cases e;exact ⟨[],.nil,.nil⟩
 | q::r,cs,hv,hc,e=>by
  simp only[ve,Te,NY] at hv;rw[BT.vc] at e;split at e
  ·rename_i w g1;obtain ⟨cp,e1,e2⟩:=Option.bind_eq_some_iff.mp e;obtain ⟨cs',e3,rfl⟩:=ay e2;obtain ⟨cvs,c1,c2⟩:=qd I R hsc hN S hsub r cs' hv.2 (λq hq=>hc q (Oa _ hq)) e3;obtain ⟨v,s1,rv⟩:=S.get _ _ g1;obtain ⟨c,hcc⟩:=hc q Oe;have hce:=hsub _ _ hcc;obtain ⟨mm,hn,hl⟩:=I.loc;have kc:X.env.scope.names.lookup q.2=UA .cell:=by rw[hsc];exact eq_of_beq hv.1.2
   obtain ⟨u,ru,lk⟩:=hl q.1 q.2 v (by rw[hN];exact eq_of_beq hv.1.1) s1 (.inr (.inl kc));rcases lk with ⟨k,_⟩|⟨k,c',ec,o,ho,hd⟩
   ·have:X.env.scope.names.lookup q.2=UA .local:=k;rw[kc] at this;cases this
   ·rw[hce] at ec;cases ec;exact ⟨v::cvs,.cons hcc ⟨ku hcc ho,R.cY (I.freeC _ _ hce)⟩ hd ru c1,.cons (Gi rv e1) c2⟩
  cases e
theorem vL (e:BT.rD F m ea L ocs x h=UA r) :
 ∃ n c fs ws g cs,x=.o n/\BT.oat h n=UA (c,fs)/\(BT.aU m fs).isNone=UC/\ea h=UA (ws,g)/\ocs=UA cs/\F (.m c m) (.o n::(ws++[.c (.l L) cs])) g=UA r/\BT.noC [r.1]=UC:=by
 cases x with
 | o n =>
  rw[BT.xH] at e;cases g:BT.oat h n with
  | none=>rw[g] at e;cases e
  | some q =>
   obtain ⟨c,fs⟩:=q;rw[g] at e;simp only at e;split at e
   ·rename_i c1;obtain ⟨ws,g2,e1,e2⟩:=ah e;cases ocs with
    | none=>cases e2
    | some cs =>
     rw[BT.vd] at e2;obtain ⟨z,h2,e3,e4⟩:=ah e2;refine ⟨n,c,fs,ws,g2,cs,rfl,g,c1,e1,rfl,?_⟩;cases z with
     | c _ _=>cases e4| x _=>cases e4| k _=>cases e4| _=>cases e4;exact ⟨e3,rfl⟩
   cases e
 | _=>cases e
def B6 (X:Cx) (F:FT) (G:Str->Option BT.W) (as:BT.Es) (args:List NX) (lam:NX):Prop :=
 ∀ (pos:Pos) (zt:List (Of×Obj)) (s:N4) (σ:L2.St) (H:Hp) (m:List Of) (sl:BT.Sl) (h:BT.HH) (ws:List BT.W) (g:BT.HH) (Q:List N1->N4->Prop),Inv X zt σ H s->RH X.K m H h->RS X.prog X.w X.K m H σ sl->BT.evs F G as sl h=UA (ws,g) →
  (∀ vs us H1 s1 m1,Inv X zt σ H1 s1->ao vs us->Ext m H m1 H1->RH X.K m1 H1 g->RWs X.prog X.w X.K m1 H1 vs ws->wpAny (Ow X.prog X.w) X.A (eval lam X.env) (λu s2=>Q (us++[u]) s2) X.xe s1) →
  wpAny (Ow X.prog X.w) X.A (Sy (PU pos (OA args X.env))) Q X.xe s
theorem Jw:B6 X F G .nil [.Lambda pa be scope lp] (.Lambda pa be scope lp):=by intro pos zt s σ H m sl h ws g Q I R S e k;simp only[BT.evs] at e;cases e;show wpAny _ _ (Sy ((UD,eval (.Lambda pa be scope lp) X.env)::PU pos (OA [] X.env))) _ _ s;exact Pz (thn (k [] [] H s m I .nil (.refl _ _) R .nil) λu s2 q=>Ql q)
theorem Jx (hs:noStar e=UC) (ha:PE X e (tD X F G a)):B6 X F G (.cons a .nil) [e,.Lambda pa be scope lp] (.Lambda pa be scope lp):=by intro pos zt s σ H m sl h ws g Q I R S ee k;simp only[BT.evs] at ee;obtain ⟨z,g1,e1,e2⟩:=ah ee;simp only[BT.kT,BT.aO,BT.ig] at e2;cases e2;rw[ai hs];show wpAny _ _ (Sy ((UD,eval e X.env)::PU pos (OA [.Lambda pa be scope lp] X.env))) _ _ s;refine Pz (thn (ha zt s σ H (λv H1=>∃ m1,Ext m H m1 H1/\RH X.K m1 H1 g/\RW X.prog X.w X.K m1 H1 v z) I ⟨m,sl,h,z,g,R,S,e1,λv H1 m1 x1 R1 r1=>⟨m1,x1,R1,r1⟩⟩) λu s1 zq=>?_);obtain ⟨v,H1,I1,r1,m1,x1,R1,w1⟩:=zq;show wpAny _ _ (Sy ((UD,eval (.Lambda pa be scope lp) X.env)::PU pos (OA [] X.env))) _ _ s1;exact Pz (thn (k [v] [u] H1 s1 m1 I1 (.cons r1 .nil) x1 R1 (.cons w1 .nil)) λu s2 q=>Ql q)
inductive yX (X:Cx) (zt:List (Of×Obj)) (σ:L2.St) (m0:List Of) (H:Hp) (n:Nat) (ws:List BT.W) (g:BT.HH) (L:Nat) (cs:List BT.Cp) (a f:Of) (us:List N1) (vs:List V) (m2:List Of) (H3:Hp) (s3:N4) (cl:List (Str×Of)):Prop where
 | mk (I3:Inv X zt σ H3 s3) (hnone:∀ y d,cl.lookup y=UA d->H3 d=UB) (hobj:∀ y d,cl.lookup y=UA d->∃ o u,s3.heap.get? d=UA o/\o.data=.cell u) (hfrm:∀ y d,cl.lookup y=UA d->d∉frs X.stack) (le:Le H3 (dS cl s3.heap H3)) (R4:RH X.K m2 (dS cl s3.heap H3) g)
  (w4:RWs X.prog X.w X.K m2 (dS cl s3.heap H3) (.ref a::(vs++[.ref f])) (.o n::(ws++[.c (.l L) cs]))) (e04:kI X.prog X.w X.K X.mg X.base X.A X.stack s3 (dS cl s3.heap H3)) (rv4:ao (V.ref a::(vs++[.ref f])) (OL a::(us++[.ref f]))) (x:Ext m0 H m2 H3) (rh:RH X.K m2 H3 g):yX X zt σ m0 H n ws g L cs a f us vs m2 H3 s3 cl
theorem vM (O:Ok X F G sc N) (hf:∀ x,X.fn x=UC) {rest:List NX}
 (hl:BT.lZ L=UA ⟨ns,ns,.ret bt⟩) (hp:LPa pa ps) (hn:ns=ps++fv.map (·.2)) (hk:kU ps (fv.map (·.2)) scope=UC) (hv:ve sc N fv=UC) (ht:N.contains (BT.bM (BT.sQ L))=UC) (hc:CE' scope ns bt be) (h3:aD oe=UC) (h6:(apos.endLine==cpos.line)=UC)
 (hO:PE X oe (tD X F G o)) (hst:aq (e0::rest)=UC) (hlen:(e0::rest).length < 20) (hS:B6 X F G as (e0::rest) (.Lambda pa be scope lp))
 (I:Inv X zt σ H s) (R:RH X.K m0 H h) (S:RS X.prog X.w X.K m0 H σ s') (hC:jV X.K c C) (hM:qR X.K C m ga)
 (e1:BT.ev F G o s' h=UA (.o n,h1)) (e3:BT.oat h1 n=UA (c,fs)) (e4:(BT.aU m fs).isNone=UC) (e5:BT.evs F G as s' h1=UA (ws,g)) (e6:BT.caps s' fv=UA cs)
 (kk:∀ (a f:Of) (us:List N1) (vs:List V) (m2:List Of) (H3:Hp) (s3:N4) (cl:List (Str×Of)),yX X zt σ m0 H n ws g L cs a f us vs m2 H3 s3 cl->wpAny (Ow X.prog X.w) X.A (call (.ref ga) (OL a::(us++[OL f]))) Q X.xe s3) :
 wpAny (Ow X.prog X.w) X.A (eval (.Call (.Attribute oe m apos) (e0::rest) [] cpos) X.env) Q X.xe s:=by
 have lx:=O.lamx hf _ ht;have lf:=Jq hk;subst hn;refine Qi (thn (hO zt s σ H (λv H1=>∃ m1,Ext m0 H m1 H1/\RH X.K m1 H1 h1/\RW X.prog X.w X.K m1 H1 v (.o n)) I ⟨m0,s',h,_,h1,R,S,e1,λv H1 m1 x1 R1 r1=>⟨m1,x1,R1,r1⟩⟩) λu s1 ⟨v,H1,I1,rv,m1,x1,R1,w1⟩=>?_) (jF h3 hst hlen h6);cases w1 with
 | @o a _ ha =>
 obtain rfl:u=.ref a:=rv;obtain ⟨C',dx,vs0,q1,q2,q3⟩:=R1.mU _ _ _ _ ha e3;cases q2.cn.inj hC.cn;refine fC I1 q1 hC.cls hM (q3.none e4) ?_;have hst':=hst;simp only[aq,NY] at hst';refine P6 (first:=[.ref a]) (h₀:=X.base) I.ok.mod.kin hM.kp (hS cpos zt s1 σ H1 m1 s' h1 ws g _ I1 R1 (S.ext x1) e5 λvs us H2 s2 m2 I2 rvs x2 R2 w2=>?_) (ai hst'.1) (aH hst'.2);have hfree:∀ y∈scope.names,y.2=.free->X.env.scope.names.lookup y.1=UA .cell:=λy hy e=>by have hm:=lf.all y hy e;obtain ⟨p,hp1,hp2⟩:=List.mem_map.mp hm;have:=List.all_eq_true.mp hv p hp1;simp only[NY] at this;rw[O.hsc,← hp2];exact eq_of_beq this.2
 refine yW I2 R2 lx hp hfree λf H3 s3 M=>?_;have I3:=M.inv;have hsub:∀ y d,(BC.bW X.env.cells scope.names []).lookup y=UA d->X.env.cells.lookup y=UA d:=λy d e=>BC.lu (λ_ _ z=>by simp at z) y d e;have hfr:∀ y d,(BC.bW X.env.cells scope.names []).lookup y=UA d->y∈fv.map (·.2):=λy d e=>lf.all (y,.free) (Gg e) rfl;have hhas:∀ p∈fv,∃ d,(BC.bW X.env.cells scope.names []).lookup p.2=UA d:=λp hp'=>by have hm:=(lf.fre p.2 (Ue hp')).2;exact BC.ly hm (I3.ok.has p.2 (.inl (hfree _ hm rfl)))
 generalize BC.bW X.env.cells scope.names []=cl at M hsub hfr hhas;have hcel:∀ y d,cl.lookup y=UA d->X.s₀.heap.objs.size<=d:=λy d e=>I3.ok.cab y d (hf y) (hsub y d e);have hnone:∀ y d,cl.lookup y=UA d->H3 d=UB:=λy d e=>I3.freeC y d (hsub y d e);have hobj:∀ y d,cl.lookup y=UA d->∃ o u,s3.heap.get? d=UA o/\o.data=.cell u:=λy d e=>by obtain ⟨u,ob,g1,g2⟩:=I3.cell y d (hsub y d e);exact ⟨ob,u,g1,g2⟩
 have hfrm:∀ y d,cl.lookup y=UA d->d∉frs X.stack:=λy d e hb=>by
  rcases List.mem_cons.mp (I3.kE d hb) with q|q
  exact I3.cne y d (hsub y d e) q
  ·obtain ⟨_,ob,g1,_⟩:=I3.ok.g9.mem q;exact absurd (N6 g1) (Nat.not_lt.mpr (hcel y d e))
 obtain ⟨cvs,cp,rc⟩:=qd I3 M.rh O.hsc O.hN ((S.ext x1).ext (x2.trans M.ext)) hsub fv cs hv hhas e6;have le:Le H3 (dS cl s3.heap H3):=B5 hnone;obtain ⟨pm,ctv,c',oc,os,t,t1,t2,t3,t4⟩:=M.ex;have la:fS m2 (dS cl s3.heap H3) f L cvs:=⟨bt,ps,fv.map (·.2),pa,be,scope,cl,pm,ctv,c',oc,os,t,_,hl,hp,hk,hc,λy y' d e e'=>I3.ok.inj _ _ _ (hsub _ _ e) (hsub _ _ e'),hfr,⟨le _ _ t1.1,t1.2⟩,⟨le _ _ t2.1,t2.2⟩,t3,t4,cp⟩;have R4:RH X.K m2 (dS cl s3.heap H3) g:=M.rh.le le;have w4:RWs X.prog X.w X.K m2 (dS cl s3.heap H3) (.ref a::(vs++[.ref f])) (.o n::(ws++[.c (.l L) cs])):=.cons (.o (x2.ix ha)) (RWs.app ((w2.ext M.ext).le le) (.cons (.c la (rc.tr le.sq)) .nil));have out:∀ b ob,X.base.get? b=UA ob->¬ ∃ y,cl.lookup y=UA b:=λb ob e ⟨y,q⟩=>absurd (N6 (I3.ok.bs b ob e).1) (Nat.not_lt.mpr (hcel y b q));have e04:kI X.prog X.w X.K X.mg X.base X.A X.stack s3 (dS cl s3.heap H3):=by
  refine ⟨I3.ok.frames,I3.ok.mod,λb ob e=>⟨(I3.bs b ob e).1,by rw[dN (out b ob e)];exact (I3.bs b ob e).2⟩,OO I3.ok.bsz I3.sz,I3.stack,λb hb=>?_,λb u e=>?_,I3.bare⟩;rw[dN (λ⟨y,q⟩=>hfrm y b q hb)];exact I3.nk b hb
  ·by_cases cc:∃ y,cl.lookup y=UA b
   ·obtain ⟨y,q⟩:=cc;obtain ⟨ob,uu,g1,g2⟩:=hobj y b q;rw[ku q g1] at e;cases e;exact ⟨g1,_,g1⟩
   ·rw[dN cc] at e;exact (I3.hok b u e).stay (λ_ _ _ z=>z) (λd z=>le _ _ z) λd xs z=>le _ _ z
 have rv4:ao (V.ref a::(vs++[.ref f])) (OL a::(us++[.ref f])):=.cons rfl (rvs.append (.cons rfl .nil));exact ⟨I3.kIn,kk a f us vs m2 H3 s3 cl ⟨I3,hnone,hobj,hfrm,le,R4,w4,e04,rv4,x1.trans (x2.trans M.ext),M.rh⟩⟩
section
variable {X:Cx}{cl:List (Str×Of)}{H3 H5:Hp}{s3 s5:N4}{m2 m5:List Of}
theorem yY (hnone:∀ y d,cl.lookup y=UA d->H3 d=UB) (b:Of) (uu:HO) (e:H3 b=UA uu):¬ ∃ y,cl.lookup y=UA b:=λ⟨y,q⟩=>by rw[hnone y b q] at e;cases e
theorem Gj (hnone:∀ y d,cl.lookup y=UA d->H3 d=UB) (hobj:∀ y d,cl.lookup y=UA d->∃ o u,s3.heap.get? d=UA o/\o.data=.cell u) (hfrm:∀ y d,cl.lookup y=UA d->d∉frs X.stack) (le:Le H3 (dS cl s3.heap H3))
 (un:Un (frs X.stack) [] (dS cl s3.heap H3) H5 s3.heap s5.heap) (hok5:HOk P w H5 s5.heap):Un (frs X.stack) [] H3 (hid cl H5) s3.heap s5.heap:=by
 have nc:=yY hnone;refine ⟨λb ob e nn hb hx=>?_,λb ob e nn hb hx=>?_,λb ob e nn hx=>?_,λb ob e hx=>un.there b ob e hx,λb xs e=>?_,λb ob uu e=>?_,λb qs e=>?_⟩
 ·by_cases cc:∃ y,cl.lookup y=UA b
  ·obtain ⟨y,q⟩:=cc;exact (hok5 _ _ (un.frzs _ _ _ (ku q e))).1
  exact un.keep b ob e (by rw[dN cc];exact nn) hb hx
 exact un.slot b ob e (by rw[dN (λ⟨y,q⟩=>hfrm y b q hb)];exact nn) hb hx
 ·by_cases cc:∃ y,cl.lookup y=UA b
  obtain ⟨y,q⟩:=cc;exact rK q;exact dM (un.free b ob e (by rw[dN cc];exact nn) hx)
 rw[cS (nc _ _ e)];exact un.tups b xs (le _ _ e);rw[cS (nc _ _ e)];exact un.frzs b ob uu (le _ _ e);rw[cS (nc _ _ e)];exact un.tbls b qs (le _ _ e)
theorem B7 (hnone:∀ y d,cl.lookup y=UA d->H3 d=UB) (le:Le H3 (dS cl h0 H3)) (x5:Ext m2 (dS cl h0 H3) m5 H5):Ext m2 H3 m5 (hid cl H5):=by
 have nc:=yY hnone;obtain ⟨ex,hm,he⟩:=x5.pre;have lno:∀ b,dS cl h0 H3 b=UB->H3 b=UB:=λb e=>by
  cases gg:H3 b with
  | none=>rfl| some uu=>rw[le _ _ gg] at e;cases e
 refine ⟨⟨ex,hm,λb hb=>lno b (he b hb)⟩,λb ob e nn tt=>?_,λb e=>?_⟩;rw[cS (nc _ _ e)];exact x5.keep b ob (le _ _ e) nn tt
 ·by_cases cc:∃ y,cl.lookup y=UA b
  obtain ⟨y,q⟩:=cc;exact hnone y b q;rw[cS cc] at e;exact lno b (x5.live b e)
end
theorem qe (O:Ok X F G sc N) (hf:∀ x,X.fn x=UC) {rest:List NX}
 (hl:BT.lZ L=UA ⟨ns,ns,.ret bt⟩) (hp:LPa pa ps) (hn:ns=ps++fv.map (·.2)) (hk:kU ps (fv.map (·.2)) scope=UC) (hv:ve sc N fv=UC) (ht:N.contains (BT.bM (BT.sQ L))=UC) (hc:CE' scope ns bt be) (h3:aD oe=UC) (h6:(apos.endLine==cpos.line)=UC)
 (hO:PE X oe (tD X F G o)) (hst:aq (e0::rest)=UC) (hlen:(e0::rest).length < 20) (hS:B6 X F G as (e0::rest) (.Lambda pa be scope lp)) :
 PE X (.Call (.Attribute oe m apos) (e0::rest) [] cpos) (tD X F G (.methL o m as L fv)):=by
 intro zt s σ H Q I q;obtain ⟨m0,s',h,z,h',R,S,ee,zr⟩:=q;simp only[BT.ev] at ee;obtain ⟨x,h1,e1,e2⟩:=ah ee;obtain ⟨n,c,fs,ws,g,cs,rfl,e3,e4,e5,e6,e7,e8⟩:=vL e2;obtain ⟨C,ga,fd,ps',k,hC,hM,hB,hR,ok⟩:=O.meth _ _ _ _ _ e7;refine vM O hf hl hp hn hk hv ht hc h3 h6 hO hst hlen hS I R S hC hM e1 e3 e4 e5 e6 λa f us vs m2 H3 s3 cl P=>?_;obtain ⟨I3,hnone,hobj,hfrm,le,R4,w4,e04,rv4,xx,rh⟩:=P;have sp4:spF X.prog X.w X.K (F (.m c m)) (V.ref a::(vs++[.ref f])) (dS cl s3.heap H3) (λv5 H5=>∃ m5,Ext m2 (dS cl s3.heap H3) m5 H5/\RH X.K m5 H5 h'/\RW X.prog X.w X.K m5 H5 v5 z) E0:=⟨m2,_,g,z,h',R4,w4,e7,λv5 H5 m5 x5 R5 r5=>⟨m5,x5,R5,r5⟩⟩;have hl4:(OL a::(us++[.ref f])).length=ps'.length:=by rw[← rv4.length];exact ok.len _ _ _ _ sp4
 have hb4:=hB s3 (OL a::(us++[.ref f])) I3.kIn (by rw[OM];exact hl4);rw[OM] at hb4;have run4:=ok.run X.A X.stack s3 (dS cl s3.heap H3) ⟨OL a::(us++[OL f]),[]⟩ (OL a::(us++[OL f])) _ _ E0 hR e04 hb4 rv4 sp4;refine T5 (codeAny_mono run4 λr s' hq=>?_);cases r with
 | error e=>exact ON hq
 | ok fl =>
  cases fl with
  | ret u =>
   obtain ⟨v5,H5,os5,bare5,un,hok5,rv5,m5,x5,R5,r5⟩:=hq;have C5:bV cl H5:=λy d e=>by obtain ⟨ob,uu,g1,g2⟩:=hobj y d e;exact ⟨ob,uu,un.frzs _ _ _ (ku e g1),g2⟩
   have un6:=Gj hnone hobj hfrm le un hok5;have I6:=I3.Hz os5 un6 (tL C5 hok5 λ_ _ e=>e) bare5 (λb zz=>absurd zz (by simp));have x6:=B7 hnone le x5;have r6:RW X.prog X.w X.K m5 (hid cl H5) v5 z:=by
    have:=RWs.tr C5.sq (.cons r5 .nil) e8;cases this with
    | cons r _=>exact r
   exact ⟨v5,hid cl H5,I6,rv5,zr v5 _ m5 (xx.trans x6) (C5.rh R5) r6⟩
  | _=>exact ON hq
end
end BS
end
section
namespace BS
open PySem PySem.Spec PyProof.Rows L2
variable {K:NV}{st:OV}
noncomputable def gu:NX->Bool
 | .ListComp _ _ _ _=>UD| .SetComp _ _ _ _=>UD| .DictComp _ _ _ _ _=>UD| _=>UC
noncomputable def swB (sc scope:OD) (x:Str) (np pos:Pos):Bool :=
 (if sc.kind.isAnnotationScope then ScopeKind.function else sc.kind)==.function&&sc.names.lookup x==UA .local&&np.line==pos.line&&!(scope.names.any λ(n,k)=>n==x&&(k==.local||k==.cell))
mutual
inductive CS (sc:OD) (N:List Str):BT.S->OV->Prop where
 | setL {i:Nat}{x m:Str}{o:BT.E}{as:BT.Es}{L:Nat}{fv:List (Nat×Str)}{call:NX}{np p:Pos} (h1:N[i]?=UA x) (h2:j6 sc x=UC) (hl:CL sc N o m as L fv call):CS sc N (.set i (.methL o m as L fv)) (.Assign [.Name x np] call p)
 | retL {m:Str}{o:BT.E}{as:BT.Es}{L:Nat}{fv:List (Nat×Str)}{call:NX}{p:Pos} (hl:CL sc N o m as L fv call):CS sc N (.ret (.methL o m as L fv)) (.Return (UA call) p)
 | setc {i:Nat}{x:Str}{mu:Bool}{sr:BT.Sr}{sa:BT.Es}{tg:List Str}{fv:List (Nat×Str)}{cond:BT.Es}{elt:BT.E}{te iter elt':NX}{ifs:List NX}{scope:OD}{pos np p:Pos} (hu:b9 N=UC) (h1:N[i]?=UA x) (h3:(sc.names.lookup x==UA .cell||swB sc scope x np pos)=UC)
  (hk:iA sc N tg fv scope=UC) (ht:pO (aV scope sc) tg te=UC) (hz:pN sr te=UC) (hs:iy iter=UC) (hi:CI sc N sr sa iter) (hc:CC (aV scope sc) (tg++fv.map (·.2)) cond ifs) (he:CE' (aV scope sc) (tg++fv.map (·.2)) elt elt') :
  CS sc N (.set i (.comp mu sr sa tg fv cond elt)) (.Assign [.Name x np] (.ListComp elt' [⟨te,iter,ifs,0⟩] scope pos) p)
 | set {i:Nat}{x:Str}{e:BT.E}{v:NX}{np p:Pos} (h1:N[i]?=UA x) (h2:j6 sc x=UC) (h3:gu v=UC) (he:CE' sc N e v):CS sc N (.set i e) (.Assign [.Name x np] v p)
 | put {i:Nat}{x:Str}{k e:BT.E}{ke v:NX}{np sp p:Pos} (h1:N[i]?=UA x) (h2:jU sc x=UC) (h3:bU x=UC) (h4:gu v=UC) (h5:iU ke=UC) (hk:CE' sc N k ke) (he:CE' sc N e v):CS sc N (.put i k e) (.Assign [.Subscript (.Name x np) ke sp] v p)
 | putd {i:Nat}{x:Str}{k e:BT.E}{ke v:NX}{np sp p:Pos} (h1:N[i]?=UA x) (h2:jU sc x=UC) (h3:bU x=UC) (h4:gu v=UC) (h5:iU ke=UC) (hk:CE' sc N k ke) (he:CE' sc N e v):CS sc N (.putd i k e) (.Assign [.Subscript (.Name x np) ke sp] v p)
 | aug {i:Nat}{x:Str}{o:BT.Bin}{op:RN}{e:BT.E}{v:NX}{np p:Pos} (h1:N[i]?=UA x) (h2:j6 sc x=UC) (h3:yz o op=UC) (he:CE' sc N e v):CS sc N (.aug i o e) (.AugAssign (.Name x np) op v p)
 | setf {o e:BT.E}{f:Str}{oe v:NX}{np p:Pos} (h1:attrName f=UC) (h2:gu v=UC) (ho:CE' sc N o oe) (he:CE' sc N e v):CS sc N (.setf o f e) (.Assign [.Attribute oe f np] v p)
 | augf {o e:BT.E}{f:Str}{b:BT.Bin}{op:RN}{oe v:NX}{np p:Pos} (h1:attrName f=UC) (h3:yz b op=UC) (ho:CE' sc N o oe) (he:CE' sc N e v):CS sc N (.augf o f b e) (.AugAssign (.Attribute oe f np) op v p)
 | ex {e:BT.E}{v:NX}{p:Pos} (h:gu v=UC) (he:CE' sc N e v):CS sc N (.ex e) (.Expr v p)
 | ret {e:BT.E}{v:NX}{p:Pos} (he:CE' sc N e v):CS sc N (.ret e) (.Return (UA v) p)
 | ife {c:BT.E}{a b:BT.S}{t:NX}{xs ys:List OV}{p:Pos} (h:tOK c=UC) (hc:CE' sc N c t) (ha:CSs sc N a xs) (hb:CSs sc N b ys):CS sc N (.ife c a b) (.If t xs ys p)
 | whl {c:BT.E}{b:BT.S}{t:NX}{xs:List OV}{p:Pos} (h:tOK c=UC) (hc:CE' sc N c t) (hb:CSs sc N b xs):CS sc N (.whl c b) (.While t xs [] p)
 | for {tg:List (Nat×Str)}{sr:BT.Sr}{sa:BT.Es}{b:BT.S}{te iter:NX}{xs:List OV}{p:Pos} (hu:b9 N=UC) (ht:CT sc N tg te) (hi:CI sc N sr sa iter) (hz:pN sr te=UC) (hs:iy iter=UC) (hb:CSs sc N b xs):CS sc N (.for tg sr sa b) (.For te iter xs [] p)
 | brk {p:Pos}:CS sc N .brk (.Break p)
 | cnt {p:Pos}:CS sc N .cnt (.Continue p)
 | bad {st:OV}:CS sc N .bad st
inductive CSs (sc:OD) (N:List Str):BT.S->List OV->Prop where
 | nil:CSs sc N .nil []
 | one {s:BT.S}{st:OV} (h:CS sc N s st):CSs sc N s [st]
 | cons {a b:BT.S}{st st2:OV}{r:List OV} (h:CS sc N a st) (hr:CSs sc N b (st2::r)):CSs sc N (.seq a b) (st::st2::r)
end
def ja (X:Cx) (m:List Of) (H:Hp) (fl:BT.Fl) (D:Ends):Prop:=match fl with
 | .nx s' h'=>∀ σ' H' m',Ext m H m' H'->RH X.K m' H' h'->RS X.prog X.w X.K m' H' σ' s'->D.nx σ' H'| .rt z h'=>∀ v H' m',Ext m H m' H'->RH X.K m' H' h'->RW X.prog X.w X.K m' H' v z->D.rt v H'| .bk s' h'=>∀ σ' H' m',Ext m H m' H'->RH X.K m' H' h'->RS X.prog X.w X.K m' H' σ' s'->D.bk σ' H'| .ct s' h'=>∀ σ' H' m',Ext m H m' H'->RH X.K m' H' h'->RS X.prog X.w X.K m' H' σ' s'->D.ct σ' H'
theorem ja.ext {D:Ends} (x:Ext m H m' H') (p:ja X m H fl D):ja X m' H' fl D:=by cases fl<;>exact λa b c y=>p a b c (x.trans y)
inductive tDS (X:Cx) (F:FT) (G:Str->Option BT.W) (S:BT.S) (D:Ends) (σ:L2.St) (H:Hp):Prop where
 | mk (m:List Of) (s:BT.Sl) (h:BT.HH) (fl:BT.Fl) (R:RH X.K m H h) (r:RS X.prog X.w X.K m H σ s) (e:BT.evS F G S s h=UA fl) (p:ja X m H fl D):tDS X F G S D σ H
theorem PS.weak (h:PS X st t) (q:∀ D σ H,t' D σ H->t D σ H):PS X st t':=λzt s σ H D I hw=>h zt s σ H D I (q _ _ _ hw)
theorem PSs.weak {st:List OV} (h:PSs X st t) (q:∀ D σ H,t' D σ H->t D σ H):PSs X st t':=λzt s σ H D I hw=>h zt s σ H D I (q _ _ _ hw)
section
theorem yZ (D:Ends) (σ:L2.St) (H:Hp) (q:tDS X F G (.seq a b) D σ H):HF (tDS X F G a) (tDS X F G b) D σ H:=by
 obtain ⟨m,s,h,fl,R,S,e,zr⟩:=q;simp only[BT.evS] at e;cases g:BT.evS F G a s h with
 | none=>rw[g] at e;cases e
 | some f1 =>
  rw[g] at e;refine ⟨m,s,h,f1,R,S,g,?_⟩;cases f1 with
  | nx s1 h1=>exact fun σ1 H1 m1 x1 R1 S1=>⟨m1,s1,h1,fl,R1,S1,e,zr.ext x1⟩
  | _=>cases e;exact zr
theorem gY {X:Cx}{S0:BT.S}{a:BT.E}{k:BT.Sl->BT.W->BT.HH->Option BT.Fl} (he:∀ s h,BT.evS F G S0 s h=BT.bnd (BT.ev F G a s h) (k s)) {D:Ends}{σ:L2.St}{H:Hp} (q:tDS X F G S0 D σ H) {R':V->Hp->Prop}
 (h1:∀ m s h x fl v H1,RH X.K m H1 h->RS X.prog X.w X.K m H1 σ s->RW X.prog X.w X.K m H1 v x->k s x h=UA fl->ja X m H1 fl D->R' v H1):tD X F G a σ H R':=by
 obtain ⟨m,s,h,fl,R,S,ee,zr⟩:=q;rw[he] at ee;obtain ⟨x,g,e1,e2⟩:=ah ee;exact ⟨m,s,h,x,g,R,S,e1,λv H1 m1 x1 R1 r1=>h1 m1 s g x fl v H1 R1 (S.ext x1) r1 e2 (zr.ext x1)⟩
theorem tS (h:BT.tst x k=UA fl):∃ b g,x=UA (.p (.bl b),g)/\k b g=UA fl:=by
 unfold BT.tst at h;obtain ⟨w,g,e1,e2⟩:=ah h;unfold BT.IV at e2;cases w with
 | p d =>
  cases d<;>simp only at e2<;>try contradiction
  exact ⟨_,g,e1,e2⟩
 | _=>cases e2
theorem jb (h:gu e=UC):QL e t l env=pure UD:=by cases e<;>first|rfl|cases h
theorem tT (h:gu e=UC):swapsWithSole [t] e l env=pure UD:=jb h
theorem lB (h:iU i=UC):∀ v,To (.Subscript o i pos) env v=(do
 let ov ← holding [v] (eval o env)
 let iv ← holding [v,ov] (eval i env)
 standAt pos
 holding [v,ov,iv] (setItem ov iv v)
 release [v,ov,iv] []):=by
 intro v;cases i<;>first|rfl|cases h
theorem Gk (D:Ends) (σ:L2.St) (H:Hp) (q:tDS X F G (.whl c b) D σ H):wK (tDT X F G c) (tDS X F G b) D σ H:=by
 obtain ⟨m0,s,h,fl,R,S,e,zr⟩:=q;simp only[BT.evS] at e;refine ⟨λn σ H=>∃ m s h,RH X.K m H h/\RS X.prog X.w X.K m H σ s/\BT.bE (BT.ev F G c) (BT.evS F G b) n s h=UA fl/\ja X m H fl D,⟨BT.turns,m0,s,h,R,S,e,zr⟩,?_⟩
 rintro n σ1 H1 ⟨m,s,h,R,S,e,zr⟩
 cases n with
 | zero=>cases e
 | succ n =>
  rw[BT.bE] at e;obtain ⟨t,g,e1,e2⟩:=tS e;refine ⟨m,s,h,t,g,R,S,e1,λH2 m2 x2 R2=>?_⟩;cases t with
  | false =>
   rw[BT.iw] at e2;cases e2;rw[if_neg (by decide)];exact zr σ1 H2 m2 x2 R2 (S.ext x2)
  | true =>
   rw[BT.jB] at e2;rw[if_pos rfl];refine ⟨fun σ' H'=>∃ m' s' h',RH X.K m' H' h'/\RS X.prog X.w X.K m' H' σ' s'/\BT.bE (BT.ev F G c) (BT.evS F G b) n s' h'=UA fl/\ja X m' H' fl D,fun σ' H' ⟨m',s',h',a1,a2,a3,a4⟩=>⟨n,Pk n,m',s',h',a1,a2,a3,a4⟩,?_⟩;cases gb:BT.evS F G b s g with
   | none=>rw[gb] at e2;cases e2
   | some f1 =>
    rw[gb] at e2;refine ⟨m2,s,g,f1,R2,S.ext x2,gb,?_⟩;cases f1 with
    | nx s1 h1=>exact fun σ3 H3 m3 x3 R3 S3=>⟨m3,s1,h1,R3,S3,e2,(zr.ext x2).ext x3⟩
    | ct s1 h1=>exact fun σ3 H3 m3 x3 R3 S3=>⟨m3,s1,h1,R3,S3,e2,(zr.ext x2).ext x3⟩
    | bk s1 h1=>cases e2;exact fun σ3 H3 m3 x3 R3 S3=>zr σ3 H3 m3 (x2.trans x3) R3 S3
    | rt z h1=>cases e2;exact λv H3 m3 x3 R3 r3=>zr v H3 m3 (x2.trans x3) R3 r3
theorem Gm (D:Ends) (σ:L2.St) (H:Hp) (q:tDS X F G (.aug i o e) D σ H):HM i (tD X F G e) (FU o) D σ H:=by
 obtain ⟨m,s,h,fl,R,S,ee,zr⟩:=q;simp only[BT.evS] at ee;obtain ⟨y,g,e1,e2⟩:=ah ee;unfold BT.Jc at e2;have hs:∃ d d' z,s[i]?=UA (UA (.p d))/\y=.p d'/\BT.kO o d d'=UA z/\fl=.nx (s.set i (UA (.p z))) g:=by
  cases g1:s[i]? with
  | none=>rw[g1] at e2;cases y<;>cases e2
  | some ow =>
   cases ow with
   | none=>rw[g1] at e2;cases y<;>cases e2
   | some w0 =>
    rw[g1] at e2;cases w0<;>cases y<;>simp only at e2<;>try contradiction
    obtain ⟨z,e3,e4⟩:=ay e2;exact ⟨_,_,z,rfl,rfl,e3,e4.symm⟩
 obtain ⟨d,d',z,g1,rfl,e3,rfl⟩:=hs;obtain ⟨a,b,k,rfl,rfl,rfl⟩:=tH e3;obtain ⟨v,hv,rv⟩:=S.get i _ g1;have ev:v=.int a:=by cases rv with|p rv=>cases rv;rfl
 subst ev;refine ⟨_,hv,m,s,h,_,g,R,S,e1,λu H1 m1 x1 R1 r1=>?_⟩;cases r1 with
 | p r1 =>
  cases r1;exact ⟨a,b,k,rfl,rfl,e3,zr _ H1 m1 x1 R1 ((S.ext x1).set (.p (.int k)))⟩
theorem vN (e:BT.nL s f v x h=UA fl):∃ n c fs,x=.o n/\BT.oat h n=UA (c,fs)/\BT.attrOk v=UC/\fs.length < 1000/\fl=.nx s (h.set n (.o c (BT.bf f v fs))):=by
 cases x with
 | o n =>
  rw[BT.xO] at e;cases g:BT.oat h n with
  | none=>rw[g] at e;cases e
  | some q =>
   obtain ⟨c,fs⟩:=q;rw[g] at e;simp only at e;split at e
   ·rename_i c1;cases e;simp only[NY,decide_eq_true_eq] at c1;exact ⟨n,c,fs,rfl,g,c1.1,c1.2,rfl⟩
   cases e
 | _=>cases e
theorem qf {D:Ends} (R:RH X.K m H h) (S:RS X.prog X.w X.K m H σ s) (hn:m[n]?=UA a) (h1:H a=UA (.ins C dx vs)) (h2:jV X.K c C) (h3:RFs X.K m H vs fs) (ra:RA X.K m H v y)
 (zr:ja X m H (.nx s (h.set n (.o c (BT.bf f y fs)))) D):D.nx σ (upd H a (.ins C dx (L2.bf f v vs))):=by
 have x:Ext m H m (upd H a (.ins C dx (L2.bf f v vs))):=iV (N9 hn);exact zr σ _ m x (R.setC hn ⟨C,dx,_,aB,h2,(RFs.put ra h3).ext x⟩) (S.ext x)
theorem B8 {X:Cx}{o e:BT.E}{f:Str} (hf:attrName f=UC) (D:Ends) (σ:L2.St) (H:Hp) (q:tDS X F G (.setf o f e) D σ H):Ia X.K (tD X F G o) (tD X F G e) f D σ H:=by
 refine gY (k:=λs=>BT.xP (BT.ev F G o s) s f) (λs h=>by simp only[BT.evS]) q λm s h y fl v H1 R S r e1 zr=>?_;rw[BT.xQ] at e1;obtain ⟨x,g,e2,e3⟩:=ah e1;obtain ⟨n,c,fs,rfl,g1,ok,hl,rfl⟩:=vN e3;refine ⟨m,s,h,.o n,g,R,S,e2,λu H2 m2 x2 R2 r2=>?_⟩;cases r2 with
 | @o a _ hn =>
  obtain ⟨C,dx,vs,q1,q2,q3⟩:=R2.mU _ _ _ _ hn g1;exact ⟨a,C,dx,vs,rfl,q1,q2.cls,q2.no f hf,by rw[q3.length];exact hl,qf R2 (S.ext x2) hn q1 q2 q3 ((r.ext x2).ra ok) (zr.ext x2)⟩
theorem za (e:BT.sO ee s f op x h=UA fl):∃ n c fs d y g fs' z,x=.o n/\BT.oat h n=UA (c,fs)/\BT.aU f fs=UA (.p d)/\ee h=UA (.p y,g)/\BT.oat g n=UA (c,fs')/\BT.kO op d y=UA z/\fs'.length < 1000/\fl=.nx s (g.set n (.o c (BT.bf f (.p z) fs'))):=by
 cases x with
 | o n =>
  rw[BT.Bc] at e;cases g1:BT.oat h n with
  | none=>rw[g1] at e;cases e
  | some q =>
   obtain ⟨c,fs⟩:=q;rw[g1] at e;simp only at e;cases g2:BT.aU f fs with
   | none=>rw[g2] at e;cases e
   | some w0 =>
    rw[g2] at e;cases w0 with
    | p d =>
     simp only at e;obtain ⟨y,g,e1,e2⟩:=ah e;cases y with
     | p y =>
      rw[BT.xR] at e2;cases g3:BT.oat g n with
      | none=>rw[g3] at e2;cases e2
      | some q =>
       obtain ⟨c',fs'⟩:=q;rw[g3] at e2;simp only at e2;cases g4:BT.kO op d y with
       | none=>rw[g4] at e2;cases e2
       | some z =>
        rw[g4] at e2;simp only at e2;split at e2
        ·rename_i c1;cases e2;obtain ⟨rfl,c1⟩:=c1;exact ⟨n,c',fs,d,y,g,fs',z,rfl,g1,g2,e1,g3,g4,c1,rfl⟩
        cases e2
     | _=>cases e2
    | _=>cases e
 | _=>cases e
theorem B9 {X:Cx}{o e:BT.E}{f:Str}{b:BT.Bin} (hf:attrName f=UC) (D:Ends) (σ:L2.St) (H:Hp) (q:tDS X F G (.augf o f b e) D σ H):sC X.K (tD X F G o) (tD X F G e) (FU b) f D σ H:=by
 refine gY (k:=λs=>BT.sO (BT.ev F G e s) s f b) (λs h=>by simp only[BT.evS]) q λm s h y fl v H1 R S r e1 zr=>?_;obtain ⟨n,c,fs,d,y,g,fs',z,rfl,g1,g2,e2,g3,g4,hl,rfl⟩:=za e1;obtain ⟨i,j,k,rfl,rfl,rfl⟩:=tH g4;cases r with
 | @o a _ hn =>
  obtain ⟨C,dx,vs,q1,q2,q3⟩:=R.mU _ _ _ _ hn g1;obtain ⟨u,l,ra⟩:=q3.get g2;have eu:u=.int i:=by cases ra with|p ra=>cases ra;rfl
  subst eu;refine ⟨a,C,dx,vs,_,rfl,q1,q2.cls,q2.no f hf,l,m,s,h,_,g,R,S,e2,λu2 H2 m2 x2 R2 r2=>?_⟩;cases r2 with
  | p r2 =>
   cases r2;obtain ⟨C',dx',vs',p1,p2,p3⟩:=R2.mU _ _ _ _ (x2.ix hn) g3;cases p2.cn.inj q2.cn;exact ⟨i,j,k,rfl,rfl,g4,dx',vs',p1,by rw[p3.length];exact hl,qf R2 (S.ext x2) (x2.ix hn) p1 p2 p3 (.p (.int k)) (zr.ext x2)⟩
theorem Gn {X:Cx}{i:Nat}{k e:BT.E} (D:Ends) (σ:L2.St) (H:Hp) (q:tDS X F G (.put i k e) D σ H):uG (tD X F G e) (En (tD X F G (.var i)) (tD X F G k) DF) D σ H:=by
 refine gY (k:=λs=>BT.Fi (BT.ev F G k s) s i) (λs h=>by simp only[BT.evS]) q λm s h y fl v H1 R S r e1 zr=>?_;unfold BT.Fi at e1;cases y with
 | p d =>
  cases g:s[i]? with
  | none=>rw[g] at e1;cases e1
  | some o =>
   cases o with
   | none=>rw[g] at e1;cases e1
   | some wz =>
    cases wz with
    | r n =>
     rw[g] at e1;simp only at e1;obtain ⟨q,h2,e2,e3⟩:=ah e1;refine ⟨m,s,h,.r n,h,R,S,by simp only[BT.ev,g],λo H2 m2 x2 R2 r2=>⟨m2,s,h,q,h2,R2,S.ext x2,e2,λki H3 m3 x3 R3 r3=>?_⟩⟩;unfold BT.DL at e3;cases q with
     | p dk =>
      cases g2:BT.lat h2 n with
      | none=>rw[g2] at e3;cases dk<;>cases e3
      | some xs =>
       rw[g2] at e3;cases dk with
       | int j =>
        simp only at e3;cases g3:BT.place xs.length j with
        | none=>rw[g3] at e3;cases e3
        | some mm =>
         rw[g3] at e3;cases e3;have r2':=r2.ext x3;cases r2' with
         | @r a _ hn =>
          cases r3 with
          | p r3 =>
           cases r3;obtain ⟨us,hH,ru⟩:=R3.cell n a xs hn g2;refine ⟨a,us,j,mm,rfl,rfl,hH,by rw[ru.length];exact g3,?_⟩;have x4:Ext m3 H3 m3 (upd H3 a (.lst (us.set mm v))):=fy (N9 hn) hH;cases r with
           | p r=>exact zr σ _ m3 ((x2.trans x3).trans x4) (R3.set hn hH (RDs.set ((r.ext x2).ext x3) mm ru)) (((S.ext x2).ext x3).ext x4)
       | _=>cases e3
     | _=>cases e3
    | _=>rw[g] at e1;cases e1
 | _=>cases e1
theorem Ca {X:Cx}{i:Nat}{k e:BT.E} (D:Ends) (σ:L2.St) (H:Hp) (q:tDS X F G (.putd i k e) D σ H):uG (tD X F G e) (En (tD X F G (.var i)) (tD X F G k) DT) D σ H:=by
 refine gY (k:=λs=>BT.sN (BT.ev F G k s) s i) (λs h=>by simp only[BT.evS]) q λm s h y fl v H1 R S r e1 zr=>?_;cases y with
 | p d =>
  rw[BT.Bb] at e1;cases g:s[i]? with
  | none=>rw[g] at e1;cases e1
  | some o =>
   cases o with
   | none=>rw[g] at e1;cases e1
   | some wz =>
    cases wz with
    | r n =>
     rw[g] at e1;simp only at e1;obtain ⟨q,h2,e2,e3⟩:=ah e1;refine ⟨m,s,h,.r n,h,R,S,by simp only[BT.ev,g],λo H2 m2 x2 R2 r2=>⟨m2,s,h,q,h2,R2,S.ext x2,e2,λki H3 m3 x3 R3 r3=>?_⟩⟩;cases q with
     | p dk =>
      rw[BT.xN] at e3;obtain ⟨kvs,e4,e5⟩:=Option.bind_eq_some_iff.mp e3;obtain ⟨ky,e6,e7⟩:=Option.bind_eq_some_iff.mp e5;split at e7
      case isFalse=>cases e7
      rename_i c;cases e7;have r2':=r2.ext x3;cases r2' with
      | @r a _ hn =>
       cases r3 with
       | p r3 =>
        obtain ⟨us,hH,ru⟩:=R3.DQ n a kvs hn e4;have:=bN;have hl:=ru.length;refine ⟨a,us,ky,rfl,nV r3 e6,hH,by lia,?_⟩;have x4:Ext m3 H3 m3 (upd H3 a (.dK (putK us ky v))):=iV (N9 hn);cases r with
        | p r=>exact zr σ _ m3 ((x2.trans x3).trans x4) (R3.setC hn ⟨_,aB,(ru.put ky (yc r3 e6) ((r.ext x2).ext x3)).ext x4⟩) (((S.ext x2).ext x3).ext x4)
     | _=>cases e3
    | _=>rw[g] at e1;cases e1
 | _=>cases e1
end
section
theorem Gp (hg:GOk X tg g) (D:Ends) (σ:L2.St) (H:Hp) (q:tDS X F G (.for tg sr sa b) D σ H):HR (iD X F G sr sa) g (tDS X F G b) D σ H:=by
 obtain ⟨m,s,h,fl,R,S,e,zr⟩:=q;simp only[BT.evS] at e;obtain ⟨ws,h1,e1,e2⟩:=ah e;unfold BT.kFor at e2;cases g1:(BT.rds ws h1).bind (BT.dI sr) with
 | none=>rw[g1] at e2;cases e2
 | some ds =>
  rw[g1] at e2;simp only at e2;split at e2
  ·rename_i ca;refine ⟨m,s,h,ws,h1,ds,R,S,e1,g1,.inl ca,λH1 m1 J x1 R1 it=>?_⟩;refine ⟨λi n σ H=>i<=ds.length/\n=ds.length - i/\∃ m s h,Ext m1 H1 m H/\RH X.K m H h/\RS X.prog X.w X.K m H σ s/\BT.aJ (BT.evS F G b) tg (ds.drop i) s h=UA fl/\ja X m H fl D,
    ⟨ds.length,O5 _,rfl,m1,s,h1,.refl _ _,R1,S.ext x1,by rw[Ro];exact e2,zr.ext x1⟩,?_⟩
   rintro i n σ2 H2 ⟨hi,rfl,m2,s2,h2,x2,R2,S2,e3,post2⟩
   by_cases c:i < ds.length
   ·refine .inr ⟨it.go m2 H2 h2 i x2 R2 (k8 ca) c,_,fun σ' H' z=>⟨ds.length - (i+1),by lia,c,rfl,z⟩,λx H3 y=>?_⟩;obtain ⟨x3,k3,r3⟩:=it.yld m2 H2 h2 i x H3 ds[i] x2 R2 (k8 ca) (N7 c) y;rw[SS c,BT.aJ] at e3;cases g2:BT.target tg.length ds[i] with
    | none=>rw[g2] at e3;cases e3
    | some dd =>
     rw[g2] at e3;simp only at e3;have R3:=R2.ext x3 k3;refine hg m2 H3 σ2 s2 x ds[i] dd _ (S2.ext x3) r3 g2 fun σ4 S4=>?_;cases g3:BT.evS F G b (BT.sets tg dd s2) h2 with
     | none=>rw[g3] at e3;cases e3
     | some f1 =>
      rw[g3] at e3;refine ⟨m2,_,h2,f1,R3,S4,g3,?_⟩;cases f1 with
      | nx s5 h5=>exact fun σ5 H5 m5 x5 R5 S5=>⟨m5,s5,h5,(x2.trans x3).trans x5,R5,S5,e3,(post2.ext x3).ext x5⟩
      | ct s5 h5=>exact fun σ5 H5 m5 x5 R5 S5=>⟨m5,s5,h5,(x2.trans x3).trans x5,R5,S5,e3,(post2.ext x3).ext x5⟩
      | bk s5 h5=>cases e3;exact fun σ5 H5 m5 x5 R5 S5=>post2 σ5 H5 m5 (x3.trans x5) R5 S5
      | rt z h5=>cases e3;exact λv H5 m5 x5 R5 r5=>post2 v H5 m5 (x3.trans x5) R5 r5
   ·have ei:i=ds.length:=by lia
    subst ei;refine .inl ⟨it.stop m2 H2 h2 x2 R2 (k8 ca),?_⟩;rw[List.drop_length,BT.aJ] at e3;cases e3;exact post2 σ2 H2 m2 (.refl _ _) R2 S2
  cases e2
theorem Jy {X:Cx}{sc:OD}{N:List Str} (O:Ok X F G sc N) {x:Str}{np pos p:Pos}{elt':NX}{gs:List Comprehension}{scope:OD} (h:swB sc scope x np pos=UC):QL (.ListComp elt' gs scope pos) (UA (.Name x np)) p.line X.env=pure UC:=by have e:QL (.ListComp elt' gs scope pos) (UA (.Name x np)) p.line X.env=pure (swB X.env.scope scope x np pos):=rfl;rw[e,O.hsc,h]
theorem Cb (c:(sc.names.lookup x==UA .cell)=UC):j6 sc x=UC:=by unfold j6;rw[eq_of_beq c]
theorem zb (h:swB sc scope x np pos=UC):sc.names.lookup x=UA .local:=by unfold swB at h;simp only[NY] at h;exact eq_of_beq h.1.1.2
theorem Jz {X:Cx}{sc:OD}{N:List Str} (O:Ok X F G sc N) {x:Str}{np pos p:Pos}{elt':NX}{gs:List Comprehension}{scope:OD} (c:(sc.names.lookup x==UA .cell)=UC):QL (.ListComp elt' gs scope pos) (UA (.Name x np)) p.line X.env=pure UD:=by
 have e:QL (.ListComp elt' gs scope pos) (UA (.Name x np)) p.line X.env=pure (swB X.env.scope scope x np pos):=rfl;have z:swB sc scope x np pos=UD:=by
  cases h:swB sc scope x np pos with
  | false=>rfl
  | true =>
   have:=zb h;rw[eq_of_beq c] at this;cases this
 rw[e,O.hsc,z]
theorem sCL (O:Ok X F G sc N) (hf:∀ x,X.fn x=UC) {call:NX} (h:CL sc N o m as L fv call):PE X call (tD X F G (.methL o m as L fv))/\gu call=UC:=by
 cases h with
 | zero hl hp hn hk hv ht hc h3 h6 ho=>exact ⟨qe O hf hl hp hn hk hv ht hc h3 h6 (sE ho O) rfl (by simp) Jw,rfl⟩| one hl hp hn hk hv ht hc h3 h6 ho hs ha=>exact ⟨qe O hf hl hp hn hk hv ht hc h3 h6 (sE ho O) (by simp only[aq,hs];rfl) (by simp) (Jx hs (sE ha O)),rfl⟩
theorem zc:PSs X [] (tDS X F G .nil):=PSs.weak Ax λD σ H q=>by obtain ⟨m,s,h,fl,R,S,e,zr⟩:=q;simp only[BT.evS] at e;cases e;exact zr σ H m (.refl _ _) R S
theorem sS (O:Ok X F G sc N) (hf:∀ x,X.fn x=UC) (hh:CS sc N s st):PS X st (tDS X F G s) :=
 CS.rec (motive_1:=λs st _=>PS X st (tDS X F G s)) (motive_2:=λs sts _=>PSs X sts (tDS X F G s))
  (@λi x m o as L fv call np p h1 h2 hl=>PS.weak (qL (i:=i) O.nd (by rw[O.hN];exact h1) (iE O h2) (sCL O hf hl).1 (jb (sCL O hf hl).2) (.inl (hf x))) λD σ H q =>
   gY (k:=λs=>BT.rE s i) (λs h=>by simp only[BT.evS]) q λm s h y fl v H1 R S r e1 zr=>by simp only[BT.rE] at e1;cases e1;exact zr _ H1 m (.refl _ _) R (S.set r))
  (λhl=>PS.weak (wH (sCL O hf hl).1) λD σ H q =>
   gY (k:=λs=>BT.xS) (λs h=>by simp only[BT.evS]) q λm s h y fl v H1 R S r e1 zr=>by simp only[BT.xS] at e1;cases e1;exact zr v H1 m (.refl _ _) R r)
  (@λi x mu sr sa tg fv cond elt te iter elt' ifs scope pos np p hu h1 h3 hk ht hz hs hi hc he=>by
   have K:∀ (D:Ends) (σ:L2.St) (H:Hp),tDS X F G (.set i (.comp mu sr sa tg fv cond elt)) D σ H->uG (tD X F G (.comp mu sr sa tg fv cond elt)) (oZ i) D σ H:=λD σ H q =>
    gY (k:=λs=>BT.rE s i) (λs h=>by rw[BT.evS]) q λm s h y fl v H1 R S r e1 zr=>by simp only[BT.rE] at e1;cases e1;exact zr _ H1 m (.refl _ _) R (S.set r)
   by_cases c:(sc.names.lookup x==UA .cell)=UC
   exact PS.weak (qL (i:=i) O.nd (by rw[O.hN];exact h1) (iE O (Cb c)) (sE (CE'.comp hu hk ht hz hs hi hc he) O) (Jz O c) (.inl (hf x))) K
   ·have h4:swB sc scope x np pos=UC:=by rw[PP] at h3;exact h3.resolve_left c
    exact PS.weak (B0 O hu hk ht hs (sCI hi O hz) (sCC hc) (λX' O'=>sE he O') h1 (zb h4) (Jy O h4)) K)
  (@λi x e v np p h1 h2 h3 he=>PS.weak (qL (i:=i) O.nd (by rw[O.hN];exact h1) (iE O h2) (sE he O) (jb h3) (.inl (hf x))) λD σ H q =>
   gY (k:=λs=>BT.rE s i) (λs h=>by simp only[BT.evS]) q λm s h y fl v H1 R S r e1 zr=>by simp only[BT.rE] at e1;cases e1;exact zr _ H1 m (.refl _ _) R (S.set r))
  (λh1 h2 h3 h4 h5 hk he=>PS.weak (wJ (sE he O) (wI (nX O h1 h2 h3) (sE hk O) set_list (lB h5)) (tT h4) rfl) Gn)
  (λh1 h2 h3 h4 h5 hk he=>PS.weak (wJ (sE he O) (wI (nX O h1 h2 h3) (sE hk O) set_dict (lB h5)) (tT h4) rfl) Ca)
  (λh1 h2 h3 he=>PS.weak (Eo O.nd (by rw[O.hN];exact h1) (iE O h2) (sE he O) (tG h3) (.inl (hf _))) Gm)
  (λh1 h2 ho he=>PS.weak (EC (sE ho O) (sE he O) (jb h2)) (B8 h1))
  (λh1 h3 ho he=>PS.weak (uP (sE ho O) (sE he O) (tG h3)) (B9 h1))
  (λh he=>PS.weak (Ay (sE he O) (jb h)) λD σ H q =>
   gY (k:=λs=>BT.kEx s) (λs h=>by simp only[BT.evS]) q λm s h y fl v H1 R S r e1 zr=>by simp only[BT.kEx] at e1;cases e1;exact zr σ H1 m (.refl _ _) R S)
  (λhe=>PS.weak (wH (sE he O)) λD σ H q =>
   gY (k:=λs=>BT.xS) (λs h=>by simp only[BT.evS]) q λm s h y fl v H1 R S r e1 zr=>by simp only[BT.xS] at e1;cases e1;exact zr v H1 m (.refl _ _) R r)
  (λh hc ha hb ia ib=>PS.weak (HK (sT hc O h).1 ia ib) λD σ H q=>by
   obtain ⟨m,s,h,fl,R,S,e,zr⟩:=q;simp only[BT.evS] at e;obtain ⟨t,g,e1,e2⟩:=tS e;refine ⟨m,s,h,t,g,R,S,e1,λH1 m1 x1 R1=>?_⟩;simp only[BT.kIf] at e2;cases t with
   | true=>exact ⟨m1,s,g,fl,R1,S.ext x1,e2,zr.ext x1⟩
   | false=>exact ⟨m1,s,g,fl,R1,S.ext x1,e2,zr.ext x1⟩)
  (λh hc hb ib=>PS.weak (wL O.own (sT hc O h).1 ib) Gk)
  (λhu ht hi hz hs hb ib=>by obtain ⟨g,hg1,hg2⟩:=sCT O (O.calm hu) ht (λq _=>.inl (hf q.2));exact PS.weak (Er O.own (O.calm hu) (sCI hi O hz) hg1 ib (tQ hs)) (Gp hg2))
  (PS.weak wG λD σ H q=>by obtain ⟨m,s,h,fl,R,S,e,zr⟩:=q;simp only[BT.evS] at e;cases e;exact zr σ H m (.refl _ _) R S)
  (PS.weak oY λD σ H q=>by obtain ⟨m,s,h,fl,R,S,e,zr⟩:=q;simp only[BT.evS] at e;cases e;exact zr σ H m (.refl _ _) R S)
  (λzt s σ H D I q=>by obtain ⟨m,s,h,fl,R,S,e,zr⟩:=q;simp only[BT.evS] at e;cases e)
  zc
  (λ_ ih=>sy ih)
  (λ_ _ ih ir=>PSs.weak (oX ih ir) yZ)
  hh
theorem sSs (O:Ok X F G sc N) (hf:∀ x,X.fn x=UC) {sts:List OV} (hh:CSs sc N s sts):PSs X sts (tDS X F G s):=by refine CSs.rec (motive_1:=λ_ _ _=>True) (motive_2:=λs sts _=>PSs X sts (tDS X F G s)) ?_ ?_ ?_ ?_ ?_ ?_ ?_ ?_ ?_ ?_ ?_ ?_ ?_ ?_ ?_ ?_ ?_ zc (λh _=>sy (sS O hf h)) (λh _ _ ir=>PSs.weak (oX (sS O hf h) ir) yZ) hh<;>(intros;trivial)
end
section
variable {K:NV}
mutual
theorem RD.shrink (x:∀ a∈m,a∈m'):∀ {v:V}{d:BT.D},RD K m' H v d->RD K m H v d
 | _,_,.non=>.non| _,_,.bl b=>.bl b| _,_,.int i=>.int i| _,_,.str y h=>.str y h| _,_,.tup h r=>.tup (h.elim (λq=>.inl ⟨q.1,λz=>q.2 (x _ z)⟩) .inr) (RDs.shrink x r)| _,_,.lst h r=>.lst (h.elim (λq=>.inl ⟨q.1,λz=>q.2 (x _ z)⟩) .inr) (RDs.shrink x r)
theorem RDs.shrink (x:∀ a∈m,a∈m'):∀ {vs:List V}{ds:List BT.D},RDs K m' H vs ds->RDs K m H vs ds
 | _,_,.nil=>.nil| _,_,.cons r t=>.cons (RD.shrink x r) (RDs.shrink x t)
end
end
theorem RFs.shrink {K:NV}:∀ {vs0 vs:List (Str×V)}{fs:List (Str×BT.W)},RFs K m H vs0 fs->RFs K (m++ex) H' vs fs->RFs K m H' vs fs
 | _,_,_,.nil,.nil=>.nil
 | _,_,_,.cons r0 t0,.cons r t=>by
  refine .cons ?_ (RFs.shrink t0 t);have back:∀ {n:Nat}{a b:Of},m[n]?=UA b->(m++ex)[n]?=UA a->m[n]?=UA a:=λ{n a b} h1 h2=>by rw[N5 (getD_some h1)] at h2;exact h2
  cases r with
  | p r=>exact .p (r.shrink λa ha=>Pq _ ha)
  | r h=>cases r0 with|r h0=>exact .r (back h0 h)
  | o h=>cases r0 with|o h0=>exact .o (back h0 h)
theorem RKs.shrink {K:NV} (sub:∀ a∈m,a∈m') (r:RKs K m' H vs kvs):RKs K m H vs kvs:=by
 induction r with
 | nil=>exact .nil| cons hk r t ih=>exact .cons (hk.shrink sub) (r.shrink sub) ih
theorem jJ (e:BT.fin h y g=UA (z,h')) (R:RH K m H h) (x:Ext m H m' H') (R':RH K m' H' g) (r:RW P w K m' H' v y) :
 ∃ m2,Ext m H m2 H'/\RH K m2 H' h'/\RW P w K m2 H' v z:=by
 unfold BT.fin at e;split at e;cases e;exact ⟨m',x,R',r⟩
 ·split at e
  ·rename_i c1 c2;obtain ⟨ex,rfl,hx⟩:=x.pre;have sub:∀ a∈m,a∈m++ex:=λa ha=>Pq _ ha;have x2:Ext m H m H':=⟨⟨[],by simp,by simp⟩,x.keep,x.live⟩;have R2:RH K m H' h:=by
    refine ⟨R.nd,R.len,λi a xs e1 e2=>?_,R'.tb⟩;have hi:i < m.length:=getD_some e1;have hi2:i < h.length:=by rw[← R.len];exact hi
    have e3:g[i]?=UA xs:=by rw[← c2,P9 hi2] at e2;exact e2
    have z:=R'.cl i a xs (by rw[N5 hi];exact e1) e3;cases xs with
    | o c fs =>
     obtain ⟨C0,dx0,vs0,_,_,q0⟩:=R.cl i a _ e1 e2;obtain ⟨C,dx,vs,q1,q2,q3⟩:=z;exact ⟨C,dx,vs,q1,q2,q0.shrink q3⟩
    | _=>obtain ⟨vs,q1,q2⟩:=z;exact ⟨vs,q1,q2.shrink sub⟩
   cases r with
   | p r=>cases e;exact ⟨m,x2,R2,.p (r.shrink sub)⟩
   | @o a n hn =>
    simp only at e;split at e
    ·rename_i c3;cases e;refine ⟨m,x2,R2,.o ?_⟩;rw[N5 (by rw[R.len];exact c3)] at hn;exact hn
    cases e;exact ⟨m++ex,x,R',.o hn⟩
   | @r a n hn =>
    simp only at e;split at e
    ·rename_i c3;cases e;refine ⟨m,x2,R2,.r ?_⟩;rw[N5 (by rw[R.len];exact c3)] at hn;exact hn
    ·rename_i c3;obtain ⟨xs,e4,e5⟩:=ay e;cases e5;obtain ⟨vs,q1,q2⟩:=R'.cell n a xs hn e4;refine ⟨m,x2,R2,.p (.lst (.inl ⟨.inl q1,λz=>?_⟩) (q2.shrink sub))⟩;obtain ⟨j,hj⟩:=OT z;have hjl:=getD_some hj;have ej:(m++ex)[j]?=UA a:=by rw[N5 hjl];exact hj
     have:=mV R'.nd ej hn;rw[R.len] at hjl;lia
   | _=>cases e
  cases e;exact ⟨m',x,R',r⟩
theorem qh (r:RWs P w K m H vs ws):RS P w K m H (L2.start N vs) (BT.eZ N.length ws):=by
 have hl:=r.length;refine ⟨by simp[L2.start,BT.eZ,hl],λi y e=>?_⟩;simp only[BT.eZ] at e
 by_cases c:i < ws.length
 ·rw[N5 (by simpa using c),Ox] at e;obtain ⟨z,e1,e2⟩:=ay e;cases e2;have:∀ {vs:List V}{ws:List BT.W}{i:Nat},RWs P w K m H vs ws->ws[i]?=UA y->∃ v,vs[i]?=UA v/\RW P w K m H v y:=by
   intro vs ws i r
   induction r generalizing i with
   | nil=>intro e;simp at e
   | cons r t ih =>
    intro e;cases i with
    | zero=>simp at e;subst e;exact ⟨_,rfl,r⟩| succ i=>simpa using ih (by simpa using e)
  obtain ⟨v,h1,h2⟩:=this r e1;refine ⟨v,?_,h2⟩;unfold L2.start;rw[N5 (by simp;lia),Ox,h1];rfl
 ·rw[Ol (by simpa using c),Qg] at e;split at e<;>cases e
theorem Gq (hT:BT.lZ L=UA ⟨ns,ns,.ret bt⟩)
 (hg:∀ ws h r,g ws h=UA r->ws.length=ns.length/\BT.j3 (BT.evS F G (.ret bt) (BT.eZ ns.length ws) h) (BT.fin h)=UA r)
 (hO:∀ (q:Str) (sc:OD) (cl:List (Str×Of)) (f c':Of) (A:PK) (outer:List Env) (s:N4) (H:Hp),ns.Nodup->bO k (A.deeper (QF q sc s.heap.objs.size f (.ref c') cl))->Ok (yE P w K mg base ns q sc cl f c' A outer s H) F G sc ns):pS P w K mg base (k+1) L g:=by
 intro A outer s H f us vs cvs m ws cs h z h' Q E hr e0 rv R rw nc la rc e zr;obtain ⟨bt',ps,fs,pa,be,sc,cl,pm,ctv,c',oc,os,t,q,l0,l1,l2,l3,l4,l5,l6,l7,l8,l9,l10⟩:=la;rw[hT] at l0;cases l0;have lf:=Jq l2;obtain ⟨hwl,e1⟩:=hg _ _ _ e;have C:=l10.cells l5;have GU:=rv.length;have Df:=rw.length;have Dg:=l10.len;have GV:cvs.length=cs.length:=by
  clear e e1 hwl l10 Dg
  induction rc with
  | nil=>rfl| cons _ _ ih=>simp[ih]
 have hu:us.length=ps.length:=by simp only[Oj,Oh] at hwl;lia
 refine PySem.W.kla_callFunE hr.depth (e0.hok _ _ l6.1).1 rfl lf.co lf.ge rfl ⟨c',oc,os,t,rfl,(e0.hok _ _ l7.1).1,l8,l9⟩ ?_;rw[BA l1 hu];refine wpAny_pure (wpAny_newFunctionEnv lf.cell (λy hy=>lf.loc y.1 (Rc hy).1) (λh1 hns hsb=>?_) lf.kd);have hk1:∀ b o,s.heap.get? b=UA o->h1.get? b=UA o:=λb o e=>hsb.extBut b o (On (N6 e)) (NW _ e);refine ⟨e0.mod.nolimit.keeps λb o e=>hk1 b o (e0.bs b o e).1,?_⟩;show codeAny _ _ (.expr be (QF q sc s.heap.objs.size f (.ref c') cl)) _ _;refine PySem.W.kla_codeExpr ?_;have I:=BB (q:=q) (f:=f) (c':=c') (tk:=s.toks+(ps.zip us).length) l1 lf l4 l5 l10 hr.hd e0 rv hu hns hk1;have hr1:bO k (A.deeper (QF q sc s.heap.objs.size f (.ref c') cl)):=hr.deeper _;have O:=hO q sc cl f c' A outer s H lf.nd hr1;simp only[BT.evS] at e1;cases g1:BT.ev F G bt (BT.eZ (ps++fs).length (ws++cs.map BT.Cp.w)) h with
 | none=>rw[g1] at e1;cases e1
 | some yg =>
  obtain ⟨y,gh⟩:=yg;rw[g1] at e1;have e2:BT.fin h y gh=UA (z,h'):=e1;have hs:RS P w K m (hid cl H) (vs.map UA++cvs.map UA) (BT.eZ (ps++fs).length (ws++cs.map BT.Cp.w)):=by
   have r0:=qh (N:=ps++fs) ((rw.tr C.sq nc).app (RCs.ws (P:=P) (w:=w) (rc.tr C.sq)));have e3:L2.start (ps++fs) (vs++cvs)=vs.map UA++cvs.map UA:=by unfold L2.start;simp only[Oj];rw[show ps.length+fs.length - (vs.length+cvs.length)=0 by lia];simp
   rw[e3] at r0;exact r0
  refine wpAny_mono (sE l3 O [] _ _ _ (λv H'=>∃ m',Ext m (hid cl H) m' H'/\RH K m' H' gh/\RW P w K m' H' v y) I ⟨m,_,h,y,gh,C.rh R,hs,g1,λv H' m' x' R' r'=>⟨m',x',R',r'⟩⟩) (λu s' ⟨v,H',I',rv',m',x',R',r'⟩=>?_) (λe s' hx=>ON hx);have N':∀ x c,cl.lookup x=UA c->H' c=UB:=λx c e=>I'.freeC x c e;have le:Le H' (ret cl H H'):=FZ N';obtain ⟨m2,x2,R2,r2⟩:=jJ e2 (C.rh R) x' R' r';have B:Un (frs outer) [] (hid cl H) H' s.heap s'.heap:=I'.base;have nc':∀ b,H b=UB->¬ ∃ y,cl.lookup y=UA b:=λb n ⟨y,qq⟩=>by obtain ⟨o,uu,k1,_⟩:=C y b qq;rw[n] at k1;cases k1
  refine ⟨v,ret cl H H',I'.os,I'.bare,⟨λb o e n hb hx=>B.keep b o e (dM n) hb hx,λb o e n hb hx=>B.slot b o e (dM n) hb hx,λb o e n hx=>?_,λb o e hx=>B.there b o e hx,λb xs e=>?_,λb o uu e=>?_,λb qs e=>?_⟩,λb uu e=>?_,rv',zr v _ m2 (C.F3 N' x2 R2) (R2.le le) (r2.le le)⟩;rw[eg (nc' b n)];exact B.free b o e (dM n) hx;rw[eg (C.out e rfl)];exact B.tups b xs (C.hid e rfl)
  ·by_cases cc:∃ y,cl.lookup y=UA b
   obtain ⟨y,qq⟩:=cc;rw[nZ qq];exact e;rw[eg cc];exact B.frzs b o uu (by rw[cS cc];exact e)
  rw[eg (C.out e rfl)];exact B.tbls b qs (C.hid e rfl)
  ·by_cases cc:∃ y,cl.lookup y=UA b
   ·obtain ⟨y,qq⟩:=cc;rw[nZ qq] at e;obtain ⟨o,u2,k1,k2⟩:=C y b qq;rw[k1] at e;cases e;have k3:=B.keep b o (e0.hok _ _ k1).1 (rK qq) (λhb=>by rw[e0.frf b hb] at k1;cases k1) (by simp);exact ⟨k3,_,k3⟩
   ·rw[eg cc] at e;exact (I'.hok b uu e).stay (λ_ _ _ q=>q) (λd q=>le _ _ q) λd xs q=>le _ _ q
def jY (K:NV) (q:Str) (fd:Qh) (fn:BT.Fn):Prop:=∀ y,fn.ns.contains (BT.bM y)=UC->q=y/\y∈BT.cQ ∧
 (∃ c P,OS K y=UA (c,P)/\fd.code=.ref c/\QS K c P=UC/\∀ z∈BT.cQ,∀ c2,OS K z=UA (c2,P)->z=y) ∧
 ∃ bm ob,OI K Og "__builtins__"=UA (UA (.ref bm))/\bm≠PL/\K.lookup bm=UA ob/\ob.cls=.type "module"/\ob.dict=UA PL/\ob.data=.plain
inductive JA (K:NV) (mg:Str->Option N1) (x:Str) (fn:BT.Fn):Prop where
 | mk (f:Of) (fd:Qh) (st:OV) (h1:mg x=UA (.ref f)) (h2:Fun K x x st f fd) (h3:cu fn.ns fn.ps (ak st)) (h4:Binds K fd fn.ps []) (h5:CSs (ak st) fn.ns fn.body (aI st)) (h6:jY K x fd fn):JA K mg x fn
structure Def (K:NV) (mg:Str->Option N1) (x:Str) (fn:BT.Fn):Prop where
 ex:JA K mg x fn
inductive DV (K:NV) (mg:Str->Option N1) (c m:Str) (fn:BT.Fn):Prop where
 | mk (C f:Of) (fd:Qh) (x qual:Str) (st:OV) (h1:jV K c C) (h2:mg c=UA (.ref C)) (h3:qR K C m f) (h4:(m="__init__"->Mk K C f)) (h5:Fun K x qual st f fd) (h6:cu fn.ns fn.ps (ak st)) (h7:Binds K fd fn.ps []) (h8:CSs (ak st) fn.ns fn.body (aI st)) (h9:jY K qual fd fn):DV K mg c m fn
structure zd (K:NV) (mg:Str->Option N1) (c m:Str) (fn:BT.Fn):Prop where
 ex:DV K mg c m fn
structure Txt (P:Ot) (w:OR) (K:NV) (mg:Str->Option N1) (T:BT.FK->Option BT.Fn) (G:Str->Option BT.W):Prop where
 defs:∀ x fn,T (.f x)=UA fn->Def K mg x fn
 meths:∀ c m fn,T (.m c m)=UA fn->zd K mg c m fn
 lams:∀ L fn,T (.l L)=UA fn->BT.lZ L=UA fn/\∃ ns bt,fn=⟨ns,ns,.ret bt⟩/\∀ y,ns.contains (BT.bM y)=UD
 glob:∀ x z,G x=UA z->∃ u v,mg x=UA u/\RelV v u/\∀ m H,RW P w K m H v z
 blt:∀ x∈FH,mg x=UB
theorem tU (e:BT.runN T G k x ws h=UA r):∃ fn,T x=UA fn:=by
 cases k with
 | zero=>cases e
 | succ k =>
  rw[BT.runN] at e;cases q:T x with
  | none=>rw[q] at e;cases e| some fn=>exact ⟨fn,rfl⟩
theorem Cd (F:Fun K x qual st f fd) (S:cu N ps (ak st)) (len:∀ vs H Q E,sp vs H Q E->vs.length=ps.length)
 (hbody:∀ (cdv:N1) (A:PK) (outer:List Env) (s:N4) (H:Hp) (vs:List V) (Q:VK) (E:XK),fd.code=cdv->bO k (A.deeper (Tn qual (ak st) s.heap.objs.size f cdv))->Mod K mg base->sp vs H Q E →
  ∃ t,PSs (qU CX0 P w K mg base N qual (ak st) f cdv A outer s H E).nox (aI st) t/\t { nx:=λ_ H'=>Q .non H',rt:=Q } (L2.start N vs) H):fD P w K mg base CX0 (k+1) f fd ps sp:=by
 obtain ⟨oc,od,kV,doc,pm,an,cdv,ct,osl,rfl,lk,hcd⟩:=F.ex;refine ⟨len,λA outer s H args us vs Q E hr e0 hb r hs=>?_⟩;have F1:fD P w K mg base CX0 (k+1) f (Pf x qual (cj st) (aI st) (ak st) .none kV doc pm an cdv ct) ps sp:=Ie lk hcd S len λA outer s H vs Q E hr hsp=>by obtain ⟨t,h,q⟩:=hbody cdv A outer s H vs Q E rfl hr e0.mod hsp;exact ⟨t,h.nox,q⟩
 exact F1.run A outer s H args us vs Q E hr e0 hb r hs
theorem DW (X:Txt P w K mg T G)
 (ih:∀ (x:BT.FK) (fn:BT.Fn),T x=UA fn->∀ (f:Of) (fd:Qh) (nm qual:Str) (st:OV),Fun K nm qual st f fd->cu fn.ns fn.ps (ak st)->CSs (ak st) fn.ns fn.body (aI st)->jY K qual fd fn->fD P w K mg base CX0 (2*k) f fd fn.ps (spF P w K (BT.runN T G k x)))
 (il:∀ L,(∃ fn,T (.l L)=UA fn)->pS P w K mg base (2*k) L (BT.runN T G k (.l L)))
 (e1:Y.prog=P) (e2:Y.w=w) (e3:Y.K=K) (e4:Y.mg=mg) (e5:Y.base=base) (hsc:Y.env.scope=sc) (hN:Y.N=N) (nd:Y.N.Nodup) (ca:Y.calm=UC) (hr:bO (2*k+1) Y.A) (own:PassesOwn (Ow Y.prog Y.w) Y.A Y.env Y.xe)
 (lx:(∀ x,Y.fn x=UC)->∀ x,N.contains (BT.bM x)=UC->LX Y x):Ok Y (BT.runN T G k) G sc N:=by
 subst e1 e2 e3 e4 e5;refine ⟨hsc,hN,nd,λ_=>ca,?_,own,X.glob,λg ws h r e=>?_,λc g ws h r e=>?_,λc ws h r e=>?_,X.blt,λL ws h r e=>⟨2*k,hr.mono (P7 _),il L (tU e)⟩,lx⟩
 ·have:=hr.un;lia
 ·obtain ⟨fn',hTg⟩:=tU e;obtain ⟨f',fd',st',a1,a2,a3,a4,a5,a6⟩:=(X.defs g fn' hTg).ex;exact ⟨f',fd',fn'.ps,2*k,a1,a2.kp,a4,hr.mono (P7 _),ih _ fn' hTg f' fd' g g st' a2 a3 a5 a6⟩
 ·obtain ⟨fn',hTg⟩:=tU e;obtain ⟨C,f',fd',x',q',st',b1,b2,b3,b4,a2,a3,a4,a5,a6⟩:=(X.meths c g fn' hTg).ex;exact ⟨C,f',fd',fn'.ps,2*k,b1,b3,a4,hr.mono (P7 _),ih _ fn' hTg f' fd' x' q' st' a2 a3 a5 a6⟩
 ·obtain ⟨fn',hTg⟩:=tU e;obtain ⟨C,f',fd',x',q',st',b1,b2,b3,b4,a2,a3,a4,a5,a6⟩:=(X.meths c _ fn' hTg).ex;exact ⟨C,f',fd',fn'.ps,2*k,b1,b2,b4 rfl,a4,hr,ih _ fn' hTg f' fd' x' q' st' a2 a3 a5 a6⟩
theorem Ce (X:Txt P w K mg T G) :
 ∀ (k:Nat),(∀ (x:BT.FK) (fn:BT.Fn),T x=UA fn->∀ (f:Of) (fd:Qh) (nm qual:Str) (st:OV),Fun K nm qual st f fd->cu fn.ns fn.ps (ak st)->CSs (ak st) fn.ns fn.body (aI st)->jY K qual fd fn->fD P w K mg base CX0 (2*k) f fd fn.ps (spF P w K (BT.runN T G k x))) ∧
  ∀ L,(∃ fn,T (.l L)=UA fn)->pS P w K mg base (2*k) L (BT.runN T G k (.l L)):=by
 intro k
 induction k with
 | zero =>
  refine ⟨λx fn hT f fd nm qual st h2 h3 h5 h6=>?_,λL hL=>?_⟩
  ·have no:∀ vs H Q E,¬ spF P w K (BT.runN T G 0 x) vs H Q E:=λvs H Q E h=>by obtain ⟨m,ws,h,z,h',_,_,e,_⟩:=h;cases e
   exact ⟨λvs H Q E h=>absurd h (no vs H Q E),λA outer s H args us vs Q E _ _ _ _ h=>absurd h (no vs H Q E)⟩
  ·intro A outer s H f us vs cvs m ws cs h z h' Q E hr e0 rv R rw nc la rc e zr;cases e
 | succ k ihk =>
  obtain ⟨ih,il⟩:=ihk;refine ⟨λx fn hT f fd nm qual st h2 h3 h5 h6=>?_,λL hL=>?_⟩
  ·show fD P w K mg base CX0 (2*k+1+1) f fd fn.ps (spF P w K (BT.runN T G (k+1) x));refine Cd h2 h3 (λvs H Q E h=>?_) λcdv A outer s H vs Q E hcd hr hM h=>?_
   ·obtain ⟨m,ws,h,z,h',R,r,e,zr⟩:=h;rw[BT.runN,hT] at e;simp only at e;split at e;rename_i c;rw[r.length];exact c;cases e
   ·obtain ⟨m,ws,h,z,h',R,r,e,zr⟩:=h;rw[BT.runN,hT] at e;simp only at e;split at e
    ·have O:Ok (qU CX0 P w K mg base fn.ns qual (ak st) f cdv A outer s H E).nox (BT.runN T G k) G (ak st) fn.ns:=by refine DW X ih il rfl rfl rfl rfl rfl rfl rfl h3.nd rfl hr RP λ_ y hy=>?_;obtain ⟨t1,t2,⟨c,Pt,t3,t4,t5,t6⟩,bm,ob,t7,t8,t9,t10,t11,t12⟩:=h6 y hy;exact ⟨t2,⟨c,Pt,t3,hcd.symm.trans t4,Tu hM.kin t5,t6⟩,by show qual++".<locals>."=_;rw[t1],bm,ob,Pr hM.kin hM.glob t7,t8,hM.kin _ _ t9,t10,t11,t12⟩
     refine ⟨_,sSs O (λ_=>rfl) h5,?_⟩;cases gg:BT.evS (BT.runN T G k) G fn.body (BT.eZ fn.ns.length ws) h with
     | none=>rw[gg] at e;cases e
     | some fl =>
      rw[gg] at e;refine ⟨m,_,h,fl,R,qh r,gg,?_⟩;cases fl with
      | rt y g =>
       intro v H' m' x' R' r';obtain ⟨m2,y1,y2,y3⟩:=jJ e R x' R' r';exact zr v H' m2 y1 y2 y3
      | nx s' g =>
       intro σ' H' m' x' R' _;obtain ⟨m2,y1,y2,y3⟩:=jJ (v:=.non) e R x' R' (.p .non);exact zr .non H' m2 y1 y2 y3
      | _=>cases e
    cases e
  ·obtain ⟨fn,hT⟩:=hL;obtain ⟨hl,ns,bt,rfl,nt⟩:=X.lams L fn hT;show pS P w K mg base (2*k+1+1) L (BT.runN T G (k+1) (.l L));refine Gq (F:=BT.runN T G k) (G:=G) hl (λws h r e=>?_) λq sc cl f c' A outer s H nd hr=>DW X ih il rfl rfl rfl rfl rfl rfl rfl nd rfl hr RP λ_ y hy=>absurd hy (by rw[nt y];decide);rw[BT.runN,hT] at e;simp only at e;split at e;rename_i c;exact ⟨c,e⟩;cases e
theorem Gs (X:Txt P w K mg T G) (k:Nat) (x:BT.FK) (fn:BT.Fn) (hT:T x=UA fn) (f:Of) (fd:Qh) (nm qual:Str) (st:OV) (h2:Fun K nm qual st f fd) (h3:cu fn.ns fn.ps (ak st)) (h5:CSs (ak st) fn.ns fn.body (aI st)) (h6:jY K qual fd fn) :
 fD P w K mg base CX0 (2*k) f fd fn.ps (spF P w K (BT.runN T G k x)):=(Ce X k).1 x fn hT f fd nm qual st h2 h3 h5 h6
end BS
end
section
namespace BT
open PySem
noncomputable def bP:Fn:=⟨["part"],["part"], (.seq (.ife (.cmp .eq (.idx (.glo "INNER_COUNTS") (.idx (.var 0) (.cst (.int 0)))) (.cst (.int 0))) (.ret (.tup .nil)) .nil) (.ret (.slc (.var 0) (Z9 (.cst (.int 1))) .nil)))⟩
noncomputable def jc:Fn:=⟨[],[], (.ret (.tup (Z4 (.cst (.int 0)) (.bin .mul (.tup (Z9 (.cst (.int 0)))) (.bi .len UD (Z9 (.glo "LETTERS")))) (.bin .mul (.tup (Z9 (.cst (.int 0)))) (.glo "CELL_COUNT")) (.tup .nil) (.cst (.int 0)) (.tup .nil))))⟩
noncomputable def eB:Fn:=⟨["term"],["term","parts","waiting","part"], (.seq (.set 1 (.lst UC .nil)) (.seq (.set 2 (.lst UC (Z9 (.var 0)))) (.seq (.whl (.cmp .gt (.bi .len UD (Z9 (.var 2))) (.cst (.int 0))) (.seq (.set 3 (.me .pop (.var 2) .nil)) (.seq (.ex (.me .append (.var 1) (Z9 (.var 3)))) (.ex (.me .extend (.var 2) (Z9 (.call "inner_sums" (Z9 (.var 3))))))))) (.ret (.var 1)))))⟩
noncomputable def gR:Fn:=⟨["word","one","other"],["word","one","other"], (.seq (.ife (.cmp .eq (.var 0) (.cst (.str "less"))) (.ret (.ite (.cmp .lt (.var 1) (.var 2)) (.cst (.int 1)) (.cst (.int 0)))) .nil) (.seq (.ife (.cmp .eq (.var 0) (.cst (.str "add"))) (.ret (.bin .mod (.bin .add (.var 1) (.var 2)) (.glo "WORTH_COUNT"))) .nil) (.seq (.ife (.cmp .eq (.var 0) (.cst (.str "sub"))) (.ret (.bin .mod (.bin .sub (.var 1) (.var 2)) (.glo "WORTH_COUNT"))) .nil) (.ret (.bin .mod (.bin .mul (.var 1) (.var 2)) (.glo "WORTH_COUNT"))))))⟩
noncomputable def fJ:Fn:=⟨["thing"],["thing"], (.ret (.cmp .mem (.var 0) (.glo "LETTERS")))⟩
noncomputable def eH:Fn:=⟨["state","thing"],["state","thing"], (.seq (.ife (.call "is_name" (Z9 (.var 1))) (.ret (.idx (.idx (.var 0) (.glo "NAMES")) (.me .tindex (.glo "LETTERS") (Z9 (.var 1))))) .nil) (.seq (.ex (.call "check_thing" (Z9 (.var 1)))) (.ret (.idx (.idx (.var 0) (.glo "CELLS")) (.var 1)))))⟩
noncomputable def bF:Fn:=⟨["part","worths","state"],["part","worths","state","word","last"], (.seq (.set 3 (.idx (.var 0) (.cst (.int 0)))) (.seq (.ife (.cmp .eq (.var 3) (.cst (.str "num"))) (.ret (.idx (.var 0) (.cst (.int 1)))) .nil) (.seq (.ife (.cmp .eq (.var 3) (.cst (.str "name"))) (.ret (.call "worth_in" (Z8 (.var 2) (.idx (.var 0) (.cst (.int 1)))))) .nil) (.seq (.set 4 (.me .pop (.var 1) .nil)) (.seq (.ife (.cmp .eq (.var 3) (.cst (.str "cell"))) (.ret (.idx (.idx (.var 2) (.glo "CELLS")) (.bin .mod (.var 4) (.glo "CELL_COUNT")))) .nil) (.ret (.call "of_two" (Z7 (.var 3) (.me .pop (.var 1) .nil) (.var 4)))))))))⟩
noncomputable def eN:Fn:=⟨["term","state"],["term","state","worths","part"], (.seq (.set 2 (.lst UC .nil)) (.seq (.for [(3,"part")] .rev (Z9 (.call "laid_out" (Z9 (.var 0)))) (.ex (.me .append (.var 2) (Z9 (.call "worth_of" (Z7 (.var 3) (.var 2) (.var 1))))))) (.ret (.idx (.var 2) (.cst (.int 0))))))⟩
noncomputable def fK:Fn:=⟨["term","state"],["term","state"], (.ret (.bin .mod (.call "reckoned" (Z8 (.var 0) (.var 1))) (.glo "CELL_COUNT")))⟩
noncomputable def dO:Fn:=⟨["program","state"],["program","state","word"], (.seq (.ife (.cmp .ge (.idx (.var 1) (.glo "ROW")) (.bi .len UD (Z9 (.var 0)))) (.ret (.cst (.bl UC))) .nil) (.seq (.set 2 (.idx (.idx (.var 0) (.idx (.var 1) (.glo "ROW"))) (.cst (.int 0)))) (.seq (.ife (.cmp .eq (.var 2) (.cst (.str "back"))) (.ret (.cmp .eq (.bi .len UD (Z9 (.idx (.var 1) (.glo "CALLS")))) (.cst (.int 0)))) .nil) (.seq (.ife (.cmp .eq (.var 2) (.cst (.str "call"))) (.ret (.cmp .ge (.bi .len UD (Z9 (.idx (.var 1) (.glo "CALLS")))) (.glo "MOST_CALLS"))) .nil) (.ret (.cmp .eq (.var 2) (.cst (.str "stop"))))))))⟩
noncomputable def bS:Fn:=⟨["row","state"],["row","state","word"], (.seq (.set 2 (.idx (.var 0) (.cst (.int 0)))) (.seq (.ife (.or (.cmp .eq (.var 2) (.cst (.str "jump"))) (.cmp .eq (.var 2) (.cst (.str "call")))) (.ret (.idx (.var 0) (.cst (.int 1)))) .nil) (.seq (.ife (.cmp .eq (.var 2) (.cst (.str "back"))) (.ret (.idx (.idx (.var 1) (.glo "CALLS")) (.neg (.cst (.int 1))))) .nil) (.seq (.ife (.and (.cmp .eq (.var 2) (.cst (.str "unless"))) (.cmp .eq (.call "reckoned" (Z8 (.idx (.var 0) (.cst (.int 1))) (.var 1))) (.cst (.int 0)))) (.ret (.idx (.var 0) (.cst (.int 2)))) .nil) (.ret (.bin .add (.idx (.var 1) (.glo "ROW")) (.cst (.int 1))))))))⟩
noncomputable def cT:Fn:=⟨["worths","number","worth"],["worths","number","worth"], (.ret (.bin .add (.bin .add (.slc (.var 0) .nil (Z9 (.var 1))) (.tup (Z9 (.var 2)))) (.slc (.var 0) (Z9 (.bin .add (.var 1) (.cst (.int 1)))) .nil)))⟩
noncomputable def dh:Fn:=⟨["state","name","worth"],["state","name","worth"], (.ret (.call "with_worth" (Z7 (.idx (.var 0) (.glo "NAMES")) (.me .tindex (.glo "LETTERS") (Z9 (.var 1))) (.var 2))))⟩
noncomputable def dP:Fn:=⟨["asked","number"],["asked","number"], (.ret (.ite (.cmp .lt (.var 1) (.bi .len UD (Z9 (.var 0)))) (.idx (.var 0) (.var 1)) (.cst (.int 0))))⟩
noncomputable def fL:Fn:=⟨["program","asked","state"],["program","asked","state","row","word","behind"], (.seq (.set 3 (.idx (.var 0) (.idx (.var 2) (.glo "ROW")))) (.seq (.set 4 (.idx (.var 3) (.cst (.int 0)))) (.seq (.set 5 (.bi .list UC (Z9 (.var 2)))) (.seq (.put 5 (.glo "ROW") (.call "place_behind" (Z8 (.var 3) (.var 2)))) (.seq (.ife (.cmp .eq (.var 4) (.cst (.str "set"))) (.put 5 (.glo "NAMES") (.call "with_name" (Z7 (.var 2) (.idx (.var 3) (.cst (.int 1))) (.call "reckoned" (Z8 (.idx (.var 3) (.cst (.int 2))) (.var 2)))))) (.ife (.cmp .eq (.var 4) (.cst (.str "put"))) (.put 5 (.glo "CELLS") (.call "with_worth" (Z7 (.idx (.var 2) (.glo "CELLS")) (.call "cell_by" (Z8 (.idx (.var 3) (.cst (.int 1))) (.var 2))) (.call "reckoned" (Z8 (.idx (.var 3) (.cst (.int 2))) (.var 2)))))) (.ife (.cmp .eq (.var 4) (.cst (.str "ask"))) (.seq (.put 5 (.glo "NAMES") (.call "with_name" (Z7 (.var 2) (.idx (.var 3) (.cst (.int 1))) (.call "brought" (Z8 (.var 1) (.idx (.var 2) (.glo "ASKED"))))))) (.put 5 (.glo "ASKED") (.bin .add (.idx (.var 2) (.glo "ASKED")) (.cst (.int 1))))) (.ife (.cmp .eq (.var 4) (.cst (.str "say"))) (.put 5 (.glo "SAID") (.bin .add (.idx (.var 2) (.glo "SAID")) (.tup (Z9 (.call "reckoned" (Z8 (.idx (.var 3) (.cst (.int 1))) (.var 2))))))) (.ife (.cmp .eq (.var 4) (.cst (.str "call"))) (.put 5 (.glo "CALLS") (.bin .add (.idx (.var 2) (.glo "CALLS")) (.tup (Z9 (.bin .add (.idx (.var 2) (.glo "ROW")) (.cst (.int 1))))))) (.ife (.cmp .eq (.var 4) (.cst (.str "back"))) (.put 5 (.glo "CALLS") (.slc (.idx (.var 2) (.glo "CALLS")) .nil (Z9 (.neg (.cst (.int 1)))))) .nil)))))) (.ret (.bi .tuple UD (Z9 (.var 5)))))))))⟩
theorem tV:Om s=Om t↔s=t:=by
 constructor
 ·intro h;rw[TJ,TJ] at h;have h1:(s.toList.map S7)=(t.toList.map S7):=by have:=congrArg (λx:Str=>x.cps.toList) h;simpa using this
  have inj:∀ (a b:List Char),a.map S7=b.map S7->a=b:=by
   intro a
   induction a with
   | nil=>intro b h;cases b with
    | nil=>rfl| cons _ _=>simp at h
   | cons x xs ih=>intro b h;cases b with
    | nil=>simp at h
    | cons y ys =>
     simp only[Oi,Qv] at h;have:x=y:=Char.toNat_inj.mp h.1;rw[this,ih ys h.2]
  have h2:=inj _ _ h1;exact String.toList_inj.mp h2
 intro h;rw[h]
@[simp] theorem K8 (s t:String):(Om s==Om t)=(s==t):=by
 by_cases h:s=t
 subst h;simp
 ·have h1:¬ Om s=Om t:=λe=>h (tV.mp e);rw[beq_eq_false_iff_ne.mpr h1,beq_eq_false_iff_ne.mpr h]
@[simp] theorem MF (s t:String):(Om s=Om t)=(s=t):=propext tV
@[simp] theorem NO (h:List α) (a:α) (r:List α):(h++a::r)[h.length]?=UA a:=by simp
@[simp] theorem JB (h:List α) (a b:α) (r:List α):(h++a::b::r)[h.length+1]?=UA b:=by rw[Ol (by lia)];simp
@[simp] theorem NP (h:List α) (a x:α) (r:List α):(h++a::r).set h.length x=h++x::r:=by simp
@[simp] theorem NQ (h:List α) (a b x:α) (r:List α):(h++a::b::r).set (h.length+1) x=h++a::x::r:=by rw[Qq _ _ (by lia)];simp
theorem aj (h:HH) (w:W):fin h w h=UA (w,h):=by simp[fin]
theorem gw (h g:HH) (d:D):fin h (.p d) (h++g)=UA (.p d,h):=by
 unfold fin;cases g with
 | _=>simp
@[simp] theorem MG (h:HH) (a:Cl) (r:HH):lat (h++a::r) h.length=nE a:=by simp[lat]
@[simp] theorem NR (h:HH) (a b:Cl) (r:HH):lat (h++a::b::r) (h.length+1)=nE b:=by unfold lat;rw[JB];rfl
@[simp] theorem NS (h:HH) (a:Cl) (r:HH):oat (h++a::r) h.length=pI a:=by simp[oat]
@[simp] theorem NT (h:HH) (a b:Cl) (r:HH):oat (h++a::b::r) (h.length+1)=pI b:=by unfold oat;rw[JB];rfl
theorem Cf (e:lat h n=UA ys) (c:Cl):lat (h.set n c) n=nE c:=by
 unfold lat at e ⊢;cases g:h[n]? with
 | none=>rw[g] at e;cases e| some q=>rw[List.getElem?_set_self',g];rfl
theorem DX (h:HH) (xs:List D) (g:HH):fin h (.r h.length) (h++.l xs::g)=UA (.p (.lst xs),h):=by unfold fin;simp
theorem tW (h h':HH) (w:W) (e:h'.length=h.length):fin h w h'=UA (w,h'):=by simp[fin,e]
structure Prg (T:FK->Option Fn) (G:Str->Option W):Prop where
 inner_sums:T "inner_sums"=UA bP
 begun:T "begun"=UA jc
 laid_out:T "laid_out"=UA eB
 of_two:T "of_two"=UA gR
 worth_of:T "worth_of"=UA bF
 is_name:T "is_name"=UA fJ
 worth_in:T "worth_in"=UA eH
 reckoned:T "reckoned"=UA eN
 cell_by:T "cell_by"=UA fK
 is_over:T "is_over"=UA dO
 place_behind:T "place_behind"=UA bS
 with_worth:T "with_worth"=UA cT
 with_name:T "with_name"=UA dh
 brought:T "brought"=UA dP
 stepped:T "stepped"=UA fL
 LETTERS:G "LETTERS"=UA (.p (.tup [.str "a",.str "b",.str "c",.str "d",.str "e",.str "f"]))
 CELL_COUNT:G "CELL_COUNT"=UA (.p (.int 4))
 WORTH_COUNT:G "WORTH_COUNT"=UA (.p (.int 10007))
 INNER:G "INNER_COUNTS"=UA (.k (.t [("num",.int 0),("name",.int 0),("cell",.int 1),("add",.int 2),("sub",.int 2),("mul",.int 2),("less",.int 2)]))
 ROW:G "ROW"=UA (.p (.int 0))
 NAMES:G "NAMES"=UA (.p (.int 1))
 CELLS:G "CELLS"=UA (.p (.int 2))
 CALLS:G "CALLS"=UA (.p (.int 3))
 ASKED:G "ASKED"=UA (.p (.int 4))
 SAID:G "SAID"=UA (.p (.int 5))
 MOST_CALLS:G "MOST_CALLS"=UA (.p (.int 6))
inductive Op where
 | add|sub|mul|less
noncomputable def Op.w:Op->String
 | .add=>"add" | .sub=>"sub" | .mul=>"mul" | .less=>"less"
inductive Nm where
 | a|b|c|d|e|f
noncomputable def Nm.w:Nm->String
 | .a=>"a" | .b=>"b" | .c=>"c" | .d=>"d" | .e=>"e" | .f=>"f"
noncomputable def Nm.ix:Nm->Nat
 | .a=>0 | .b=>1 | .c=>2 | .d=>3 | .e=>4 | .f=>5
theorem Nm.DY (x:Nm):x.ix < 6:=by cases x<;>decide
inductive Sm where
 | num (n:Int)
 | nam (i:Nm)
 | cell (s:Sm)
 | two (o:Op) (s t:Sm)
noncomputable def Sm.enc:Sm->D
 | .num n=>.tup [.str "num",.int n]| .nam i=>.tup [.str "name",.str i.w]| .cell s=>.tup [.str "cell",s.enc]| .two o s t=>.tup [.str o.w,s.enc,t.enc]
noncomputable def Sm.size:Sm->Nat
 | .num _=>1| .nam _=>1| .cell s=>s.size+1| .two _ s t=>s.size+t.size+1
noncomputable def Sm.lay:Sm->List Sm
 | .num n=>[.num n]| .nam i=>[.nam i]| .cell s=>.cell s::s.lay| .two o s t=>.two o s t::(t.lay++s.lay)
noncomputable def Sm.subs:Sm->List Sm
 | .num _=>[]| .nam _=>[]| .cell s=>[s]| .two _ s t=>[s,t]
def Wth (n:Int):Prop:=0<=n/\n<=10006
noncomputable def Sm.ok:Sm->Prop
 | .num n=>Wth n| .nam _=>True| .cell s=>s.ok| .two _ s t=>s.ok/\t.ok
theorem Sm.size_pos (s:Sm):1<=s.size:=by cases s<;>simp[Sm.size]
structure St where
 row:Nat
 names:List Int
 cells:List Int
 calls:List Nat
 asked:Nat
 said:List Int
noncomputable def aa (xs:List Int):List D:=xs.map D.int
noncomputable def af (xs:List Nat):List D:=xs.map λ(n:Nat)=>D.int (n:Int)
noncomputable def St.enc (s:St):D:=.tup [.int s.row,.tup (aa s.names),.tup (aa s.cells),.tup (af s.calls),.int s.asked,.tup (aa s.said)]
structure St.ok (s:St):Prop where
 nlen:s.names.length=6
 clen:s.cells.length=4
 nw:∀ x∈s.names,Wth x
 cw:∀ x∈s.cells,Wth x
noncomputable def two (o:Op) (x y:Int):Int:=match o with
 | .add=>(x+y) % 10007| .sub=>(x - y) % 10007| .mul=>(x*y) % 10007
 | .less=>if x < y then 1 else 0
noncomputable def Sm.val (st:St):Sm->Int
 | .num n=>n| .nam i=>st.names.getD i.ix 0| .cell s=>st.cells.getD (s.val st % 4).toNat 0| .two o s t=>BT.two o (s.val st) (t.val st)
theorem rP {xs:List Int} (h:∀ x∈xs,Wth x) (i:Nat):Wth (xs.getD i 0):=by
 rw[QI];cases e:xs[i]? with
 | none=>exact ⟨by decide,by decide⟩| some x=>exact h x (N9 e)
theorem JC (o:Op):Wth (BT.two o x y):=by cases o<;>simp only[BT.two,Wth];lia;lia;lia;split<;>decide
theorem Sm.qi {st:St} (ho:st.ok):∀ {s:Sm},s.ok->Wth (s.val st)
 | .num _,h=>h| .nam i,_=>rP ho.nw _| .cell _,_=>rP ho.cw _| .two _ _ _,_=>JC _
section
theorem vO (P:Prg T G) (k:Nat) (s:Sm) (h:HH):runN T G (k+1) "inner_sums" [.p s.enc] h=UA (.p (.tup (s.subs.map Sm.enc)),h):=by
 rw[run_eq P.inner_sums rfl];cases s with
 | two o s t =>
  have g:=P.INNER;have q:cG (Om o.w) [("num",.int 0),("name",.int 0),("cell",.int 1),("add",.int 2),("sub",.int 2),("mul",.int 2),("less",.int 2)]=UA (.int 2):=by cases o<;>simp[Op.w]
  generalize ([("num",.int 0),("name",.int 0),("cell",.int 1),("add",.int 2),("sub",.int 2),("mul",.int 2),("less",.int 2)]:List (Str×D))=I at *;simp[bP,g,q,Sm.enc,Sm.subs,aj]
 | _=>simp[bP,P.INNER,Sm.enc,Sm.subs,aj]
theorem rQ (P:Prg T G) (k:Nat) (o:Op) (hx:Wth x) (h:HH) :
 runN T G (k+1) "of_two" [.p (.str o.w),.p (.int x),.p (.int y)] h=UA (.p (.int (two o x y)),h):=by
 rw[run_eq P.of_two rfl];have b:big x=UC:=by unfold big;exact decide_eq_true (by have h1:=hx.1;have h2:=hx.2;lia)
 cases o<;>simp[gR,P.WORTH_COUNT,aj,Op.w,two,b]
 by_cases c:x < y<;>simp[c,aj]
noncomputable def mw:List D:=[.str "a",.str "b",.str "c",.str "d",.str "e",.str "f"]
theorem Cg (x:Nm):dg .mem (.str x.w) (.tup mw)=UA UC:=by cases x<;>simp[mw,Nm.w]
theorem ze (x:Nm):meD .tindex (.tup mw) [.str x.w]=UA (.int (x.ix:Int)):=by rw[xw];cases x<;>simp[mw,Nm.w,Nm.ix,fF]
theorem qj {i:Nat} (h:i < xs.length):aG (.tup (aa xs)) (.int (i:Int))=UA (.int (xs.getD i 0)):=by show atP _ _=_;unfold atP place aa;rw[if_pos (Int.natCast_nonneg _),if_pos (by rw[Oh];lia)];show (xs.map D.int)[((i:Int)).toNat]?=_;rw[Int.toNat_natCast,Ox,QI,N7 h];rfl
theorem mZ (st:St):aG st.enc (.int 1)=UA (.tup (aa st.names)):=rfl
theorem vP (st:St):aG st.enc (.int 2)=UA (.tup (aa st.cells)):=rfl
theorem qk (P:Prg T G) (k:Nat) (x:Nm) (h:HH):runN T G (k+1) "is_name" [.p (.str x.w)] h=UA (.p (.bl UC),h):=by rw[run_eq P.is_name rfl];have g:G "LETTERS"=UA (.p (.tup mw)):=P.LETTERS;have m:=Cg x;generalize mw=L at *;simp[-bz,fJ,g,m,aj]
theorem om (P:Prg T G) (k:Nat) (st:St) (ho:st.ok) (x:Nm) (h:HH):runN T G (k+2) "worth_in" [.p st.enc,.p (.str x.w)] h=UA (.p (.int (st.names.getD x.ix 0)),h):=by rw[run_eq P.worth_in rfl];have r:=qk P k x;have lx:=x.DY;have i1:=qj (xs:=st.names) (i:=x.ix) (by rw[ho.nlen];exact lx);have i2:=ze x;have i3:=mZ st;have g:G "LETTERS"=UA (.p (.tup mw)):=P.LETTERS;generalize mw=L at *;generalize st.enc=se at *;generalize aa st.names=sn at *;simp[-jy,eH,r,P.NAMES,g,i1,i2,i3,aj]
theorem gx (P:Prg T G) (k:Nat) (st:St) (ho:st.ok) (n:Nat) (h:HH) :
 (∀ i,runN T G (k+3) "worth_of" [.p (Sm.num i).enc,.r n,.p st.enc] h=UA (.p (.int i),h)) ∧
 (∀ i,runN T G (k+3) "worth_of" [.p (Sm.nam i).enc,.r n,.p st.enc] h=UA (.p (.int (st.names.getD i.ix 0)),h)):=by
 refine ⟨λi=>?_,λi=>?_⟩<;>rw[run_eq P.worth_of rfl];simp[bF,Sm.enc,aj]
 ·have r:=om P k st ho i;simp[bF,Sm.enc,aj,r]
theorem lC (P:Prg T G) (k:Nat) (st:St) (ho:st.ok) (n:Nat) (h:HH) (s:Sm) (ws:List D) (v:Int) (e:lat h n=UA (ws++[.int v])) (hv:0<=v) :
 runN T G (k+1) "worth_of" [.p (Sm.cell s).enc,.r n,.p st.enc] h=UA (.p (.int (st.cells.getD (v % 4).toNat 0)),h.set n (.l ws)):=by
 rw[run_eq P.worth_of rfl];have c:(((v % 4).toNat:Nat):Int)=v % 4:=by lia
 have i1:=qj (xs:=st.cells) (i:=(v % 4).toNat) (by rw[ho.clen];lia);rw[c] at i1;have i3:=vP st;generalize st.enc=se at *;generalize aa st.cells=sn at *;generalize st.cells.getD (v % 4).toNat 0=z at *;simp[bF,Sm.enc,P.CELLS,P.CELL_COUNT,e,i1,i3,tW]
theorem Op.other (o:Op):¬ o.w="num"/\¬ o.w="name"/\¬ o.w="cell":=by cases o<;>decide
theorem mz (P:Prg T G) (k:Nat) (st:St) (n:Nat) (h:HH) (o:Op) (s t:Sm) (ws:List D) (x y:Int) (hx:Wth x) (e:lat h n=UA (ws++[.int x,.int y])) :
 runN T G (k+2) "worth_of" [.p (Sm.two o s t).enc,.r n,.p st.enc] h=UA (.p (.int (two o x y)),h.set n (.l ws)):=by
 rw[run_eq P.worth_of rfl];have e3:lat (h.set n (.l (ws++[.int x]))) n=UA (ws++[.int x]):=Cf e _;have e1:(ws++[D.int x,D.int y]).getLast?=UA (.int y):=by simp
 have e2:(ws++[D.int x,D.int y]).dropLast=ws++[.int x]:=by simp
 have r:=λhh=>rQ P k o (x:=x) (y:=y) hx hh;obtain ⟨n1,n2,n3⟩:=o.other;have en:(Sm.two o s t).enc=.tup [.str o.w,s.enc,t.enc]:=rfl;rw[en];generalize o.w=ow at *;generalize s.enc=se at *;generalize t.enc=te at *;simp[bF,e,e1,e2,e3,n1,n2,n3,r,tW,TL]
noncomputable def loC:E:=.cmp .gt (.bi .len UD (Z9 (.var 2))) (.cst (.int 0))
noncomputable def loB:S:=.seq (.set 3 (.me .pop (.var 2) .nil)) (.seq (.ex (.me .append (.var 1) (Z9 (.var 3)))) (.ex (.me .extend (.var 2) (Z9 (.call "inner_sums" (Z9 (.var 3)))))))
noncomputable def sizes (l:List Sm):Nat:=(l.map Sm.size).sum
theorem rR (s:Sm) (l:List Sm):sizes (s.subs.reverse++l)+1=sizes (s::l):=by cases s<;>simp[sizes,Sm.subs,Sm.size]<;>lia
theorem zf (s:Sm) (l:List Sm):(s::l).flatMap Sm.lay=s::(s.subs.reverse++l).flatMap Sm.lay:=by cases s<;>simp[Sm.lay,Sm.subs,List.flatMap_cons]
theorem Ci (s:Sm):s.subs.length<=2:=by cases s<;>simp[Sm.subs]
theorem m6 (l:List Sm):l.length<=sizes l:=by
 induction l with
 | nil=>simp[sizes]
 | cons s l ih =>
  have h1:=s.size_pos;simp only[sizes,Oi,Td,Oq] at ih ⊢;lia
theorem Cj (P:Prg T G) (k:Nat) (h:HH) (t0:W):∀ (m:Nat) (stk:List Sm) (ps:List D) (x:Option W),sizes stk<=m->ps.length+sizes stk<=50000 →
 ∃ x',bE (ev (runN T G (k+1)) G loC) (evS (runN T G (k+1)) G loB) (m+1) [UA t0,UA (.r h.length),UA (.r (h.length+1)),x] (h++[.l ps,.l (stk.reverse.map Sm.enc)]) =
  UA (.nx [UA t0,UA (.r h.length),UA (.r (h.length+1)),x'] (h++[.l (ps++(stk.flatMap Sm.lay).map Sm.enc),.l []])):=by
 intro m
 induction m with
 | zero =>
  intro stk ps x hs _;have:stk=[]:=by have:=m6 stk;exact Si (by lia)
  subst this;exact ⟨x,by simp[bE,loC,rd]⟩
 | succ m ih =>
  intro stk ps x hs hl;cases stk with
  | nil=>exact ⟨x,by simp[bE,loC,rd]⟩
  | cons s l =>
   have e:=rR s l;obtain ⟨x',q⟩:=ih (s.subs.reverse++l) (ps++[s.enc]) (UA (.p s.enc)) (by lia) (by simp only[Oj,OX];lia);refine ⟨x',?_⟩;have r:=vO P k s;have l1:l.length+s.subs.length<=100000:=by
    have h1:=Ci s;have h2:=m6 l;have h3:sizes (s::l)=s.size+sizes l:=by simp[sizes]
    lia
   have c1:(0:Int) < (l.length:Int)+1:=by lia
   have l2:ps.length < 100000:=by lia
   have hc:ev (runN T G (k+1)) G loC [UA t0,UA (.r h.length),UA (.r (h.length+1)),x] (h++[.l ps,.l ((s::l).reverse.map Sm.enc)])=UA (.p (.bl UC),h++[.l ps,.l ((s::l).reverse.map Sm.enc)]):=by simp[loC,rd,c1]
   have hb:evS (runN T G (k+1)) G loB [UA t0,UA (.r h.length),UA (.r (h.length+1)),x] (h++[.l ps,.l ((s::l).reverse.map Sm.enc)]) =
    UA (.nx [UA t0,UA (.r h.length),UA (.r (h.length+1)),UA (.p s.enc)] (h++[.l (ps++[s.enc]),.l ((s.subs.reverse++l).reverse.map Sm.enc)])):=by
    simp[loB,r,l1,l2]
   rw[bE,hc,dJ,jB,hb,bD,q,zf,Oi,OY,Pn]
theorem lD:eB=⟨["term"],["term","parts","waiting","part"],.seq (.set 1 (.lst UC .nil))
 (.seq (.set 2 (.lst UC (.cons (.var 0) .nil))) (.seq (.whl loC loB) (.ret (.var 1))))⟩:=rfl
theorem oq (P:Prg T G) (k:Nat) (s:Sm) (hs:s.size<=40000) (h:HH):runN T G (k+2) "laid_out" [.p s.enc] h=UA (.p (.lst (s.lay.map Sm.enc)),h):=by rw[run_eq P.laid_out rfl];obtain ⟨x',q⟩:=Cj P k h (.p s.enc) 99999 [s] [] UB (by simp only[sizes,Oi,P8,Td,List.sum_nil];lia) (by simp only[sizes,Oi,P8,Td,List.sum_nil,O6];lia);simp only[List.flatMap_cons,List.flatMap_nil,OM,Qe,Q3,Oi,P8] at q;rw[lD];simp[turns,q,DX]
noncomputable def rkB:S:=.ex (.me .append (.var 2) (Z9 (.call "worth_of" (Z7 (.var 3) (.var 2) (.var 1)))))
theorem Ck (P:Prg T G) (k:Nat) (h:HH) (t0:W) (st:St) (ho:st.ok):∀ (s:Sm),s.ok->∀ (ws:List D) (rest:List D) (x:Option W),ws.length+s.size<=50000 →
 ∃ x',aJ (evS (runN T G (k+3)) G rkB) [(3,"part")] ((s.lay.map Sm.enc).reverse++rest) [UA t0,UA (.p st.enc),UA (.r h.length),x] (h++[.l ws]) =
  aJ (evS (runN T G (k+3)) G rkB) [(3,"part")] rest [UA t0,UA (.p st.enc),UA (.r h.length),x'] (h++[.l (ws++[.int (s.val st)])]):=by
 intro s
 induction s with
 | num n =>
  intro _ ws rest x hl;refine ⟨UA (.p (Sm.num n).enc),?_⟩;have r:=(gx P k st ho h.length (h++[.l ws])).1 n;have l:ws.length < 100000:=by simp only[Sm.size] at hl;lia
  have hb:evS (runN T G (k+3)) G rkB [UA t0,UA (.p st.enc),UA (.r h.length),UA (.p (Sm.num n).enc)] (h++[.l ws]) =
   UA (.nx [UA t0,UA (.p st.enc),UA (.r h.length),UA (.p (Sm.num n).enc)] (h++[.l (ws++[.int n])])):=by
   simp[rkB,r,l]
  simp only[Sm.lay,Oi,P8,Q3,Pn,Sm.val];simp[hb]
 | nam i =>
  intro _ ws rest x hl;refine ⟨UA (.p (Sm.nam i).enc),?_⟩;have r:=(gx P k st ho h.length (h++[.l ws])).2 i;have l:ws.length < 100000:=by simp only[Sm.size] at hl;lia
  have hb:evS (runN T G (k+3)) G rkB [UA t0,UA (.p st.enc),UA (.r h.length),UA (.p (Sm.nam i).enc)] (h++[.l ws]) =
   UA (.nx [UA t0,UA (.p st.enc),UA (.r h.length),UA (.p (Sm.nam i).enc)] (h++[.l (ws++[.int (st.names.getD i.ix 0)])])):=by
   simp[rkB,r,l]
  simp only[Sm.lay,Oi,P8,Q3,Pn,Sm.val];simp[hb]
 | cell s ih =>
  intro hok ws rest x hl;obtain ⟨x1,e1⟩:=ih hok ws ((Sm.cell s).enc::rest) x (by simp only[Sm.size] at hl;lia);refine ⟨UA (.p (Sm.cell s).enc),?_⟩;have r:=lC P (k+2) st ho h.length (h++[.l (ws++[.int (s.val st)])]) s ws (s.val st) (by simp) (Sm.qi (s:=s) ho hok).1;have l:ws.length < 100000:=by simp only[Sm.size] at hl;lia
  have hb:evS (runN T G (k+3)) G rkB [UA t0,UA (.p st.enc),UA (.r h.length),UA (.p (Sm.cell s).enc)] (h++[.l (ws++[.int (s.val st)])]) =
   UA (.nx [UA t0,UA (.p st.enc),UA (.r h.length),UA (.p (Sm.cell s).enc)] (h++[.l (ws++[.int ((Sm.cell s).val st)])])):=by
   simp[rkB,r,l,Sm.val]
  simp only[Sm.lay,Oi,QT,OY,Pn];rw[e1];simp[hb]
 | two o s t ihs iht =>
  intro hok ws rest x hl;have hl':=hl;simp only[Sm.size] at hl';obtain ⟨x1,e1⟩:=ihs hok.1 ws ((t.lay.map Sm.enc).reverse++((Sm.two o s t).enc::rest)) x (by lia);obtain ⟨x2,e2⟩:=iht hok.2 (ws++[.int (s.val st)]) ((Sm.two o s t).enc::rest) x1 (by simp only[Oj,OX];have:=s.size_pos;lia);refine ⟨UA (.p (Sm.two o s t).enc),?_⟩;have r:=mz P (k+1) st h.length (h++[.l (ws++[.int (s.val st),.int (t.val st)])]) o s t ws (s.val st) (t.val st) (Sm.qi ho hok.1) (by simp);have l:ws.length < 100000:=by lia
  have hb:evS (runN T G (k+3)) G rkB [UA t0,UA (.p st.enc),UA (.r h.length),UA (.p (Sm.two o s t).enc)] (h++[.l (ws++[.int (s.val st),.int (t.val st)])]) =
   UA (.nx [UA t0,UA (.p st.enc),UA (.r h.length),UA (.p (Sm.two o s t).enc)] (h++[.l (ws++[.int ((Sm.two o s t).val st)])])):=by
   simp[rkB,r,l,Sm.val]
  simp only[Sm.lay,Oi,Qf,QT,Uc,OY,Pn];rw[e1,e2];simp only[OY,Pn];simp[hb]
theorem lE:eN=⟨["term","state"],["term","state","worths","part"],.seq (.set 2 (.lst UC .nil))
 (.seq (.for [(3,"part")] .rev (.cons (.call "laid_out" (.cons (.var 0) .nil)) .nil) rkB) (.ret (.idx (.var 2) (.cst (.int 0)))))⟩:=rfl
theorem cz (P:Prg T G) (k:Nat) (s:Sm) (hs:s.size<=40000) (hok:s.ok) (st:St) (ho:st.ok) (h:HH) :
 runN T G (k+4) "reckoned" [.p s.enc,.p st.enc] h=UA (.p (.int (s.val st)),h):=by
 rw[run_eq P.reckoned rfl];obtain ⟨x',q⟩:=Ck P k h (.p s.enc) st ho s hok [] [] UB (by simp only[O6];lia);rw[lE];simp only[OM,Qe] at q;have r:=oq P (k+1) s hs;simp[r,fu,q,gw,rd]
end
section
variable {T:FK->Option Fn}{F:FK->List W->HH->Option (W×HH)}{G:Str->Option W}{i:Nat}{e e' c:E}{a b:S}{s s':Sl}{h g:HH}{w:W}{d d' z:D}
end
section
theorem gS (xs:List α) (i:Nat):atP xs (i:Int)=xs[i]?:=by
 unfold atP place
 by_cases h:i < xs.length
 ·have h1:((i:Int) < (xs.length:Int)):=by lia
  simp[h1,h]
 ·have h1:¬ ((i:Int) < (xs.length:Int)):=by lia
  simp[h1];lia
theorem gy (P:Prg T G) (k:Nat) (xs:List D) (i:Nat) (hi:i < xs.length) (hl:xs.length<=1000) (d:D) (h:HH) :
 runN T G (k+1) "with_worth" [.p (.tup xs),.p (.int i),.p d] h=UA (.p (.tup (xs.set i d)),h):=by
 rw[run_eq P.with_worth rfl];have a1:¬ ((i:Int) < 0):=by lia
 have a2:(i:Int)<=(xs.length:Int):=by lia
 have a3:¬ ((i:Int)+1 < 0):=by lia
 have a4:(i:Int)+1<=(xs.length:Int):=by lia
 have a5:((i:Int)+1).toNat=i+1:=by lia
 have a6:xs.length - (i+1)+(i+1)<=100000:=by lia
 have a7:i+1+(xs.length - (i+1))<=100000:=by lia
 have a8:min i xs.length=i:=by lia
 have a9:i+1<=100000:=by lia
 have e:xs.take i++d::xs.drop (i+1)=xs.set i d:=by rw[List.set_eq_take_append_cons_drop,if_pos hi]
 have b1:(xs.take i).length=i:=by simp;lia
 have b2:(xs.drop (i+1)).length=xs.length - (i+1):=by simp
 have b3:((xs.drop (i+1)).take (xs.length - (i+1)))=xs.drop (i+1):=by apply List.take_of_length_le;simp
 simp[cT,a1,a2,a3,a4,a5,a7,a8,a9,b3,e,aj]
@[simp] theorem ND (st:St):aG st.enc (.int 0)=UA (.int st.row):=rfl
@[simp] theorem NF (st:St):aG st.enc (.int 1)=UA (.tup (aa st.names)):=rfl
@[simp] theorem NG (st:St):aG st.enc (.int 2)=UA (.tup (aa st.cells)):=rfl
@[simp] theorem NH (st:St):aG st.enc (.int 3)=UA (.tup (af st.calls)):=rfl
@[simp] theorem NI (st:St):aG st.enc (.int 4)=UA (.int st.asked):=rfl
@[simp] theorem NJ (st:St):aG st.enc (.int 5)=UA (.tup (aa st.said)):=rfl
inductive Rw where
 | set (x:Nm) (s:Sm)|put (s t:Sm)|ask (x:Nm)|say (s:Sm)|jump (p:Nat)|unless (s:Sm) (p:Nat)|call (p:Nat)|back|stop
noncomputable def Rw.enc:Rw->D
 | .set x s=>.tup [.str "set",.str x.w,s.enc]| .put s t=>.tup [.str "put",s.enc,t.enc]| .ask x=>.tup [.str "ask",.str x.w]| .say s=>.tup [.str "say",s.enc]| .jump p=>.tup [.str "jump",.int p]| .unless s p=>.tup [.str "unless",s.enc,.int p]| .call p=>.tup [.str "call",.int p]| .back=>.tup [.str "back"]| .stop=>.tup [.str "stop"]
def oz (s:Sm):Prop:=s.ok/\s.size<=15
noncomputable def Rw.ok (n:Nat):Rw->Prop
 | .set _ s=>oz s| .put s t=>oz s/\oz t| .ask _=>True| .say s=>oz s| .jump p=>p<=n| .unless s p=>oz s/\p<=n| .call p=>p<=n| .back=>True| .stop=>True
noncomputable abbrev Pg:=List Rw
noncomputable def aQ (p:Pg):D:=.tup (p.map Rw.enc)
def Pg.ok (p:Pg):Prop:=∀ r∈p,r.ok p.length
noncomputable def Rw.next (asked:List Int) (st:St):Rw->St
 | .set x s=>{ st with row:=st.row+1,names:=st.names.set x.ix (s.val st) }| .put s t=>{ st with row:=st.row+1,cells:=st.cells.set (s.val st % 4).toNat (t.val st) }| .ask x=>{ st with row:=st.row+1,names:=st.names.set x.ix (asked.getD st.asked 0),asked:=st.asked+1 }| .say s=>{ st with row:=st.row+1,said:=st.said++[s.val st] }| .jump p=>{ st with row:=p }| .unless s p=>{ st with row:=if s.val st=0 then p else st.row+1 }| .call p=>{ st with row:=p,calls:=st.calls++[st.row+1] }| .back=>{ st with row:=st.calls.getLast?.getD 0,calls:=st.calls.dropLast }| .stop=>st
noncomputable def Rw.over (st:St):Rw->Bool
 | .back=>st.calls.length==0| .call _=>decide (6<=st.calls.length)| .stop=>UC| _=>UD
noncomputable def over (p:Pg) (st:St):Bool:=match p[st.row]? with
 | some r=>r.over st| none=>UC
noncomputable def step (p:Pg) (asked:List Int) (st:St):St:=match p[st.row]? with
 | some r=>r.next asked st
 | none=>st
noncomputable def St.zero:St:=⟨0,[0,0,0,0,0,0],[0,0,0,0],[],0,[]⟩
theorem Cn:St.zero.ok:=⟨rfl,rfl,by simp[St.zero,Wth],by simp[St.zero,Wth]⟩
noncomputable def sts (p:Pg) (asked:List Int):Nat->St->List St
 | 0,st=>[st]
 | n+1,st=>if over p st then [st] else st::sts p asked n (step p asked st)
theorem vQ (P:Prg T G) (k:Nat) (h:HH):runN T G (k+1) "begun" [] h=UA (.p St.zero.enc,h):=by rw[run_eq P.begun rfl];simp[jc,P.LETTERS,P.CELL_COUNT,aj,St.zero,St.enc,aa,af,rep,Oo,List.flatten]
theorem qm (P:Prg T G) (k:Nat) (asked:List Int) (n:Nat) (h:HH):runN T G (k+1) "brought" [.p (.lst (aa asked)),.p (.int n)] h=UA (.p (.int (asked.getD n 0)),h):=by
 rw[run_eq P.brought rfl]
 by_cases c:n < asked.length
 ·have c1:(n:Int) < (asked.length:Int):=by lia
  simp[dP,aa,c,c1,aj]
 ·have c1:¬ (n:Int) < (asked.length:Int):=by lia
  have e:asked[n]?=UB:=Od (by lia);simp[dP,aa,c1,aj,e]
theorem gZ (P:Prg T G) (k:Nat) (st:St) (ho:st.ok) (x:Nm) (d:Int) (h:HH) :
 runN T G (k+2) "with_name" [.p st.enc,.p (.str x.w),.p (.int d)] h=UA (.p (.tup (aa (st.names.set x.ix d))),h):=by
 rw[run_eq P.with_name rfl];have r:=λi=>gy P k (aa st.names) i;have l:(aa st.names).length=6:=by simp[aa,ho.nlen]
 have e:(aa st.names).set x.ix (.int d)=aa (st.names.set x.ix d):=by simp[aa,List.map_set]
 have q:=r x.ix (by rw[l];exact x.DY) (by lia) (.int d);rw[e] at q;have g:G "LETTERS"=UA (.p (.tup mw)):=P.LETTERS;have i2:=ze x;have i3:=mZ st;generalize mw=L at *;generalize st.enc=se at *;generalize hz:(x.ix:Int)=z at *;simp[dh,P.NAMES,g,i2,i3,aj,q]
theorem qo (P:Prg T G) (k:Nat) (s:Sm) (hs:oz s) (st:St) (ho:st.ok) (h:HH):runN T G (k+5) "cell_by" [.p s.enc,.p st.enc] h=UA (.p (.int (s.val st % 4)),h):=by rw[run_eq P.cell_by rfl];have q:=cz P k s (by have:=hs.2;lia) hs.1 st ho;simp[fK,q,P.CELL_COUNT,aj]
noncomputable def Rw.word:Rw->String
 | .set _ _=>"set" | .put _ _=>"put" | .ask _=>"ask" | .say _=>"say" | .jump _=>"jump" | .unless _ _=>"unless" | .call _=>"call" | .back=>"back" | .stop=>"stop"
theorem Rw.oA (r:Rw):aG r.enc (.int 0)=UA (.str r.word):=by cases r<;>rfl
noncomputable def plT:S:=(.seq (.ife (.or (.cmp .eq (.var 2) (.cst (.str "jump"))) (.cmp .eq (.var 2) (.cst (.str "call")))) (.ret (.idx (.var 0) (.cst (.int 1)))) .nil) (.seq (.ife (.cmp .eq (.var 2) (.cst (.str "back"))) (.ret (.idx (.idx (.var 1) (.glo "CALLS")) (.neg (.cst (.int 1))))) .nil) (.seq (.ife (.and (.cmp .eq (.var 2) (.cst (.str "unless"))) (.cmp .eq (.call "reckoned" (Z8 (.idx (.var 0) (.cst (.int 1))) (.var 1))) (.cst (.int 0)))) (.ret (.idx (.var 0) (.cst (.int 2)))) .nil) (.ret (.bin .add (.idx (.var 1) (.glo "ROW")) (.cst (.int 1)))))))
theorem qp:bS=⟨["row","state"],["row","state","word"],
 (.seq (.set 2 (.idx (.var 0) (.cst (.int 0)))) plT)⟩:=rfl
theorem Co (P:Prg T G) (F:FK->List W->HH->Option (W×HH)) (w0:W) (st:St) (h:HH) (v:String) (n1:¬ v="jump") (n2:¬ v="call") (n3:¬ v="back") (n4:¬ v="unless"):evS F G plT [UA w0,UA (.p st.enc),UA (.p (.str v))] h=UA (.rt (.p (.int ((st.row:Int)+1))) h):=by have i0:aG st.enc (.int 0)=UA (.int (st.row:Int)):=rfl;generalize st.enc=se at *;simp[plT,n1,n2,n3,n4,P.ROW,i0]
theorem DZ (F:FK->List W->HH->Option (W×HH)) (d:D) (w1:W) (h:HH) (v:String) (q:Int) (hv:v="jump"\/v="call") (i1:aG d (.int 1)=UA (.int q)):evS F G plT [UA (.p d),UA w1,UA (.p (.str v))] h=UA (.rt (.p (.int q)) h):=by rcases hv with rfl|rfl<;>simp[plT,i1]
theorem vR (P:Prg T G) (k:Nat) (n:Nat) (r:Rw) (hr:r.ok n) (st:St) (ho:st.ok) (asked:List Int) (hb:r.over st=UD) (h:HH) :
 runN T G (k+5) "place_behind" [.p r.enc,.p st.enc] h=UA (.p (.int (r.next asked st).row),h):=by
 have wa:=r.oA;have pre:runN T G (k+5) "place_behind" [.p r.enc,.p st.enc] h=j3 (evS (runN T G (k+4)) G plT [UA (.p r.enc),UA (.p st.enc),UA (.p (.str r.word))] h) (fin h):=by rw[run_eq P.place_behind rfl,qp];generalize r.enc=re at *;simp[wa]
 have ot:∀ q:Int,j3 (UA (.rt (.p (.int q)) h)) (fin h)=UA (.p (.int q),h):=λq=>by simp[aj]
 rw[pre];cases r with
 | «unless» s p =>
  have q:=cz P k s (by have:=hr.1.2;lia) hr.1.1 st ho;have i1:aG (Rw.unless s p).enc (.int 1)=UA s.enc:=rfl;have i2:aG (Rw.unless s p).enc (.int 2)=UA (.int (p:Int)):=rfl;have i0:aG st.enc (.int 0)=UA (.int (st.row:Int)):=rfl;generalize (Rw.unless s p).enc=re at *;generalize st.enc=se at *;generalize s.enc=sn at *
  by_cases c:s.val st=0<;>simp[plT,Rw.word,Rw.next,q,c,i0,i1,i2,aj,P.ROW]
 | back =>
  have c:st.calls≠[]:=by intro e;simp[Rw.over,e] at hb
  have:∃ l x,st.calls=l++[x]:=⟨st.calls.dropLast,st.calls.getLast c,(List.dropLast_concat_getLast c).symm⟩;obtain ⟨l,x,e⟩:=this;have i3:aG st.enc (.int 3)=UA (.tup (af st.calls)):=rfl;have ix:aG (.tup (af st.calls)) (.int (-1))=UA (.int (x:Int)):=by
   have e2:-((l.length:Int)+1)<=-1:=by lia
   have e3:(-1+((l.length:Int)+1)).toNat=l.length:=by lia
   simp[af,e,e2,e3]
  have nx:((Rw.back).next asked st).row=x:=by simp[Rw.next,e]
  rw[nx];generalize st.enc=se at *;generalize af st.calls=nl at *;simp[-jy,plT,Rw.word,P.CALLS,i3,ix,aj]
 | stop=>simp[Rw.over] at hb| jump p=>rw[Rw.word,DZ _ _ _ _ _ (p:Int) (.inl rfl) rfl,ot];rfl| call p=>rw[Rw.word,DZ _ _ _ _ _ (p:Int) (.inr rfl) rfl,ot];rfl| _=>rw[Rw.word,Co P _ _ _ _ _ (by decide) (by decide) (by decide) (by decide),ot];rfl
noncomputable def ovT:S:=(.seq (.ife (.cmp .eq (.var 2) (.cst (.str "back"))) (.ret (.cmp .eq (.bi .len UD (Z9 (.idx (.var 1) (.glo "CALLS")))) (.cst (.int 0)))) .nil) (.seq (.ife (.cmp .eq (.var 2) (.cst (.str "call"))) (.ret (.cmp .ge (.bi .len UD (Z9 (.idx (.var 1) (.glo "CALLS")))) (.glo "MOST_CALLS"))) .nil) (.ret (.cmp .eq (.var 2) (.cst (.str "stop"))))))
theorem mC:dO=⟨["program","state"],["program","state","word"],
 (.seq (.ife (.cmp .ge (.idx (.var 1) (.glo "ROW")) (.bi .len UD (.cons (.var 0) .nil))) (.ret (.cst (.bl UC))) .nil)
 (.seq (.set 2 (.idx (.idx (.var 0) (.idx (.var 1) (.glo "ROW"))) (.cst (.int 0))))
 ovT))⟩:=rfl
theorem Cq (F:FK->List W->HH->Option (W×HH)) (w0 w1:W) (h:HH) (v:String) (n1:¬ v="back") (n2:¬ v="call"):evS F G ovT [UA w0,UA w1,UA (.p (.str v))] h=UA (.rt (.p (.bl (decide (v="stop")))) h):=by
 by_cases c:v="stop"
 ·subst c;simp[ovT]
 ·skip
  simp[ovT,n1,n2,c]
theorem qt (P:Prg T G) (k:Nat) (p:Pg) (st:St) (h:HH):runN T G (k+1) "is_over" [.p (aQ p),.p st.enc] h=UA (.p (.bl (over p st)),h):=by
 have lp:biD .len [aQ p]=UA (.int p.length):=by simp[aQ]
 by_cases c:st.row < p.length
 ·have c1:¬ (p.length:Int)<=(st.row:Int):=by lia
  have c2:(st.row:Int) < (p.length:Int):=by lia
  have e:p[st.row]?=UA p[st.row]:=N7 c;have row:aG (aQ p) (.int st.row)=UA (p[st.row]).enc:=by simp[aQ,c2,e]
  have ov:over p st=(p[st.row]).over st:=by rw[over,e]
  rw[ov];generalize p[st.row]=r at row ⊢;have wa:=r.oA;have pre:runN T G (k+1) "is_over" [.p (aQ p),.p st.enc] h=j3 (evS (runN T G k) G ovT [UA (.p (aQ p)),UA (.p st.enc),UA (.p (.str r.word))] h) (fin h):=by rw[run_eq P.is_over rfl,mC];generalize r.enc=re at row wa;simp[lp,row,wa,P.ROW,c1]
  rw[pre];have ln:biD .len [.tup (af st.calls)]=UA (.int (st.calls.length:Int)):=by simp[af]
  have i3:aG st.enc (.int 3)=UA (.tup (af st.calls)):=rfl;cases r with
  | back =>
   have ee:(((st.calls.length:Nat):Int)==0)=(st.calls.length==0):=by
    cases st.calls with
    | nil=>rfl| cons a l=>rw[beq_eq_false_iff_ne.mpr (by simp only[Oq];lia)];rfl
   simp[-jz,ovT,Rw.word,P.CALLS,i3,ln,ee,aj,Rw.over]
  | call q =>
   have ee:decide ((6:Int)<=(st.calls.length:Int))=decide (6<=st.calls.length):=decide_eq_decide.mpr (by lia);simp[-jz,ovT,Rw.word,P.CALLS,P.MOST_CALLS,i3,ln,ee,aj,Rw.over]
  | _ =>
   rw[Rw.word,Cq _ _ _ _ _ (by decide) (by decide)];simp[aj,Rw.over]
 ·have c1:(p.length:Int)<=(st.row:Int):=by lia
  have e:p[st.row]?=UB:=Od (by lia);rw[run_eq P.is_over rfl];simp[dO,lp,P.ROW,c1,aj,over,e]
theorem ints_set (xs:List Int) (i:Nat) (v:Int):(aa xs).set i (.int v)=aa (xs.set i v):=by simp[aa,List.map_set]
theorem gA (xs:List Int):(aa xs).length=xs.length:=by simp[aa]
theorem ints_snoc (xs:List Int) (v:Int):aa xs++[.int v]=aa (xs++[v]):=by simp[aa]
theorem vS (xs:List Nat) (v:Nat):af xs++[.int (v:Int)]=af (xs++[v]):=by simp[af]
theorem zg (xs:List Nat):cut (af xs) UB (UA (-1))=af xs.dropLast:=by
 have e:(-1+(xs.length:Int)).toNat=xs.length - 1:=by lia
 simp[cut,clip,af,e,List.dropLast_eq_take]
structure St.small (st:St):Prop where
 sl:st.said.length<=5000
 cl:st.calls.length<=5000
noncomputable def encL (st:St):List D:=[.int st.row,.tup (aa st.names),.tup (aa st.cells),.tup (af st.calls),.int st.asked,.tup (aa st.said)]
theorem zh (st:St):biD .list [st.enc]=UA (.lst (encL st)):=rfl
noncomputable def Gu:S:=(.put 5 (.glo "CALLS") (.slc (.idx (.var 2) (.glo "CALLS")) .nil (Z9 (.neg (.cst (.int 1))))))
noncomputable def Gv:S:=(.ife (.cmp .eq (.var 4) (.cst (.str "back"))) Gu .nil)
noncomputable def Gw:S:=(.put 5 (.glo "CALLS") (.bin .add (.idx (.var 2) (.glo "CALLS")) (.tup (Z9 (.bin .add (.idx (.var 2) (.glo "ROW")) (.cst (.int 1)))))))
noncomputable def Cr:S:=(.ife (.cmp .eq (.var 4) (.cst (.str "call"))) Gw Gv)
noncomputable def Gx:S:=(.put 5 (.glo "SAID") (.bin .add (.idx (.var 2) (.glo "SAID")) (.tup (Z9 (.call "reckoned" (Z8 (.idx (.var 3) (.cst (.int 1))) (.var 2)))))))
noncomputable def zj:S:=(.ife (.cmp .eq (.var 4) (.cst (.str "say"))) Gx Cr)
noncomputable def Gy:S:=(.seq (.put 5 (.glo "NAMES") (.call "with_name" (Z7 (.var 2) (.idx (.var 3) (.cst (.int 1))) (.call "brought" (Z8 (.var 1) (.idx (.var 2) (.glo "ASKED"))))))) (.put 5 (.glo "ASKED") (.bin .add (.idx (.var 2) (.glo "ASKED")) (.cst (.int 1)))))
noncomputable def vU:S:=(.ife (.cmp .eq (.var 4) (.cst (.str "ask"))) Gy zj)
noncomputable def Gz:S:=(.put 5 (.glo "CELLS") (.call "with_worth" (Z7 (.idx (.var 2) (.glo "CELLS")) (.call "cell_by" (Z8 (.idx (.var 3) (.cst (.int 1))) (.var 2))) (.call "reckoned" (Z8 (.idx (.var 3) (.cst (.int 2))) (.var 2))))))
noncomputable def rS:S:=(.ife (.cmp .eq (.var 4) (.cst (.str "put"))) Gz vU)
noncomputable def GA:S:=(.put 5 (.glo "NAMES") (.call "with_name" (Z7 (.var 2) (.idx (.var 3) (.cst (.int 1))) (.call "reckoned" (Z8 (.idx (.var 3) (.cst (.int 2))) (.var 2))))))
noncomputable def iH:S:=(.ife (.cmp .eq (.var 4) (.cst (.str "set"))) GA rS)
noncomputable def GB:S:=(.seq iH (.ret (.bi .tuple UD (Z9 (.var 5)))))
theorem mD:fL=⟨["program","asked","state"],["program","asked","state","row","word","behind"],
 (.seq (.set 3 (.idx (.var 0) (.idx (.var 2) (.glo "ROW"))))
 (.seq (.set 4 (.idx (.var 3) (.cst (.int 0))))
 (.seq (.set 5 (.bi .list UC (.cons (.var 2) .nil)))
 (.seq (.put 5 (.glo "ROW") (.call "place_behind" (.cons (.var 3) (.cons (.var 2) .nil))))
 GB))))⟩:=rfl
theorem GC (F:FK->List W->HH->Option (W×HH)) (A B:S) (s:Sl) (h:HH):evS F G (.seq A B) s h=jT (evS F G A s h) (evS F G B):=by rw[evS]
theorem pick (F:FK->List W->HH->Option (W×HH)) (w0 w1 w2 w3:W) (v w:String) (rest:Sl) (h:HH) (A B:S):evS F G (.ife (.cmp .eq (.var 4) (.cst (.str w))) A B) (UA w0::UA w1::UA w2::UA w3::UA (.p (.str v))::rest) h=if v=w then evS F G A (UA w0::UA w1::UA w2::UA w3::UA (.p (.str v))::rest) h else evS F G B (UA w0::UA w1::UA w2::UA w3::UA (.p (.str v))::rest) h:=by
 have e:eqv (.str v) (.str w)=decide (v=w):=by
  by_cases c:v=w
  rw[decide_eq_true c,c];simp
  ·rw[decide_eq_false c];have:¬ Om v=Om w:=λz=>c (by simpa using z);simp[this,c]
 by_cases c:v=w
 ·rw[decide_eq_true c] at e;rw[if_pos c];simp[-eqv,e]
 ·rw[decide_eq_false c] at e;rw[if_neg c];simp[-eqv,e]
theorem to0 (F:FK->List W->HH->Option (W×HH)) (w0 w1 w2 w3:W) (rest:Sl) (h:HH):evS F G iH (UA w0::UA w1::UA w2::UA w3::UA (.p (.str "set"))::rest) h=evS F G GA (UA w0::UA w1::UA w2::UA w3::UA (.p (.str "set"))::rest) h:=by rw[iH,pick,if_pos rfl]
theorem to1 (F:FK->List W->HH->Option (W×HH)) (w0 w1 w2 w3:W) (rest:Sl) (h:HH):evS F G iH (UA w0::UA w1::UA w2::UA w3::UA (.p (.str "put"))::rest) h=evS F G Gz (UA w0::UA w1::UA w2::UA w3::UA (.p (.str "put"))::rest) h:=by rw[iH,pick,if_neg (by decide),rS,pick,if_pos rfl]
theorem to2 (F:FK->List W->HH->Option (W×HH)) (w0 w1 w2 w3:W) (rest:Sl) (h:HH):evS F G iH (UA w0::UA w1::UA w2::UA w3::UA (.p (.str "ask"))::rest) h=evS F G Gy (UA w0::UA w1::UA w2::UA w3::UA (.p (.str "ask"))::rest) h:=by rw[iH,pick,if_neg (by decide),rS,pick,if_neg (by decide),vU,pick,if_pos rfl]
theorem to3 (F:FK->List W->HH->Option (W×HH)) (w0 w1 w2 w3:W) (rest:Sl) (h:HH):evS F G iH (UA w0::UA w1::UA w2::UA w3::UA (.p (.str "say"))::rest) h=evS F G Gx (UA w0::UA w1::UA w2::UA w3::UA (.p (.str "say"))::rest) h:=by rw[iH,pick,if_neg (by decide),rS,pick,if_neg (by decide),vU,pick,if_neg (by decide),zj,pick,if_pos rfl]
theorem to4 (F:FK->List W->HH->Option (W×HH)) (w0 w1 w2 w3:W) (rest:Sl) (h:HH):evS F G iH (UA w0::UA w1::UA w2::UA w3::UA (.p (.str "call"))::rest) h=evS F G Gw (UA w0::UA w1::UA w2::UA w3::UA (.p (.str "call"))::rest) h:=by rw[iH,pick,if_neg (by decide),rS,pick,if_neg (by decide),vU,pick,if_neg (by decide),zj,pick,if_neg (by decide),Cr,pick,if_pos rfl]
theorem to5 (F:FK->List W->HH->Option (W×HH)) (w0 w1 w2 w3:W) (rest:Sl) (h:HH):evS F G iH (UA w0::UA w1::UA w2::UA w3::UA (.p (.str "back"))::rest) h=evS F G Gu (UA w0::UA w1::UA w2::UA w3::UA (.p (.str "back"))::rest) h:=by rw[iH,pick,if_neg (by decide),rS,pick,if_neg (by decide),vU,pick,if_neg (by decide),zj,pick,if_neg (by decide),Cr,pick,if_neg (by decide),Gv,pick,if_pos rfl]
theorem toN (F:FK->List W->HH->Option (W×HH)) (w0 w1 w2 w3:W) (rest:Sl) (h:HH) (v:String) (hv:v∉["set","put","ask","say","call","back"]):evS F G iH (UA w0::UA w1::UA w2::UA w3::UA (.p (.str v))::rest) h=UA (.nx (UA w0::UA w1::UA w2::UA w3::UA (.p (.str v))::rest) h):=by simp only[PV,Pj,or_false,not_or] at hv;obtain ⟨n1,n2,n3,n4,n5,n6⟩:=hv;rw[iH,pick,if_neg n1,rS,pick,if_neg n2,vU,pick,if_neg n3,zj,pick,if_neg n4,Cr,pick,if_neg n5,Gv,pick,if_neg n6];rfl
theorem qu (P:Prg T G) (k:Nat) (p:Pg) (hp:Pg.ok p) (asked:List Int) (st:St) (ho:st.ok) (hs:st.small) (hb:over p st=UD) (h:HH) :
 runN T G (k+6) "stepped" [.p (aQ p),.p (.lst (aa asked)),.p st.enc] h=UA (.p (step p asked st).enc,h):=by
 have c:st.row < p.length:=by
  rcases Os st.row p.length with q|q
  exact q;rw[over,Od q] at hb;cases hb
 have e:p[st.row]?=UA p[st.row]:=N7 c;have c2:(st.row:Int) < (p.length:Int):=by lia
 have hr:=hp _ (Sh c);have hb':(p[st.row]).over st=UD:=by rw[over,e] at hb;exact hb
 have pl:=vR P k p.length p[st.row] hr st ho asked hb';rw[step,e];have l1:=hs.sl;have l2:=hs.cl
 revert pl hr hb'
 generalize p[st.row]=r at *;intro hr hb' pl;have row:aG (aQ p) (.int st.row)=UA r.enc:=by simp[aQ,c2,e]
 have pre:runN T G (k+6) "stepped" [.p (aQ p),.p (.lst (aa asked)),.p st.enc] h =
  j3 (evS (runN T G (k+5)) G GB [UA (.p (aQ p)),UA (.p (.lst (aa asked))),UA (.p st.enc),UA (.p r.enc),UA (.p (.str r.word)),UA (.r h.length)] (h++[.l [.int (r.next asked st).row,.tup (aa st.names),.tup (aa st.cells),.tup (af st.calls),.int st.asked,.tup (aa st.said)]])) (fin h):=by
  rw[run_eq P.stepped rfl,mD];simp[row,r.oA,P.ROW,zh,encL,pl]
 rw[pre,GB,GC];cases r with
 | set x s =>
  have q:=cz P (k+1) s (by have:=hr.2;lia) hr.1 st ho;have w:=gZ P (k+3) st ho x (s.val st);simp only[Rw.enc,Rw.next,Rw.word,to0];simp[GA,P.ROW,P.NAMES,q,w,rd,gw,Rw.next];simp[St.enc]
 | put s t =>
  have q:=qo P k s hr.1 st ho;have q2:=cz P (k+1) t (by have:=hr.2.2;lia) hr.2.1 st ho;have v:=Sm.qi (s:=s) ho hr.1.1;have hi:(s.val st % 4).toNat < (aa st.cells).length:=by rw[gA,ho.clen];lia
  have w:=gy P (k+4) (aa st.cells) (s.val st % 4).toNat hi (by rw[gA,ho.clen];lia) (.int (t.val st));have e3:(((s.val st % 4).toNat:Nat):Int)=s.val st % 4:=by lia
  rw[e3,ints_set] at w;simp only[Rw.enc,Rw.next,Rw.word,to1];simp[Gz,P.ROW,P.CELLS,q,q2,w,rd,gw,Rw.next];simp[St.enc]
 | ask x =>
  have b:=qm P (k+4) asked st.asked;have w:=gZ P (k+3) st ho x (asked.getD st.asked 0);simp only[Rw.enc,Rw.next,Rw.word,to2];simp only[QI] at b w ⊢;simp[Gy,P.ROW,P.NAMES,P.ASKED,b,w,rd,gw,Rw.next];simp[St.enc]
 | say s =>
  have q:=cz P (k+1) s (by have:=hr.2;lia) hr.1 st ho;simp only[Rw.enc,Rw.next,Rw.word,to3];have l3:(aa st.said).length+1<=100000:=by rw[gA];lia
  simp[Gx,P.ROW,P.SAID,q,rd,gw,Rw.next,l3,ints_snoc];simp[St.enc]
 | call q =>
  simp only[Rw.enc,Rw.next,Rw.word,to4];have l3:(af st.calls).length+1<=100000:=by simp[af];lia
  have e4:af st.calls++[.int ((st.row:Int)+1)]=af (st.calls++[st.row+1]):=by rw[← vS];simp
  simp[Gw,P.ROW,P.CALLS,rd,gw,Rw.next,l3,e4];simp[St.enc]
 | back =>
  simp only[Rw.enc,Rw.next,Rw.word,to5];have e4:=zg st.calls;have e5:rf (.tup (af st.calls)) UB (UA (-1))=UA (.tup (af st.calls.dropLast)):=by rw[xA,e4]
  simp[-xA,Gu,P.ROW,P.CALLS,rd,gw,Rw.next,e5];simp[St.enc]
 | stop=>simp[Rw.over] at hb'
 | _ =>
  simp only[Rw.enc,Rw.next,Rw.word];rw[toN _ _ _ _ _ _ _ _ (by decide)];simp[P.ROW,rd,gw,Rw.next];simp[St.enc]
end
def Ask (asked:List Int):Prop:=∀ x∈asked,Wth x
theorem zk {xs:List Int}{i:Nat}{v:Int} (h:∀ x∈xs,Wth x) (hv:Wth v):∀ x∈xs.set i v,Wth x:=λx hx=>by
 rcases List.mem_or_eq_of_mem_set hx with q|q
 exact h x q;rw[q];exact hv
structure At (n:Nat) (st:St):Prop where
 ok:st.ok
 said:st.said.length<=n
 calls:st.calls.length<=6
theorem At.small {st:St} (a:At n st) (h:n<=5000):st.small:=⟨by have:=a.said;lia,by have:=a.calls;lia⟩
theorem Cs:At 0 St.zero:=⟨Cn,N3 _,by decide⟩
theorem Ct {n:Nat}{p:Pg}{asked:List Int}{st:St} (hp:Pg.ok p) (ha:Ask asked) (a:At n st) (hb:over p st=UD):At (n+1) (step p asked st):=by
 have c:st.row < p.length:=by
  rcases Os st.row p.length with q|q
  exact q;rw[over,Od q] at hb;cases hb
 have e:p[st.row]?=UA p[st.row]:=N7 c;have hr:=hp _ (Sh c);have hb':(p[st.row]).over st=UD:=by rw[over,e] at hb;exact hb
 rw[step,e];dsimp only
 revert hr hb'
 generalize p[st.row]=r;intro hr hb';obtain ⟨ok,sd,cl⟩:=a;cases r with
 | set x s=>exact ⟨⟨by simp[Rw.next,ok.nlen],ok.clen,zk ok.nw (Sm.qi ok hr.1),ok.cw⟩,by simp[Rw.next];lia,cl⟩| put s t=>exact ⟨⟨ok.nlen,by simp[Rw.next,ok.clen],ok.nw,zk ok.cw (Sm.qi ok hr.2.1)⟩,by simp[Rw.next];lia,cl⟩| ask x=>exact ⟨⟨by simp[Rw.next,ok.nlen],ok.clen,zk ok.nw (rP ha _),ok.cw⟩,by simp[Rw.next];lia,cl⟩| say s=>exact ⟨⟨ok.nlen,ok.clen,ok.nw,ok.cw⟩,by simp[Rw.next];lia,cl⟩
 | call q =>
  simp[Rw.over] at hb';exact ⟨⟨ok.nlen,ok.clen,ok.nw,ok.cw⟩,by simp[Rw.next];lia,by simp[Rw.next];lia⟩
 | back=>exact ⟨⟨ok.nlen,ok.clen,ok.nw,ok.cw⟩,by simp[Rw.next];lia,by simp[Rw.next];lia⟩| stop=>simp[Rw.over] at hb'| _=>exact ⟨⟨ok.nlen,ok.clen,ok.nw,ok.cw⟩,by simp[Rw.next];lia,cl⟩
section
end
noncomputable def c5:Fn:=⟨["_law_script","_law_k"],["_law_script","_law_k"], (.seq (.ife (.cmp .eq (.var 0) (.lst UD .nil)) (.ret (.bin .mul (.cst (.int 7)) (.var 1))) .nil) (.ret (.bin .add (.idx (.var 0) (.bin .mod (.var 1) (.bi .len UD (Z9 (.var 0))))) (.bin .mul (.cst (.int 6553)) (.bin .fdiv (.var 1) (.bi .len UD (Z9 (.var 0))))))))⟩
noncomputable def dj:Fn:=⟨["_law_script","_law_k","_law_many"],["_law_script","_law_k","_law_many","_law_cell_here"], (.seq (.set 3 (.bin .mod (.bin .add (.bin .mul (.bin .mod (.call "_law_cell" (Z8 (.var 0) (.var 1))) (.cst (.int 2147483563))) (.cst (.int 69069))) (.bin .mul (.cst (.int 104723)) (.bin .add (.var 1) (.cst (.int 1))))) (.cst (.int 2147483563)))) (.seq (.set 3 (.bin .mod (.bin .add (.bin .mul (.var 3) (.var 3)) (.bin .fdiv (.var 3) (.cst (.int 3)))) (.cst (.int 2147483399)))) (.ret (.bin .mod (.bin .fdiv (.bin .mod (.bin .add (.bin .mul (.var 3) (.var 3)) (.bin .fdiv (.var 3) (.cst (.int 7)))) (.cst (.int 2147483647))) (.cst (.int 11))) (.var 2)))))⟩
noncomputable def smL:S:=(.seq (.ife (.cmp .eq (.call "_law_drawn" (Z7 (.var 0) (.bin .add (.var 1) (.cst (.int 1))) (.cst (.int 2)))) (.cst (.int 0))) (.ret (.tup (Z8 (.cst (.str "num")) (.idx (.lst UD (Z4 (.cst (.int 0)) (.cst (.int 1)) (.cst (.int 2)) (.cst (.int 3)) (.cst (.int 10)) (.cst (.int 10006)))) (.call "_law_drawn" (Z7 (.var 0) (.bin .add (.var 1) (.cst (.int 2))) (.cst (.int 6)))))))) .nil) (.ret (.tup (Z8 (.cst (.str "name")) (.idx (.cst (.str "abcf")) (.call "_law_drawn" (Z7 (.var 0) (.bin .add (.var 1) (.cst (.int 2))) (.cst (.int 4)))))))))
noncomputable def smR:S:=(.seq (.set 4 (.call "_law_sum" (Z7 (.var 0) (.bin .add (.bin .mul (.var 1) (.cst (.int 2))) (.cst (.int 5))) (.bin .sub (.var 2) (.cst (.int 1)))))) (.seq (.ife (.cmp .lt (.var 3) (.cst (.int 6))) (.ret (.tup (Z8 (.cst (.str "cell")) (.var 4)))) .nil) (.ret (.tup (Z7 (.idx (.lst UD (Z6 (.cst (.str "add")) (.cst (.str "sub")) (.cst (.str "mul")) (.cst (.str "less")))) (.bin .sub (.var 3) (.cst (.int 6)))) (.var 4) (.call "_law_sum" (Z7 (.var 0) (.bin .add (.bin .mul (.var 1) (.cst (.int 2))) (.cst (.int 19))) (.bin .sub (.var 2) (.cst (.int 1))))))))))
noncomputable def bX:Fn:=⟨["_law_script","_law_at","_law_deep"],["_law_script","_law_at","_law_deep","_law_way","_law_one"], (.seq (.set 3 (.call "_law_drawn" (Z7 (.var 0) (.var 1) (.cst (.int 10))))) (.seq (.ife (.or (.cmp .eq (.var 2) (.cst (.int 0))) (.cmp .lt (.var 3) (.cst (.int 4)))) smL .nil) smR))⟩
noncomputable def fM:Fn:=⟨["_law_script","_law_at","_law_size"],["_law_script","_law_at","_law_size","_law_way","_law_place","_law_name","_law_one"], (.seq (.set 3 (.call "_law_drawn" (Z7 (.var 0) (.var 1) (.cst (.int 16))))) (.seq (.set 4 (.call "_law_drawn" (Z7 (.var 0) (.bin .add (.var 1) (.cst (.int 1))) (.bin .add (.var 2) (.cst (.int 1)))))) (.seq (.set 5 (.idx (.cst (.str "abc")) (.call "_law_drawn" (Z7 (.var 0) (.bin .add (.var 1) (.cst (.int 2))) (.cst (.int 3)))))) (.seq (.set 6 (.call "_law_sum" (Z7 (.var 0) (.bin .add (.var 1) (.cst (.int 3))) (.cst (.int 2))))) (.seq (.ife (.cmp .lt (.var 3) (.cst (.int 5))) (.ret (.tup (Z7 (.cst (.str "set")) (.var 5) (.var 6)))) .nil) (.seq (.ife (.cmp .lt (.var 3) (.cst (.int 7))) (.ret (.tup (Z7 (.cst (.str "put")) (.call "_law_sum" (Z7 (.var 0) (.bin .add (.var 1) (.cst (.int 9))) (.cst (.int 1)))) (.var 6)))) .nil) (.seq (.ife (.cmp .lt (.var 3) (.cst (.int 9))) (.ret (.idx (.lst UD (Z8 (.tup (Z8 (.cst (.str "ask")) (.var 5))) (.tup (Z8 (.cst (.str "say")) (.var 6))))) (.bin .sub (.var 3) (.cst (.int 7))))) .nil) (.seq (.ife (.cmp .lt (.var 3) (.cst (.int 12))) (.ret (.idx (.lst UD (Z7 (.tup (Z8 (.cst (.str "jump")) (.var 4))) (.tup (Z7 (.cst (.str "unless")) (.var 6) (.var 4))) (.tup (Z7 (.cst (.str "unless")) (.tup (Z8 (.cst (.str "name")) (.var 5))) (.var 4))))) (.bin .sub (.var 3) (.cst (.int 9))))) .nil) (.ret (.idx (.lst UD (Z6 (.tup (Z8 (.cst (.str "call")) (.var 4))) (.tup (Z8 (.cst (.str "call")) (.var 4))) (.tup (Z9 (.cst (.str "back")))) (.idx (.lst UD (Z8 (.tup (Z9 (.cst (.str "stop")))) (.tup (Z9 (.cst (.str "back")))))) (.bin .mod (.var 4) (.cst (.int 2)))))) (.bin .sub (.var 3) (.cst (.int 12)))))))))))))⟩
noncomputable def aZ:Fn:=⟨["_law_script","_law_at"],["_law_script","_law_at","_law_size","_law_put","_law_sign","_law_rows"], (.seq (.set 2 (.bin .add (.cst (.int 1)) (.call "_law_drawn" (Z7 (.var 0) (.var 1) (.cst (.int 9)))))) (.seq (.ife (.cmp .eq (.call "_law_drawn" (Z7 (.var 0) (.bin .add (.var 1) (.cst (.int 1))) (.cst (.int 4)))) (.cst (.int 0))) (.seq (.set 3 (.tup (Z7 (.cst (.str "put")) (.tup (Z8 (.cst (.str "name")) (.cst (.str "a")))) (.tup (Z8 (.cst (.str "num")) (.call "_law_drawn" (Z7 (.var 0) (.bin .add (.var 1) (.cst (.int 2))) (.cst (.int 9))))))))) (.seq (.set 4 (.idx (.lst UD (Z8 (.cst (.str "add")) (.cst (.str "sub")))) (.call "_law_drawn" (Z7 (.var 0) (.bin .add (.var 1) (.cst (.int 3))) (.cst (.int 2)))))) (.seq (.set 5 (.tup (Z5 (.tup (Z8 (.cst (.str "ask")) (.cst (.str "a")))) (.tup (Z8 (.cst (.str "call")) (.cst (.int 4)))) (.tup (Z8 (.cst (.str "say")) (.tup (Z8 (.cst (.str "name")) (.cst (.str "a")))))) (.tup (Z8 (.cst (.str "jump")) (.cst (.int 0)))) (.var 3)))) (.ret (.bin .add (.var 5) (.tup (Z6 (.tup (Z8 (.cst (.str "call")) (.cst (.int 7)))) (.tup (Z9 (.cst (.str "back")))) (.tup (Z7 (.cst (.str "set")) (.cst (.str "b")) (.tup (Z7 (.var 4) (.tup (Z8 (.cst (.str "name")) (.cst (.str "b")))) (.tup (Z8 (.cst (.str "name")) (.cst (.str "a")))))))) (.tup (Z9 (.cst (.str "back"))))))))))) .nil) (.ret (.bi .tuple UD (Z9 (.comp UD .rng1 (Z9 (.var 2)) ["_law_k"] [(0,"_law_script"),(1,"_law_at"),(2,"_law_size")] .nil (.call "_law_row" (Z7 (.var 1) (.bin .add (.bin .add (.var 2) (.cst (.int 10))) (.bin .mul (.cst (.int 40)) (.var 0))) (.var 3)))))))))⟩
noncomputable def dw:Fn:=⟨["_law_script","_law_at"],["_law_script","_law_at"], (.ret (.comp UD .rng1 (Z9 (.call "_law_drawn" (Z7 (.var 0) (.var 1) (.cst (.int 4))))) ["_law_k"] [(0,"_law_script"),(1,"_law_at")] .nil (.idx (.lst UD (Z6 (.cst (.int 0)) (.cst (.int 1)) (.cst (.int 5)) (.cst (.int 10006)))) (.call "_law_drawn" (Z7 (.var 1) (.bin .add (.bin .add (.var 2) (.cst (.int 1))) (.var 0)) (.cst (.int 4)))))))⟩
structure Lw (T:FK->Option Fn):Prop where
 cell:T "_law_cell"=UA c5
 drawn:T "_law_drawn"=UA dj
 sum:T "_law_sum"=UA bX
 row:T "_law_row"=UA fM
 asked:T "_law_asked"=UA dw
noncomputable def tX (ns:List Int) (k:Int):Int:=if ns=[] then 7*k else ns.getD (k % ns.length).toNat 0+6553*(k / ns.length)
noncomputable def drw (ns:List Int) (k many:Int):Int :=
 let a:=(tX ns k % 2147483563*69069+104723*(k+1)) % 2147483563
 let b:=(a*a+a / 3) % 2147483399
 (b*b+b / 7) % 2147483647 / 11 % many
theorem bY (ns:List Int) (k:Int) (h:0 < many):0<=drw ns k many:=Int.emod_nonneg _ (by lia)
theorem bZ (ns:List Int) (k:Int) (h:0 < many):drw ns k many < many:=Int.emod_lt_of_pos _ h
theorem m7 (h0:0<=i) (h1:i < 18446744073709551616):big i=UC:=by unfold big;exact decide_eq_true (by lia)
section
theorem Cu (ns:List Int):eqv (.lst (aa ns)) (.lst [])=decide (ns=[]):=by cases ns<;>simp[aa]
theorem zl (L:Lw T) (m:Nat) (ns:List Int) (hl:ns.length<=1000) (k:Int) (h:HH):runN T G (m+1) "_law_cell" [.p (.lst (aa ns)),.p (.int k)] h=UA (.p (.int (tX ns k)),h):=by
 rw[run_eq L.cell rfl]
 by_cases c:ns=[]
 ·subst c;simp[c5,aa,tX,big,aj]
 ·have n0:0 < ns.length:=List.length_pos_iff.mpr c;have q:eqv (.lst (aa ns)) (.lst [])=UD:=by rw[Cu];exact decide_eq_false c
  have p1:(0:Int) < (ns.length:Int):=by lia
  have p2:(ns.length:Int) < 1073741824:=by lia
  have m1:=Int.emod_nonneg k (b:=(ns.length:Int)) (by lia);have m2:=Int.emod_lt_of_pos k p1;have i1:(k % (ns.length:Int)).toNat < ns.length:=by lia
  have n2:ns.length < 1073741824:=by lia
  simp[c5,-eqv,q,gA,p1,p2,n0,n2,m1,m2,big,aj,tX,c];simp[aa,i1,aj,n0,n2,m1,m2,big,p1,p2]
theorem cg (L:Lw T) (m:Nat) (ns:List Int) (hl:ns.length<=1000) (k many:Int) (hm:0 < many) (h:HH) :
 runN T G (m+2) "_law_drawn" [.p (.lst (aa ns)),.p (.int k),.p (.int many)] h=UA (.p (.int (drw ns k many)),h):=by
 rw[run_eq L.drawn rfl];have r:=zl (G:=G) L m ns hl k;have b0:big 69069=UC:=by decide
 have b1:big 104723=UC:=by decide
 have b2:∀ x:Int,big (x % 2147483563)=UC:=λx=>m7 (by lia) (by lia);have b3:∀ x:Int,big (x % 2147483399)=UC:=λx=>m7 (by lia) (by lia);simp[dj,r,b0,b1,b2,b3,aj,hm,drw]
theorem oB:Om "abcf"=⟨#[97,98,99,102]⟩:=by decide +kernel
theorem zm:Om "abc"=⟨#[97,98,99]⟩:=by decide +kernel
theorem o_a:Om "a"=⟨#[97]⟩:=by decide +kernel
theorem o_b:Om "b"=⟨#[98]⟩:=by decide +kernel
theorem o_c:Om "c"=⟨#[99]⟩:=by decide +kernel
theorem o_f:Om "f"=⟨#[102]⟩:=by decide +kernel
theorem tY (i:Int) (h0:0<=i) (h1:i < 4):∃ x:Nm,aG (.str "abcf") (.int i)=UA (.str x.w):=by
 have:i=0\/i=1\/i=2\/i=3:=by lia
 rcases this with rfl|rfl|rfl|rfl
 exact ⟨.a,by rw[Nm.w,oB,o_a];rfl⟩;exact ⟨.b,by rw[Nm.w,oB,o_b];rfl⟩;exact ⟨.c,by rw[Nm.w,oB,o_c];rfl⟩;exact ⟨.f,by rw[Nm.w,oB,o_f];rfl⟩
theorem GD (i:Int) (h0:0<=i) (h1:i < 3):∃ x:Nm,aG (.str "abc") (.int i)=UA (.str x.w):=by
 have:i=0\/i=1\/i=2:=by lia
 rcases this with rfl|rfl|rfl
 exact ⟨.a,by rw[Nm.w,zm,o_a];rfl⟩;exact ⟨.b,by rw[Nm.w,zm,o_b];rfl⟩;exact ⟨.c,by rw[Nm.w,zm,o_c];rfl⟩
theorem tZ (i:Int) (h0:0<=i) (h1:i < 6):∃ n:Int,Wth n/\aG (.lst [.int 0,.int 1,.int 2,.int 3,.int 10,.int 10006]) (.int i)=UA (.int n):=by
 have:i=0\/i=1\/i=2\/i=3\/i=4\/i=5:=by lia
 rcases this with rfl|rfl|rfl|rfl|rfl|rfl
 exact ⟨0,⟨by decide,by decide⟩,rfl⟩;exact ⟨1,⟨by decide,by decide⟩,rfl⟩;exact ⟨2,⟨by decide,by decide⟩,rfl⟩;exact ⟨3,⟨by decide,by decide⟩,rfl⟩;exact ⟨10,⟨by decide,by decide⟩,rfl⟩;exact ⟨10006,⟨by decide,by decide⟩,rfl⟩
theorem GE (i:Int) (h0:0<=i) (h1:i < 4):∃ o:Op,aG (.lst [.str "add",.str "sub",.str "mul",.str "less"]) (.int i)=UA (.str o.w):=by
 have:i=0\/i=1\/i=2\/i=3:=by lia
 rcases this with rfl|rfl|rfl|rfl
 exact ⟨.add,rfl⟩;exact ⟨.sub,rfl⟩;exact ⟨.mul,rfl⟩;exact ⟨.less,rfl⟩
theorem zo (L:Lw T) (ns:List Int) (hl:ns.length<=1000) (p n:Int) (k:Nat) (rest:Sl) (h:HH) (c:drw ns (p+1) 2=0) (en:aG (.lst [.int 0,.int 1,.int 2,.int 3,.int 10,.int 10006]) (.int (drw ns (p+2) 6))=UA (.int n)) :
 evS (runN T G (k+2)) G smL (UA (.p (.lst (aa ns)))::UA (.p (.int p))::rest) h=UA (.rt (.p (Sm.num n).enc) h):=by
 have dr:=λq many (hm:0 < many)=>cg (G:=G) L k ns hl q many hm;simp[-aX,-gc,smL,dr,c,en,Sm.enc]
theorem zu (L:Lw T) (ns:List Int) (hl:ns.length<=1000) (p:Int) (x:Nm) (k:Nat) (rest:Sl) (h:HH) (c:¬ drw ns (p+1) 2=0) (ex:aG (.str "abcf") (.int (drw ns (p+2) 4))=UA (.str x.w)) :
 evS (runN T G (k+2)) G smL (UA (.p (.lst (aa ns)))::UA (.p (.int p))::rest) h=UA (.rt (.p (Sm.nam x).enc) h):=by
 have dr:=λq many (hm:0 < many)=>cg (G:=G) L k ns hl q many hm;simp[-aX,-gc,smL,dr,c,ex,Sm.enc]
theorem ua (L:Lw T) (ns:List Int) (hl:ns.length<=1000):∀ (deep:Nat) (p:Int),∃ s:Sm,s.ok/\s.size+1<=2 ^ (deep+1)/\∀ (m:Nat) (h:HH),
 runN T G (m+deep+3) "_law_sum" [.p (.lst (aa ns)),.p (.int p),.p (.int deep)] h=UA (.p s.enc,h):=by
 intro deep
 induction deep with
 | zero =>
  intro p;have dr:=λm q many (hm:0 < many)=>cg (G:=G) L m ns hl q many hm;obtain ⟨x,ex⟩:=tY (drw ns (p+2) 4) (bY _ _ (by decide)) (bZ _ _ (by decide));obtain ⟨n,hn,en⟩:=tZ (drw ns (p+2) 6) (bY _ _ (by decide)) (bZ _ _ (by decide));have key:∀ (s:Sm) (m:Nat) (h:HH),(∀ rest,evS (runN T G (m+2)) G smL (UA (.p (.lst (aa ns)))::UA (.p (.int p))::rest) h=UA (.rt (.p s.enc) h))->runN T G (m+0+3) "_law_sum" [.p (.lst (aa ns)),.p (.int p),.p (.int ((0:Nat):Int))] h=UA (.p s.enc,h):=λs m h q=>by rw[run_eq L.sum rfl];simp[bX,dr,q,aj]
  by_cases c:drw ns (p+1) 2=0
  exact ⟨.num n,hn,by simp[Sm.size],λm h=>key _ m h λrest=>zo L ns hl p n m rest h c en⟩;exact ⟨.nam x,trivial,by simp[Sm.size],λm h=>key _ m h λrest=>zu L ns hl p x m rest h c ex⟩
 | succ deep ih =>
  intro p;have dr:=λm q many (hm:0 < many)=>cg (G:=G) L m ns hl q many hm;obtain ⟨x,ex⟩:=tY (drw ns (p+2) 4) (bY _ _ (by decide)) (bZ _ _ (by decide));obtain ⟨n,hn,en⟩:=tZ (drw ns (p+2) 6) (bY _ _ (by decide)) (bZ _ _ (by decide));obtain ⟨s,so,ss,sr0⟩:=ih (p*2+5);obtain ⟨t,to,tt,tr0⟩:=ih (p*2+19);have ee:∀ m,m+(deep+1)+2=m+deep+3:=λm=>by lia
  have sr:=λm h=>(ee m).symm ▸ sr0 m h;have tr:=λm h=>(ee m).symm ▸ tr0 m h;have d0:¬ ((deep:Int)+1=0):=by lia
  have d1:((deep:Int)+1 - 1)=deep:=by lia
  have b2:big 2=UC:=by decide
  have w0:=bY ns p (many:=10) (by decide);have w1:=bZ ns p (many:=10) (by decide);have pw:2 ^ (deep+1+1)=2 ^ (deep+1)+2 ^ (deep+1):=by lia
  by_cases c1:drw ns p 10 < 4
  ·have key:∀ (s:Sm) (m:Nat) (h:HH),(∀ rest,evS (runN T G (m+deep+1+2)) G smL (UA (.p (.lst (aa ns)))::UA (.p (.int p))::rest) h=UA (.rt (.p s.enc) h))->runN T G (m+(deep+1)+3) "_law_sum" [.p (.lst (aa ns)),.p (.int p),.p (.int ((deep+1:Nat):Int))] h=UA (.p s.enc,h):=λs m h q=>by rw[run_eq L.sum rfl];have dq:=dr (m+(deep+1));have q:∀ rest,evS (runN T G (m+(deep+1)+2)) G smL (UA (.p (.lst (aa ns)))::UA (.p (.int p))::rest) h=UA (.rt (.p s.enc) h):=q;simp[bX,dq,c1,d0,q,aj]
   by_cases c:drw ns (p+1) 2=0
   exact ⟨.num n,hn,by simp only[Sm.size];lia,λm h=>key _ m h λrest=>zo L ns hl p n (m+deep+1) rest h c en⟩;exact ⟨.nam x,trivial,by simp only[Sm.size];lia,λm h=>key _ m h λrest=>zu L ns hl p x (m+deep+1) rest h c ex⟩
  ·by_cases c2:drw ns p 10 < 6
   ·refine ⟨.cell s,so,by simp only[Sm.size];lia,λm h=>?_⟩;rw[run_eq L.sum rfl];simp[-aX,-gc,bX,smR,dr,c1,c2,d0,d1,b2,sr,aj,Sm.enc]
   ·obtain ⟨o,eo⟩:=GE (drw ns p 10 - 6) (by lia) (by lia);refine ⟨.two o s t,⟨so,to⟩,by simp only[Sm.size];lia,λm h=>?_⟩;rw[run_eq L.sum rfl];simp[-aX,-gc,bX,smR,dr,c1,c2,d0,d1,b2,sr,tr,eo,aj,Sm.enc]
end
noncomputable def D0:S:=(.ret (.idx (.lst UD (Z6 (.tup (Z8 (.cst (.str "call")) (.var 4))) (.tup (Z8 (.cst (.str "call")) (.var 4))) (.tup (Z9 (.cst (.str "back")))) (.idx (.lst UD (Z8 (.tup (Z9 (.cst (.str "stop")))) (.tup (Z9 (.cst (.str "back")))))) (.bin .mod (.var 4) (.cst (.int 2)))))) (.bin .sub (.var 3) (.cst (.int 12)))))
noncomputable def rA3:S:=(.ret (.idx (.lst UD (Z7 (.tup (Z8 (.cst (.str "jump")) (.var 4))) (.tup (Z7 (.cst (.str "unless")) (.var 6) (.var 4))) (.tup (Z7 (.cst (.str "unless")) (.tup (Z8 (.cst (.str "name")) (.var 5))) (.var 4))))) (.bin .sub (.var 3) (.cst (.int 9)))))
noncomputable def zw:S:=(.seq (.ife (.cmp .lt (.var 3) (.cst (.int 12))) rA3 .nil) D0)
noncomputable def rA2:S:=(.ret (.idx (.lst UD (Z8 (.tup (Z8 (.cst (.str "ask")) (.var 5))) (.tup (Z8 (.cst (.str "say")) (.var 6))))) (.bin .sub (.var 3) (.cst (.int 7)))))
noncomputable def uc:S:=(.seq (.ife (.cmp .lt (.var 3) (.cst (.int 9))) rA2 .nil) zw)
noncomputable def rA1:S:=(.ret (.tup (Z7 (.cst (.str "put")) (.call "_law_sum" (Z7 (.var 0) (.bin .add (.var 1) (.cst (.int 9))) (.cst (.int 1)))) (.var 6))))
noncomputable def qv:S:=(.seq (.ife (.cmp .lt (.var 3) (.cst (.int 7))) rA1 .nil) uc)
noncomputable def rA0:S:=(.ret (.tup (Z7 (.cst (.str "set")) (.var 5) (.var 6))))
noncomputable def rT:S:=(.seq (.ife (.cmp .lt (.var 3) (.cst (.int 5))) rA0 .nil) qv)
theorem mE:fM=⟨["_law_script","_law_at","_law_size"],["_law_script","_law_at","_law_size","_law_way","_law_place","_law_name","_law_one"],
 (.seq (.set 3 (.call "_law_drawn" (.cons (.var 0) (.cons (.var 1) (.cons (.cst (.int 16)) .nil)))))
 (.seq (.set 4 (.call "_law_drawn" (.cons (.var 0) (.cons (.bin .add (.var 1) (.cst (.int 1))) (.cons (.bin .add (.var 2) (.cst (.int 1))) .nil)))))
 (.seq (.set 5 (.idx (.cst (.str "abc")) (.call "_law_drawn" (.cons (.var 0) (.cons (.bin .add (.var 1) (.cst (.int 2))) (.cons (.cst (.int 3)) .nil))))))
 (.seq (.set 6 (.call "_law_sum" (.cons (.var 0) (.cons (.bin .add (.var 1) (.cst (.int 3))) (.cons (.cst (.int 2)) .nil)))))
 rT))))⟩:=rfl
section
theorem Cv (L:Lw T) (ns:List Int) (hl:ns.length<=1000) (p:Int) (size:Nat):∃ r:Rw,r.ok size/\∀ (m:Nat) (h:HH),
 runN T G (m+6) "_law_row" [.p (.lst (aa ns)),.p (.int p),.p (.int size)] h=UA (.p r.enc,h):=by
 have dr:=λm q many (hm:0 < many)=>cg (G:=G) L m ns hl q many hm;obtain ⟨x,ex⟩:=GD (drw ns (p+2) 3) (bY _ _ (by decide)) (bZ _ _ (by decide));obtain ⟨s,so,ss,sr⟩:=ua (G:=G) L ns hl 2 (p+3);obtain ⟨t,to,tt,tr⟩:=ua (G:=G) L ns hl 1 (p+9);have w0:=bY ns p (many:=16) (by decide);have w1:=bZ ns p (many:=16) (by decide);have sz:(0:Int) < (size:Int)+1:=by lia
 have p0:=bY ns (p+1) sz;have p1:=bZ ns (p+1) sz;obtain ⟨pl,hpl⟩:∃ pl:Nat,drw ns (p+1) ((size:Int)+1)=(pl:Int):=⟨(drw ns (p+1) ((size:Int)+1)).toNat,by lia⟩;have ple:pl<=size:=by lia
 have sok:oz s:=⟨so,by lia⟩;have tok:oz t:=⟨to,by lia⟩;have sr':=λm h=>sr (m+0) h;have tr':=λm h=>tr (m+1) h;simp at sr' tr';have dp:=λm h=>dr m (p+1) ((size:Int)+1) sz h;rw[hpl] at dp;have pre:∀ (m:Nat) (h:HH),runN T G (m+6) "_law_row" [.p (.lst (aa ns)),.p (.int p),.p (.int size)] h =
  j3 (evS (runN T G (m+5)) G rT [UA (.p (.lst (aa ns))),UA (.p (.int p)),UA (.p (.int size)),UA (.p (.int (drw ns p 16))),UA (.p (.int (pl:Int))),UA (.p (.str x.w)),UA (.p s.enc)] h) (fin h):=λm h=>by
  rw[run_eq L.row rfl,mE];simp[-gc,dp,dr,ex,sr']
 by_cases c1:drw ns p 16 < 5
 ·refine ⟨.set x s,sok,λm h=>?_⟩;rw[pre];simp[-aX,-gc,rT,rA0,c1,aj,Rw.enc]
 ·by_cases c2:drw ns p 16 < 7
  ·refine ⟨.put t s,⟨tok,sok⟩,λm h=>?_⟩;rw[pre];simp[-aX,-gc,rT,qv,rA1,tr',c1,c2,aj,Rw.enc]
  ·by_cases c3:drw ns p 16 < 9
   ·obtain ⟨r,ro,ix⟩:∃ r:Rw,r.ok size/\aG (.lst [.tup [.str "ask",.str x.w],.tup [.str "say",s.enc]]) (.int (drw ns p 16 - 7))=UA r.enc:=by
     have c:drw ns p 16=7\/drw ns p 16=8:=by lia
     rcases c with c|c<;>rw[c]
     exact ⟨.ask x,trivial,rfl⟩;exact ⟨.say s,sok,rfl⟩
    refine ⟨r,ro,λm h=>?_⟩;rw[pre];simp[-aX,rT,qv,uc,rA2,c1,c2,c3,ix,aj]
   ·by_cases c4:drw ns p 16 < 12
    ·obtain ⟨r,ro,ix⟩:∃ r:Rw,r.ok size/\aG (.lst [.tup [.str "jump",.int pl],.tup [.str "unless",s.enc,.int pl],.tup [.str "unless",.tup [.str "name",.str x.w],.int pl]]) (.int (drw ns p 16 - 9))=UA r.enc:=by
      have c:drw ns p 16=9\/drw ns p 16=10\/drw ns p 16=11:=by lia
      rcases c with c|c|c<;>rw[c]
      exact ⟨.jump pl,ple,rfl⟩;exact ⟨.unless s pl,⟨sok,ple⟩,rfl⟩;exact ⟨.unless (.nam x) pl,⟨⟨trivial,by simp[Sm.size]⟩,ple⟩,rfl⟩
     refine ⟨r,ro,λm h=>?_⟩;rw[pre];simp[-aX,rT,qv,uc,zw,rA3,c1,c2,c3,c4,ix,aj]
    ·obtain ⟨u,uo,iu⟩:∃ u:Rw,u.ok size/\aG (.lst [.tup [.str "stop"],.tup [.str "back"]]) (.int ((pl:Int) % 2))=UA u.enc:=by
      have z:(pl:Int) % 2=0\/(pl:Int) % 2=1:=by lia
      rcases z with z|z<;>rw[z]
      exact ⟨.stop,trivial,rfl⟩;exact ⟨.back,trivial,rfl⟩
     obtain ⟨r,ro,ix⟩:∃ r:Rw,r.ok size/\aG (.lst [.tup [.str "call",.int pl],.tup [.str "call",.int pl],.tup [.str "back"],u.enc]) (.int (drw ns p 16 - 12))=UA r.enc:=by
      have c:drw ns p 16=12\/drw ns p 16=13\/drw ns p 16=14\/drw ns p 16=15:=by lia
      rcases c with c|c|c|c<;>rw[c]
      exact ⟨.call pl,ple,rfl⟩;exact ⟨.call pl,ple,rfl⟩;exact ⟨.back,trivial,rfl⟩;exact ⟨u,uo,rfl⟩
     refine ⟨r,ro,λm h=>?_⟩;rw[pre];simp[-aX,rT,qv,uc,zw,D0,c1,c2,c3,c4,iu,ix,aj]
theorem comp_map (f:List D->HH->Option (Option D×HH)) (g:D->D):∀ (ds:List D) (h:HH),(∀ d∈ds,∀ h,f [d] h=UA (UA (g d),h))->aM f 1 ds h=UA (ds.map g,h):=by
 intro ds
 induction ds with
 | nil=>intro h _;rfl
 | cons d r ih =>
  intro h hf;have e1:=hf d Oe h;have e2:=ih h λx hx=>hf x (Oa _ hx);rw[aM,gf];simp[e1,e2]
theorem qw (h:d∈upto 0 n):∃ k:Nat,k < n/\d=.int k:=by simp[upto] at h;obtain ⟨k,hk,e⟩:=h;exact ⟨k,hk,e.symm⟩
theorem qx (n:Nat) (g:D->D):(upto 0 n).map g=(OP n).map λ(k:Nat)=>g (.int k):=by simp[upto,Function.comp_def]
noncomputable def Cw:E:=.idx (.lst UD (Z6 (.cst (.int 0)) (.cst (.int 1)) (.cst (.int 5)) (.cst (.int 10006)))) (.call "_law_drawn" (Z7 (.var 1) (.bin .add (.bin .add (.var 2) (.cst (.int 1))) (.var 0)) (.cst (.int 4))))
theorem j7:dw=⟨["_law_script","_law_at"],["_law_script","_law_at"],.ret (.comp UD .rng1 (.cons (.call "_law_drawn" (.cons (.var 0) (.cons (.var 1) (.cons (.cst (.int 4)) .nil)))) .nil) ["_law_k"] [(0,"_law_script"),(1,"_law_at")] .nil Cw)⟩:=rfl
theorem vV (L:Lw T) (ns:List Int) (hl:ns.length<=1000) (p:Int):∃ asked:List Int,Ask asked/\asked.length<=3/\∀ (m:Nat) (h:HH),
 runN T G (m+3) "_law_asked" [.p (.lst (aa ns)),.p (.int p)] h=UA (.p (.lst (aa asked)),h):=by
 have dr:=λm q many (hm:0 < many)=>cg (G:=G) L m ns hl q many hm;have at4:∀ i:Int,0<=i->i < 4->∃ n:Int,Wth n/\aG (.lst [.int 0,.int 1,.int 5,.int 10006]) (.int i)=UA (.int n):=by
  intro i h0 h1;have:i=0\/i=1\/i=2\/i=3:=by lia
  rcases this with rfl|rfl|rfl|rfl
  exact ⟨0,⟨by decide,by decide⟩,rfl⟩;exact ⟨1,⟨by decide,by decide⟩,rfl⟩;exact ⟨5,⟨by decide,by decide⟩,rfl⟩;exact ⟨10006,⟨by decide,by decide⟩,rfl⟩
 have ch:∀ k:Nat,∃ n:Int,Wth n/\aG (.lst [.int 0,.int 1,.int 5,.int 10006]) (.int (drw ns (p+1+k) 4))=UA (.int n):=λk =>
  at4 _ (bY _ _ (by decide)) (bZ _ _ (by decide))
 obtain ⟨g,hg⟩:=Ss ch;have w0:=bY ns p (many:=4) (by decide);have w1:=bZ ns p (many:=4) (by decide);refine ⟨(OP (drw ns p 4).toNat).map g,?_,by simp;lia,λm h=>?_⟩
 ·intro x hx;simp at hx;obtain ⟨k,_,rfl⟩:=hx;exact (hg k).1
 ·rw[run_eq L.asked rfl,j7];have c1:drw ns p 4<=100000:=by lia
  have c0:-100000<=drw ns p 4:=by lia
  have he:∀ (k:Nat) (h:HH),ev (runN T G (m+2)) G Cw [UA (.p (.int k)),UA (.p (.lst (aa ns))),UA (.p (.int p))] h=UA (.p (.int (g k)),h):=λk h=>by have e:=(hg k).2;simp[-aX,Cw,dr,e]
  have cm:=comp_map (aP (λ_ h=>UA ([],h)) (ev (runN T G (m+2)) G Cw) [UA (.p (.lst (aa ns))),UA (.p (.int p))]) (λd=>match d with | .int k=>.int (g k.toNat)|_=>.non) (upto 0 (drw ns p 4).toNat) h (by
   intro d hd h;obtain ⟨k,hk,rfl⟩:=qw hd;simp[aY,he])
  have ln:(drw ns p 4).toNat<=100000:=by lia
  rw[qx] at cm;have cm':(OP (drw ns p 4).toNat).map (λ(k:Nat)=>match D.int (k:Int) with | .int k=>D.int (g k.toNat)|_=>.non)=aa ((OP (drw ns p 4).toNat).map g):=by simp[aa,Function.comp_def]
  rw[cm'] at cm;simp[dr,c0,c1,cm,gA,ln,aj,fu]
noncomputable def zx:E:=.call "_law_row" (Z7 (.var 1) (.bin .add (.bin .add (.var 2) (.cst (.int 10))) (.bin .mul (.cst (.int 40)) (.var 0))) (.var 3))
structure Drawn (p:Pg):Prop where
 ok:Pg.ok p
 lo:1<=p.length
 hi:p.length<=9
noncomputable def gB (n:Int) (o:Op):Pg:=[.ask .a,.call 4,.say (.nam .a),.jump 0,.put (.nam .a) (.num n),.call 7,.back,.set .b (.two o (.nam .b) (.nam .a)),.back]
theorem oE (n:Int) (o:Op) (h:Wth n):Drawn (gB n o):=by refine ⟨?_,by simp[gB],by simp[gB]⟩;intro r hr;simp only[gB,PV,Pj,or_false] at hr;rcases hr with rfl|rfl|rfl|rfl|rfl|rfl|rfl|rfl|rfl<;>simp[Rw.ok,gB,oz,Sm.ok,Sm.size,h]
theorem lF (L:Lw T)
 (ns:List Int) (hl:ns.length<=1000) (p:Int)
 (run1:∀ (m:Nat) (h:HH) (n:Int) (o:Op),drw ns (p+1) 4=0->n=drw ns (p+2) 9->aG (.lst [.str "add",.str "sub"]) (.int (drw ns (p+3) 2))=UA (.str o.w) →
  (∀ m q many,0 < many->∀ h,runN T G (m+2) "_law_drawn" [.p (.lst (aa ns)),.p (.int q),.p (.int many)] h=UA (.p (.int (drw ns q many)),h)) →
  runN T G (m+7) "_law_program" [.p (.lst (aa ns)),.p (.int p)] h=UA (.p (aQ (gB n o)),h))
 (run2:∀ (m:Nat) (h:HH) (pg:Pg),drw ns (p+1) 4≠0->pg.length=(1+drw ns p 9).toNat →
  (∀ m q many,0 < many->∀ h,runN T G (m+2) "_law_drawn" [.p (.lst (aa ns)),.p (.int q),.p (.int many)] h=UA (.p (.int (drw ns q many)),h)) →
  (∀ h,aM (aP (λ_ h=>UA ([],h)) (ev (runN T G (m+6)) G zx) [UA (.p (.lst (aa ns))),UA (.p (.int p)),UA (.p (.int (1+drw ns p 9)))]) 1 (upto 0 (1+drw ns p 9).toNat) h=UA (pg.map Rw.enc,h)) →
  runN T G (m+7) "_law_program" [.p (.lst (aa ns)),.p (.int p)] h=UA (.p (aQ pg),h)) :
 ∃ pg:Pg,Drawn pg/\∀ (m:Nat) (h:HH),runN T G (m+7) "_law_program" [.p (.lst (aa ns)),.p (.int p)] h=UA (.p (aQ pg),h):=by
 have dr:=λm q many (hm:0 < many)=>cg (G:=G) L m ns hl q many hm
 by_cases c:drw ns (p+1) 4=0
 ·have d0:=bY ns (p+3) (many:=2) (by decide);have d1:=bZ ns (p+3) (many:=2) (by decide);have e0:=bY ns (p+2) (many:=9) (by decide);have e1:=bZ ns (p+2) (many:=9) (by decide);have z:drw ns (p+3) 2=0\/drw ns (p+3) 2=1:=by lia
  have:∃ o:Op,aG (.lst [.str "add",.str "sub"]) (.int (drw ns (p+3) 2))=UA (.str o.w):=by
   rcases z with z|z<;>rw[z]
   exact ⟨.add,rfl⟩;exact ⟨.sub,rfl⟩
  obtain ⟨o,eo⟩:=this;exact ⟨gB (drw ns (p+2) 9) o,oE _ _ ⟨by lia,by lia⟩,λm h=>run1 m h _ o c rfl eo dr⟩
 ·have d0:=bY ns p (many:=9) (by decide);have d1:=bZ ns p (many:=9) (by decide);obtain ⟨sz,hsz⟩:∃ sz:Nat,1+drw ns p 9=(sz:Int):=⟨(1+drw ns p 9).toNat,by lia⟩;have ch:∀ k:Nat,∃ r:Rw,r.ok sz/\∀ (m:Nat) (h:HH),runN T G (m+6) "_law_row" [.p (.lst (aa ns)),.p (.int (p+10+40*(k:Int))),.p (.int sz)] h=UA (.p r.enc,h) :=
   λk=>Cv L ns hl _ sz
  obtain ⟨g,hg⟩:=Ss ch;refine ⟨(OP sz).map g,⟨?_,by simp;lia,by simp;lia⟩,λm h=>run2 m h _ c (by simp;lia) dr λh=>?_⟩
  ·intro r hr;simp at hr;obtain ⟨k,_,rfl⟩:=hr;simpa using (hg k).1
  ·rw[hsz];have b:big 40=UC:=by decide
   have he:∀ (k:Nat) (h:HH),ev (runN T G (m+6)) G zx [UA (.p (.int k)),UA (.p (.lst (aa ns))),UA (.p (.int p)),UA (.p (.int sz))] h=UA (.p (g k).enc,h):=λk h=>by have e:=(hg k).2;simp[zx,e,b]
   have cm:=comp_map (aP (λ_ h=>UA ([],h)) (ev (runN T G (m+6)) G zx) [UA (.p (.lst (aa ns))),UA (.p (.int p)),UA (.p (.int sz))]) (λd=>match d with | .int k=>(g k.toNat).enc|_=>.non) (upto 0 sz) h (by
    intro d hd h;obtain ⟨k,hk,rfl⟩:=qw hd;simp[aY,he])
   rw[qx] at cm;simp only[Int.toNat_natCast,OW];rw[cm];rfl
end
section
noncomputable def prA:S:=(.seq (.set 3 (.tup (Z7 (.cst (.str "put")) (.tup (Z8 (.cst (.str "name")) (.cst (.str "a")))) (.tup (Z8 (.cst (.str "num")) (.call "_law_drawn" (Z7 (.var 0) (.bin .add (.var 1) (.cst (.int 2))) (.cst (.int 9))))))))) (.seq (.set 4 (.idx (.lst UD (Z8 (.cst (.str "add")) (.cst (.str "sub")))) (.call "_law_drawn" (Z7 (.var 0) (.bin .add (.var 1) (.cst (.int 3))) (.cst (.int 2)))))) (.seq (.set 5 (.tup (Z5 (.tup (Z8 (.cst (.str "ask")) (.cst (.str "a")))) (.tup (Z8 (.cst (.str "call")) (.cst (.int 4)))) (.tup (Z8 (.cst (.str "say")) (.tup (Z8 (.cst (.str "name")) (.cst (.str "a")))))) (.tup (Z8 (.cst (.str "jump")) (.cst (.int 0)))) (.var 3)))) (.ret (.bin .add (.var 5) (.tup (Z6 (.tup (Z8 (.cst (.str "call")) (.cst (.int 7)))) (.tup (Z9 (.cst (.str "back")))) (.tup (Z7 (.cst (.str "set")) (.cst (.str "b")) (.tup (Z7 (.var 4) (.tup (Z8 (.cst (.str "name")) (.cst (.str "b")))) (.tup (Z8 (.cst (.str "name")) (.cst (.str "a")))))))) (.tup (Z9 (.cst (.str "back")))))))))))
noncomputable def prB:S:=(.ret (.bi .tuple UD (Z9 (.comp UD .rng1 (Z9 (.var 2)) ["_law_k"] [(0,"_law_script"),(1,"_law_at"),(2,"_law_size")] .nil zx))))
theorem eS:aZ=⟨["_law_script","_law_at"],["_law_script","_law_at","_law_size","_law_put","_law_sign","_law_rows"],
 (.seq (.set 2 (.bin .add (.cst (.int 1)) (.call "_law_drawn" (.cons (.var 0) (.cons (.var 1) (.cons (.cst (.int 9)) .nil))))))
 (.seq (.ife (.cmp .eq (.call "_law_drawn" (.cons (.var 0) (.cons (.bin .add (.var 1) (.cst (.int 1))) (.cons (.cst (.int 4)) .nil)))) (.cst (.int 0))) prA .nil)
 prB))⟩:=rfl
theorem qy (L:Lw T) (hP:T "_law_program"=UA aZ) (ns:List Int) (hl:ns.length<=1000) (p:Int) :
 ∃ pg:Pg,Drawn pg/\∀ (m:Nat) (h:HH),runN T G (m+7) "_law_program" [.p (.lst (aa ns)),.p (.int p)] h=UA (.p (aQ pg),h):=by
 refine lF L ns hl p (λm h n o c en eo dr=>?_) (λm h pg c el dr cm=>?_)
 ·rw[run_eq hP rfl];have d:=λq many hm h=>dr (m+4) q many hm h;rw[eS];simp[-aX,prA,d,c,eo,aj,aQ,gB,Rw.enc,Sm.enc,← en,Nm.w]
 ·rw[run_eq hP rfl];have d:=λq many hm h=>dr (m+4) q many hm h;have d0:=bY ns p (many:=9) (by decide);have d1:=bZ ns p (many:=9) (by decide);have c0:-100000<=1+drw ns p 9:=by lia
  have c1:1+drw ns p 9<=100000:=by lia
  have c2:pg.length<=100000:=by lia
  have cm':=cm h;rw[eS];simp[-aP,prB,d,c,c0,c1,c2,cm',aj,aQ,fu]
mutual
theorem jd:∀ d:D,eqv d d=UC
 | .non=>rfl
 | .bl b=>by simp
 | .int i=>by simp
 | .str x=>by simp
 | .tup xs=>by simp[gT xs]
 | .lst xs=>by simp[gT xs]
theorem gT:∀ ds:List D,lV ds ds=UC
 | []=>rfl
 | d::r=>by simp[jd d,gT r]
end
theorem lG (n:Nat) (xs:List Int):(aa xs).all (dok n)=UC:=by simp[aa,O8]
theorem qz (n:Nat) (xs:List Nat):(af xs).all (dok n)=UC:=by simp[af,O8]
theorem ne_self (h:dok 100 x=UC):dg .ne x x=UA UD:=by rw[kg,if_pos (f7 h),jd];rfl
@[simp] theorem GF (ds:List D):lV ds ds=UC:=gT ds
@[simp] theorem Hr (d:D):eqv d d=UC:=jd d
@[simp] theorem Hs (x:D) (xs:List Int):aT x (.tup (aa xs))=UC:=f7 (lG 99 xs)
@[simp] theorem Hu (x:D) (xs:List Nat):aT x (.tup (af xs))=UC:=f7 (qz 99 xs)
@[simp] theorem JD (x:D) (xs ys:List Int):aT x (.tup [.tup (aa xs),.tup (aa ys)])=UC:=f7 (by simp[lG])
end
section
variable {T:FK->Option Fn}{G:Str->Option W}
@[simp] theorem MH (st:St):rf st.enc (UA 1) (UA 3)=UA (.tup [.tup (aa st.names),.tup (aa st.cells)]):=rfl
end
theorem zy (n:Nat) (st:St):dok (n+2) st.enc=UC:=by simp[St.enc,sH,lG,qz]
theorem Cy (L:List St):dok 100 (.lst (L.map St.enc))=UC:=by rw[sI,O8];intro d hd;simp at hd;obtain ⟨st,_,rfl⟩:=hd;exact zy 97 st
@[simp] theorem K9 (x:D) (st:St):aT x st.enc=UC:=f7 (zy 98 st)
@[simp] theorem JE (x:D) (L:List St):aT x (.lst (L.map St.enc))=UC:=f7 (Cy L)
noncomputable def itr (p:Pg) (asked:List Int):Nat->St
 | 0=>St.zero| n+1=>step p asked (itr p asked n)
structure Run (p:Pg) (asked:List Int) (most e:Nat):Prop where
 le:e<=most
 on:∀ i,i < e->over p (itr p asked i)=UD
 last:e=most\/over p (itr p asked e)=UC
theorem zA (p:Pg) (asked:List Int):∀ (r j:Nat),∃ e,e<=r/\sts p asked r (itr p asked j)=(OP (e+1)).map (λi=>itr p asked (j+i))/\(∀ i,i < e->over p (itr p asked (j+i))=UD)/\(e=r\/over p (itr p asked (j+e))=UC)
 | 0,j=>⟨0,N3 _,rfl,λi hi=>absurd hi (SI _),.inl rfl⟩
 | r+1,j=>by
  rw[sts]
  by_cases c:over p (itr p asked j)=UC
  ·rw[if_pos c];exact ⟨0,O5 _,rfl,λi hi=>absurd hi (SI _),.inr c⟩
  ·rw[if_neg c];obtain ⟨e,h1,h2,h3,h4⟩:=zA p asked r (j+1);have c':over p (itr p asked j)=UD:=by simpa using c
   refine ⟨e+1,by lia,?_,λi hi=>?_,?_⟩
   ·show itr p asked j::sts p asked r (itr p asked (j+1))=_;rw[h2,Q4 (n:=e+1),Oi,OW];congr 1;apply Pe;intro i _;show itr p asked (j+1+i)=itr p asked (j+(i+1));congr 1;lia
   ·cases i with
    | zero=>exact c'
    | succ i =>
     have:=h3 i (by lia);rw[show j+(i+1)=j+1+i by lia];exact this
   ·rcases h4 with h4|h4
    exact .inl (by lia);exact .inr (by rw[show j+(e+1)=j+1+e by lia];exact h4)
theorem Cz (p:Pg) (asked:List Int) (most:Nat):∃ e,Run p asked most e/\sts p asked most St.zero=(OP (e+1)).map (itr p asked):=by obtain ⟨e,h1,h2,h3,h4⟩:=zA p asked most 0;refine ⟨e,⟨h1,λi hi=>by have:=h3 i hi;simpa using this,by simpa using h4⟩,?_⟩;have:sts p asked most St.zero=sts p asked most (itr p asked 0):=rfl;rw[this,h2];apply Pe;intro i _;simp
theorem lH (hp:Pg.ok p) (ha:Ask asked) (R:Run p asked most e):∀ i,i<=e->At i (itr p asked i)
 | 0,_=>Cs| i+1,h=>Ct hp ha (lH hp ha R i (by lia)) (R.on i (by lia))
structure Tp where
 p:Pg
 asked:List Int
 gap:Nat
 most:Nat
 kept:List St
 far:Nat
 front:St
 now:Nat
noncomputable def Tp.fs (t:Tp) (r:Nat):List (Str×W):=[("program",.p (aQ t.p)),("asked",.p (.lst (aa t.asked))),("gap",.p (.int t.gap)),("most",.p (.int t.most)),("kept",.r r),("farthest",.p (.int t.far)),("front",.p t.front.enc),("now",.p (.int t.now))]
section
variable (t:Tp) (r:Nat)
@[simp] theorem GG:aU "program" (t.fs r)=UA (.p (aQ t.p)):=by simp[Tp.fs]
@[simp] theorem JF:aU "asked" (t.fs r)=UA (.p (.lst (aa t.asked))):=by simp[Tp.fs]
@[simp] theorem MI:aU "gap" (t.fs r)=UA (.p (.int t.gap)):=by simp[Tp.fs]
@[simp] theorem La:aU "most" (t.fs r)=UA (.p (.int t.most)):=by simp[Tp.fs]
@[simp] theorem CA:aU "kept" (t.fs r)=UA (.r r):=by simp[Tp.fs]
@[simp] theorem MJ:aU "farthest" (t.fs r)=UA (.p (.int t.far)):=by simp[Tp.fs]
@[simp] theorem JG:aU "front" (t.fs r)=UA (.p t.front.enc):=by simp[Tp.fs]
@[simp] theorem MK:aU "now" (t.fs r)=UA (.p (.int t.now)):=by simp[Tp.fs]
@[simp] theorem ML:(t.fs r).length=8:=rfl
theorem CB (v:Nat):bf "gap" (.p (.int v)) (t.fs r)=({ t with gap:=v }:Tp).fs r:=by simp[Tp.fs]
theorem zB (r':Nat):bf "kept" (.r r') (t.fs r)=t.fs r':=by simp[Tp.fs]
theorem CD (v:Nat):bf "farthest" (.p (.int v)) (t.fs r)=({ t with far:=v }:Tp).fs r:=by simp[Tp.fs]
theorem vW (v:St):bf "front" (.p v.enc) (t.fs r)=({ t with front:=v }:Tp).fs r:=by simp[Tp.fs]
theorem cB (h:(["program","asked","gap","most","kept","farthest","front","now"]:List String).contains m=UD):aU m (t.fs r)=UB:=by simp only[List.contains_cons,List.contains_nil,Tf,Bool.or_eq_false_iff,beq_eq_false_iff_ne,ne_eq] at h;obtain ⟨h1,h2,h3,h4,h5,h6,h7,h8⟩:=h;simp[Tp.fs,h1,h2,h3,h4,h5,h6,h7,h8]
end
structure TAt (h:HH) (n r:Nat) (t:Tp):Prop where
 ob:oat h n=UA (Om "Tape",t.fs r)
 li:lat h r=UA (t.kept.map St.enc)
theorem jK (e:oat h n=UA q):n < h.length:=by
 unfold oat at e;rcases Os n h.length with z|z
 exact z;rw[Od z] at e;cases e
theorem jL (e:lat h n=UA q):n < h.length:=by
 unfold lat at e;rcases Os n h.length with z|z
 exact z;rw[Od z] at e;cases e
theorem D3 (e:oat h n=UA q) (e':lat h r=UA xs):n≠r:=by
 rintro rfl
 unfold oat at e;unfold lat at e';cases g:h[n]? with
 | none=>rw[g] at e;cases e| some c=>rw[g] at e e';cases c<;>simp at e e'
theorem je {h:HH}{n:Nat} (hn:n < h.length) (c:Cl):oat (h.set n c) n=pI c:=by unfold oat;rw[O2 hn];rfl
theorem lI (hn:i≠n) (c:Cl):oat (h.set n c) i=oat h i:=by unfold oat;rw[OH (Pb hn)]
theorem qA {h:HH}{n:Nat} (hn:n < h.length) (c:Cl):lat (h.set n c) n=nE c:=by unfold lat;rw[O2 hn];rfl
theorem iI (hn:i≠n) (c:Cl):lat (h.set n c) i=lat h i:=by unfold lat;rw[OH (Pb hn)]
theorem zC (e:h'[i]?=h[i]?):lat h' i=lat h i:=by unfold lat;rw[e]
theorem zD (e:h'[i]?=h[i]?):oat h' i=oat h i:=by unfold oat;rw[e]
theorem CF (hi:i < h.length):lat (h++g) i=lat h i:=zC (N5 hi)
theorem ud (hi:i < h.length):oat (h++g) i=oat h i:=zD (N5 hi)
structure Go (n:Nat) (h:HH) (r:Nat) (t:Tp) (h':HH) (r':Nat) (t':Tp):Prop where
 a:TAt h n r t
 b:TAt h' n r' t'
 len:(h'.length=h.length/\r'=r)\/(h.length<=r')
 le:h.length<=h'.length
 fr:∀ i,i≠n->i≠r->i < h.length->h'[i]?=h[i]?
theorem Go.refl (a:TAt h n r t):Go n h r t h r t:=⟨a,a,.inl ⟨rfl,rfl⟩,N3 _,λ_ _ _ _=>rfl⟩
theorem Go.trans (x:Go n h r t h1 r1 t1) (y:Go n h1 r1 t1 h2 r2 t2):Go n h r t h2 r2 t2:=by
 refine ⟨x.a,y.b,?_,OO x.le y.le,λi h1 h2 h3=>?_⟩
 ·rcases x.len with ⟨a1,a2⟩|a1
  ·rcases y.len with ⟨b1,b2⟩|b1
   exact .inl ⟨b1.trans a1,b2.trans a2⟩;exact .inr (by lia)
  ·rcases y.len with ⟨b1,b2⟩|b1
   exact .inr (by lia);exact .inr (by have:=x.le;lia)
 ·have:i≠r1:=by
   rcases x.len with ⟨a1,a2⟩|a1
   rw[a2];exact h2;lia
  rw[y.fr i h1 this (by have:=x.le;lia)];exact x.fr i h1 h2 h3
theorem c6 (x:Go n h r t h' r' t') (w:W):fin h w h'=UA (w,h'):=by
 unfold fin
 by_cases c:h'.length=h.length
 rw[if_pos c]
 ·rw[if_neg c];rw[if_neg];intro z;rcases x.len with ⟨a1,a2⟩|a1
  exact c a1
  ·have hn:=jK x.a.ob;have e:h'[n]?=h[n]?:=by have q:=P9 (l:=h') hn;rw[z] at q;exact q.symm
   have e2:oat h' n=oat h n:=zD e;rw[x.a.ob,x.b.ob] at e2;have e3:=congrArg (λq:Option (Str×List (Str×W))=>q.bind λy=>aU "kept" y.2) e2;simp only[Pv,CA,QE,W.r.injEq] at e3;have:=jL x.a.li;lia
noncomputable def eU:Fn:=⟨["thing"],["thing"], (.ret (.and (.bi .isInt UD (Z9 (.var 0))) (.not (.bi .isBool UD (Z9 (.var 0))))))⟩
noncomputable def dB:Fn:=⟨["self","program","asked","every","most"],["self","program","asked","every","most"], (.seq (.setf (.var 0) "program" (.var 1)) (.seq (.setf (.var 0) "asked" (.bi .list UD (Z9 (.var 2)))) (.seq (.setf (.var 0) "gap" (.bi .max2 UD (Z8 (.var 3) (.cst (.int 1))))) (.seq (.setf (.var 0) "most" (.bi .max2 UD (Z8 (.var 4) (.cst (.int 0))))) (.seq (.setf (.var 0) "kept" (.lst UC (Z9 (.call "begun" .nil)))) (.seq (.setf (.var 0) "farthest" (.cst (.int 0))) (.seq (.setf (.var 0) "front" (.call "begun" .nil)) (.setf (.var 0) "now" (.cst (.int 0))))))))))⟩
noncomputable def fN:Fn:=⟨["self","moment"],["self","moment","state","step"], (.seq (.ex (.meth (.var 0) "check" (Z9 (.var 1)))) (.seq (.set 2 (.idx (.fld (.var 0) "kept") (.bin .fdiv (.var 1) (.fld (.var 0) "gap")))) (.seq (.for [(3,"step")] .rng1 (Z9 (.bin .mod (.var 1) (.fld (.var 0) "gap"))) (.set 2 (.meth (.var 0) "behind" (Z9 (.var 2))))) (.ret (.var 2)))))⟩
noncomputable def eV:Fn:=⟨["self"],["self"], (.seq (.ex (.meth (.var 0) "reach" (Z9 (.fld (.var 0) "most")))) (.ret (.fld (.var 0) "farthest")))⟩
noncomputable def cC:Fn:=⟨["self","state"],["self","state"], (.ret (.call "stepped" (Z7 (.fld (.var 0) "program") (.fld (.var 0) "asked") (.var 1))))⟩
noncomputable def bA:Fn:=⟨["self","moment","state"],["self","moment","state"], (.ret (.or (.cmp .ge (.var 1) (.fld (.var 0) "most")) (.call "is_over" (Z8 (.fld (.var 0) "program") (.var 2)))))⟩
noncomputable def cD:Fn:=⟨["self","state"],["self","state"], (.seq (.ex (.me .append (.fld (.var 0) "kept") (Z9 (.var 1)))) (.ife (.cmp .gt (.bi .len UD (Z9 (.fld (.var 0) "kept"))) (.glo "MOST_MARKS")) (.seq (.setf (.var 0) "kept" (.stp UC 2 (.fld (.var 0) "kept"))) (.augf (.var 0) "gap" .mul (.cst (.int 2)))) .nil))⟩
noncomputable def cU:Fn:=⟨["self","moment"],["self","moment"], (.whl (.and (.cmp .lt (.fld (.var 0) "farthest") (.var 1)) (.not (.meth (.var 0) "is_last" (Z8 (.fld (.var 0) "farthest") (.fld (.var 0) "front"))))) (.seq (.setf (.var 0) "front" (.meth (.var 0) "behind" (Z9 (.fld (.var 0) "front")))) (.seq (.augf (.var 0) "farthest" .add (.cst (.int 1))) (.ife (.cmp .eq (.bin .mod (.fld (.var 0) "farthest") (.fld (.var 0) "gap")) (.cst (.int 0))) (.ex (.meth (.var 0) "keep" (Z9 (.fld (.var 0) "front")))) .nil))))⟩
noncomputable def eW:Fn:=⟨["self","moment"],["self","moment"], (.seq (.ife (.or (.not (.call "is_whole" (Z9 (.var 1)))) (.or (.cmp .lt (.var 1) (.cst (.int 0))) (.cmp .gt (.var 1) (.fld (.var 0) "most")))) (.ret (.cst (.bl UD))) .nil) (.seq (.ex (.meth (.var 0) "reach" (Z9 (.var 1)))) (.ret (.cmp .le (.var 1) (.fld (.var 0) "farthest")))))⟩
noncomputable def cV:Fn:=⟨["self","moment"],["self","moment"], (.ife (.not (.meth (.var 0) "has" (Z9 (.var 1)))) .bad .nil)⟩
structure TpP (T:FK->Option Fn) (G:Str->Option W):Prop where
 prg:Prg T G
 is_whole:T "is_whole"=UA eU
 init:T (.m "Tape" "__init__")=UA dB
 behind:T (.m "Tape" "behind")=UA cC
 is_last:T (.m "Tape" "is_last")=UA bA
 keep:T (.m "Tape" "keep")=UA cD
 reach:T (.m "Tape" "reach")=UA cU
 has:T (.m "Tape" "has")=UA eW
 check:T (.m "Tape" "check")=UA cV
 at_:T (.m "Tape" "at")=UA fN
 MOST_MARKS:G "MOST_MARKS"=UA (.p (.int 8))
section
theorem oF (P:TpP T G) (k:Nat) (i:Int) (h:HH):runN T G (k+1) "is_whole" [.p (.int i)] h=UA (.p (.bl UC),h):=by rw[run_eq P.is_whole rfl];simp[eU,aj]
theorem fO (P:TpP T G) (k:Nat) (a:TAt h n r t) (hp:Pg.ok t.p) {st:St} (hj:j<=5000) (at_:At j st) (hb:over t.p st=UD):runN T G (k+7) (.m "Tape" "behind") [.o n,.p st.enc] h=UA (.p (step t.p t.asked st).enc,h):=by rw[run_eq P.behind rfl];have s:=qu P.prg k t.p hp t.asked st at_.ok (at_.small hj) hb;simp[cC,a.ob,s,aj]
theorem gC (P:TpP T G) (k:Nat) (a:TAt h n r t) (mo:Nat) (st:St):runN T G (k+2) (.m "Tape" "is_last") [.o n,.p (.int mo),.p st.enc] h=UA (.p (.bl (decide (t.most<=mo)||over t.p st)),h):=by
 rw[run_eq P.is_last rfl];have o:=qt P.prg k t.p st
 by_cases c:t.most<=mo
 ·have c1:(t.most:Int)<=(mo:Int):=by lia
  simp[bA,a.ob,c,c1,aj]
 ·have c1:¬ (t.most:Int)<=(mo:Int):=by lia
  simp[bA,a.ob,o,c,c1,aj]
theorem zE:RJ (OF UB UB (UA 2) 9).1 (OF UB UB (UA 2) 9).2.1 (OF UB UB (UA 2) 9).2.2=[0,2,4,6,8]:=by decide +kernel
theorem GH (x0 x1 x2 x3 x4 x5 x6 x7 x8:D):pL 2 [x0,x1,x2,x3,x4,x5,x6,x7,x8]=[x0,x2,x4,x6,x8]:=by show (RJ (OF UB UB (UA 2) 9).1 (OF UB UB (UA 2) 9).2.1 (OF UB UB (UA 2) 9).2.2).filterMap _=_;rw[zE];rfl
noncomputable def Tp.keep (t:Tp) (st:St):Tp:=if t.kept.length < 8 then { t with kept:=t.kept++[st] } else { t with kept:=(OP 5).filterMap λi=>(t.kept++[st])[2*i]?,gap:=2*t.gap }
theorem zF (P:TpP T G) (k:Nat) (a:TAt h n r t) (hg:t.gap<=100000) (hl:t.kept.length<=8) (st:St) :
 ∃ h' r',runN T G (k+1) (.m "Tape" "keep") [.o n,.p st.enc] h=UA (.p .non,h')/\Go n h r t h' r' (t.keep st):=by
 have nr:=D3 a.ob a.li;have hn:=jK a.ob;have hr:=jL a.li;have e1:lat (h.set r (Cl.l (t.kept.map St.enc++[st.enc]))) r=UA (t.kept.map St.enc++[st.enc]):=qA hr _;have e2:oat (h.set r (Cl.l (t.kept.map St.enc++[st.enc]))) n=UA (Om "Tape",t.fs r):=(lI nr _).trans a.ob;have l0:t.kept.length < 100000:=by lia
 by_cases c:t.kept.length < 8
 ·have c1:¬ (8:Int) < (t.kept.length:Int)+1:=by lia
  have go:Go n h r t (h.set r (Cl.l (t.kept.map St.enc++[st.enc]))) r (t.keep st):=by refine ⟨a,⟨?_,?_⟩,.inl ⟨by simp,rfl⟩,by simp,λi h1 h2 h3=>OH (Pb h2)⟩;rw[Tp.keep,if_pos c];exact e2;rw[Tp.keep,if_pos c,e1];simp
  refine ⟨_,r,?_,go⟩;rw[run_eq P.keep rfl];have f:=c6 go (.p .non);simp[cD,a.ob,a.li,e1,e2,P.MOST_MARKS,rd,c1,l0,f]
 ·have c8:t.kept.length=8:=by lia
  obtain ⟨x0,x1,x2,x3,x4,x5,x6,x7,ek⟩:∃ x0 x1 x2 x3 x4 x5 x6 x7,t.kept=[x0,x1,x2,x3,x4,x5,x6,x7]:=by
   match t.kept,c8 with
   | [x0,x1,x2,x3,x4,x5,x6,x7],_=>exact ⟨x0,x1,x2,x3,x4,x5,x6,x7,rfl⟩
  have ev:pL 2 (t.kept.map St.enc++[st.enc])=((t.keep st).kept).map St.enc:=by rw[Tp.keep,if_neg c,ek];exact GH _ _ _ _ _ _ _ _ _
  have c1:(8:Int) < (t.kept.length:Int)+1:=by lia
  have e3:∀ g:HH,oat ((h.set r (Cl.l (t.kept.map St.enc++[st.enc])))++g) n=UA (Om "Tape",t.fs r):=λg=>(ud (by simpa using hn)).trans e2;have e4:(h.set r (Cl.l (t.kept.map St.enc++[st.enc]))).length=h.length:=by simp
  have b0:big (t.gap:Int)=UC:=by unfold big;exact decide_eq_true (by lia)
  have go:Go n h r t ((h.set r (Cl.l (t.kept.map St.enc++[st.enc]))++[Cl.l ((t.keep st).kept.map St.enc)]).set n (.o "Tape" ((t.keep st).fs h.length))) h.length (t.keep st):=by
   have hn2:n < (h.set r (Cl.l (t.kept.map St.enc++[st.enc]))++[Cl.l ((t.keep st).kept.map St.enc)]).length:=by simp;lia
   refine ⟨a,⟨je hn2 _,?_⟩,.inr (N3 _),by simp,λi h1 h2 h3=>?_⟩
   ·rw[iI (Pb (On hn))];have:=MG (h.set r (Cl.l (t.kept.map St.enc++[st.enc]))) (Cl.l ((t.keep st).kept.map St.enc)) [];rw[e4] at this;exact this
   rw[OH (Pb h1),N5 (by simpa using h3),OH (Pb h2)]
  refine ⟨_,_,?_,go⟩;rw[run_eq P.keep rfl];have f:=c6 go (.p .non);have k2:(t.keep st).fs h.length=({ t with gap:=2*t.gap }:Tp).fs h.length:=by rw[Tp.keep,if_neg c];rfl
  have pk:bf "gap" (.p (.int ((t.gap:Int)*2))) (t.fs h.length)=(t.keep st).fs h.length:=by rw[k2,← CB t h.length (2*t.gap)];congr 3;show (t.gap:Int)*2=((2*t.gap:Nat):Int);lia
  have hn2:n < (h.set r (Cl.l (t.kept.map St.enc++[st.enc]))++[Cl.l ((t.keep st).kept.map St.enc)]).length:=by simp;lia
  have e5:=je hn2 (.o "Tape" (t.fs h.length));rw[ES] at e5;have s2:∀ x y:Cl,((h.set r (Cl.l (t.kept.map St.enc++[st.enc]))++[Cl.l ((t.keep st).kept.map St.enc)]).set n x).set n y=(h.set r (Cl.l (t.kept.map St.enc++[st.enc]))++[Cl.l ((t.keep st).kept.map St.enc)]).set n y:=λx y=>by rw[TL]
  simp[cD,a.ob,a.li,e1,e2,e3,e4,P.MOST_MARKS,rd,c1,l0,ev,zB,e5,b0,pk,s2,f]
end
structure TI (t:Tp) (e gv:Nat):Prop where
 run:Run t.p t.asked t.most e
 ok:Pg.ok t.p
 ask:Ask t.asked
 g0:0 < t.gap
 g1:t.gap<=1000
 m1:t.most<=1000
 far:t.far<=e
 front:t.front=itr t.p t.asked t.far
 len:t.kept.length=t.far / t.gap+1
 l8:t.kept.length<=8
 kept:∀ j,j < t.kept.length->t.kept[j]?=UA (itr t.p t.asked (j*t.gap))
 now:t.now<=t.far
 pw:∃ j,t.gap=gv*2 ^ j/\(0 < j->8<=t.far / (t.gap / 2))
structure Sm8 (t t':Tp):Prop where
 p:t'.p=t.p
 asked:t'.asked=t.asked
 most:t'.most=t.most
 now:t'.now=t.now
theorem Sm8.refl (t:Tp):Sm8 t t:=⟨rfl,rfl,rfl,rfl⟩
theorem Sm8.trans (x:Sm8 t u) (y:Sm8 u v):Sm8 t v:=⟨y.p.trans x.p,y.asked.trans x.asked,y.most.trans x.most,y.now.trans x.now⟩
noncomputable def Tp.on (t:Tp):Tp:={ t with front:=step t.p t.asked t.front,far:=t.far+1 }
noncomputable def Tp.nx (t:Tp):Tp:=if (t.far+1) % t.gap=0 then t.on.keep t.on.front else t.on
theorem zG (hg:0 < g) (c:¬ (f+1) % g=0):(f+1) / g=f / g:=by
 have h1:=Rk f g;have h2:f % g < g:=Tc _ hg;have e:f+1=g*(f / g)+(f % g+1):=by lia
 have h3:f % g+1 < g:=by
  rcases Os (f % g+1) g with z|z
  exact z
  ·exfalso;apply c;have:f % g+1=g:=by lia
   rw[e,this,Nat.mul_add_mod,Nat.mod_self]
 rw[e,Nat.mul_add_div hg,Nat.div_eq_of_lt h3];lia
theorem zH (hg:0 < g) (c:(f+1) % g=0):(f+1) / g=f / g+1/\(f / g+1)*g=f+1:=by
 have h1:=Rk f g;have h2:f % g < g:=Tc _ hg;have h3:f % g+1=g:=by
  rcases Os (f % g+1) g with z|z
  ·exfalso;have e:f+1=g*(f / g)+(f % g+1):=by lia
   rw[e,Nat.mul_add_mod,Nat.mod_eq_of_lt z] at c;lia
  lia
 have e:f+1=(f / g+1)*g:=by rw[Nat.add_mul,Qc (f / g) g];lia
 exact ⟨by rw[e,RT _ hg],e.symm⟩
theorem TI.nx (I:TI t e gv) (h:t.far < e):TI t.nx e gv/\Sm8 t t.nx/\t.nx.far=t.far+1:=by
 have g0:=I.g0;have hf:step t.p t.asked t.front=itr t.p t.asked (t.far+1):=by rw[I.front];rfl
 have mono:∀ g:Nat,t.far / g<=(t.far+1) / g:=λg=>Rn (P7 _);unfold Tp.nx
 by_cases c:(t.far+1) % t.gap=0
 ·rw[if_pos c];obtain ⟨d1,d2⟩:=zH g0 c;have hfr:t.on.front=itr t.p t.asked (t.far+1):=hf;have kp:∀ j,j < t.kept.length+1->(t.kept++[itr t.p t.asked (t.far+1)])[j]?=UA (itr t.p t.asked (j*t.gap)):=λj hj=>by
   rcases Os j t.kept.length with z|z
   rw[N5 z];exact I.kept j z
   ·have ej:j=t.kept.length:=by lia
    subst ej;rw[Ol (N3 _),Nat.sub_self];have:t.kept.length*t.gap=t.far+1:=by rw[I.len];exact d2
    rw[this];rfl
  unfold Tp.keep
  by_cases c2:t.kept.length < 8
  ·have c2':t.on.kept.length < 8:=c2;rw[if_pos c2'];refine ⟨⟨I.run,I.ok,I.ask,g0,I.g1,I.m1,h,hf,?_,?_,λj hj=>?_,?_,?_⟩,⟨rfl,rfl,rfl,rfl⟩,rfl⟩
   ·show (t.kept++[t.on.front]).length=(t.far+1) / t.gap+1;rw[d1,Oj,I.len];rfl
   ·show (t.kept++[t.on.front]).length<=8;rw[Oj];simp;lia
   ·have hj':j < t.kept.length+1:=by
     have:(t.kept++[t.on.front]).length=t.kept.length+1:=by simp
     rw[← this];exact hj
    show (t.kept++[t.on.front])[j]?=UA (itr t.p t.asked (j*t.gap));rw[hfr];exact kp j hj'
   show t.now<=t.far+1;have:=I.now;lia
   ·obtain ⟨j,h1,h2⟩:=I.pw;exact ⟨j,h1,λhj=>OO (h2 hj) (mono _)⟩
  ·have c2':¬ t.on.kept.length < 8:=c2;rw[if_neg c2'];have l8:t.kept.length=8:=by have:=I.l8;lia
   have f8:t.far+1=8*t.gap:=by rw[← d2,← I.len,l8]
   have le:=I.run.le;have m1:=I.m1;have hk:∀ i,i < 5->(t.kept++[itr t.p t.asked (t.far+1)])[2*i]?=UA (itr t.p t.asked (i*(2*t.gap))):=λi hi=>by rw[kp (2*i) (by lia)];congr 2;rw[Qc 2 i,Nat.mul_assoc]
   have ek:(OP 5).filterMap (λi=>(t.kept++[t.on.front])[2*i]?)=(OP 5).map λi=>itr t.p t.asked (i*(2*t.gap)):=by rw[hfr,show OP 5=[0,1,2,3,4] from rfl];simp only[OE,List.filterMap_nil,hk 0 (by decide),hk 1 (by decide),hk 2 (by decide),hk 3 (by decide),hk 4 (by decide),Oi,P8]
   have dv:(t.far+1) / (2*t.gap)=4:=by rw[f8,show 8*t.gap=4*(2*t.gap) by lia];exact RT _ (by lia)
   refine ⟨⟨I.run,I.ok,I.ask,?_,?_,I.m1,h,hf,?_,?_,λj hj=>?_,?_,?_⟩,⟨rfl,rfl,rfl,rfl⟩,rfl⟩;show 0 < 2*t.gap;lia;show 2*t.gap<=1000;lia
   ·show ((OP 5).filterMap λi=>(t.kept++[t.on.front])[2*i]?).length=(t.far+1) / (2*t.gap)+1;rw[ek,dv];simp
   ·show ((OP 5).filterMap λi=>(t.kept++[t.on.front])[2*i]?).length<=8;rw[ek];simp
   ·have hj':j < 5:=by have q:j < ((OP 5).filterMap λi=>(t.kept++[t.on.front])[2*i]?).length:=hj;rw[ek] at q;simpa using q
    show ((OP 5).filterMap λi=>(t.kept++[t.on.front])[2*i]?)[j]?=UA (itr t.p t.asked (j*(2*t.gap)));rw[ek,Ox,Rq hj'];rfl
   show t.now<=t.far+1;have:=I.now;lia
   ·obtain ⟨j,h1,h2⟩:=I.pw;refine ⟨j+1,?_,λ_=>?_⟩
    ·show 2*t.gap=gv*2 ^ (j+1);rw[h1,Nat.pow_succ];rw[Qc 2,Nat.mul_assoc]
    ·show 8<=(t.far+1) / (2*t.gap / 2);rw[Nat.mul_div_cancel_left _ (by lia:0 < 2),f8,RT _ g0];exact N3 _
 ·rw[if_neg c];refine ⟨⟨I.run,I.ok,I.ask,g0,I.g1,I.m1,h,hf,?_,I.l8,I.kept,?_,?_⟩,⟨rfl,rfl,rfl,rfl⟩,rfl⟩
  ·show t.kept.length=(t.far+1) / t.gap+1;rw[I.len,zG g0 c]
  show t.now<=t.far+1;have:=I.now;lia
  ·obtain ⟨j,h1,h2⟩:=I.pw;exact ⟨j,h1,λhj=>OO (h2 hj) (mono _)⟩
section
noncomputable def rcC:E:=(.and (.cmp .lt (.fld (.var 0) "farthest") (.var 1)) (.not (.meth (.var 0) "is_last" (Z8 (.fld (.var 0) "farthest") (.fld (.var 0) "front")))))
noncomputable def rcB:S:=(.seq (.setf (.var 0) "front" (.meth (.var 0) "behind" (Z9 (.fld (.var 0) "front")))) (.seq (.augf (.var 0) "farthest" .add (.cst (.int 1))) (.ife (.cmp .eq (.bin .mod (.fld (.var 0) "farthest") (.fld (.var 0) "gap")) (.cst (.int 0))) (.ex (.meth (.var 0) "keep" (Z9 (.fld (.var 0) "front")))) .nil)))
theorem gU (t:Tp) (r:Nat):aU "is_last" (t.fs r)=UB:=cB t r rfl
theorem gD (t:Tp) (r:Nat):aU "behind" (t.fs r)=UB:=cB t r rfl
theorem GI (t:Tp) (r:Nat):aU "keep" (t.fs r)=UB:=cB t r rfl
theorem ue (t:Tp) (r:Nat):aU "reach" (t.fs r)=UB:=cB t r rfl
theorem JH (t:Tp) (r:Nat):aU "has" (t.fs r)=UB:=cB t r rfl
theorem uf (t:Tp) (r:Nat):aU "check" (t.fs r)=UB:=cB t r rfl
theorem JI (t:Tp) (r:Nat):aU "at" (t.fs r)=UB:=cB t r rfl
theorem JJ (t:Tp) (r:Nat):aU "end" (t.fs r)=UB:=cB t r rfl
theorem JK (a:TAt h n r t) (t':Tp) (k:t'.kept=t.kept):Go n h r t (h.set n (.o "Tape" (t'.fs r))) r t':=by have hn:=jK a.ob;have nr:=D3 a.ob a.li;exact ⟨a,⟨je hn _,by rw[iI (Pb nr),k];exact a.li⟩,.inl ⟨by simp,rfl⟩,by simp,λi h1 _ _=>OH (Pb h1)⟩
theorem CG (P:TpP T G) (k:Nat) (a:TAt h n r t) (I:TI t e gv) (hl:t.far < e) (w:W) :
 ∃ h' r',evS (runN T G (k+7)) G rcB [UA (.o n),UA w] h=UA (.nx [UA (.o n),UA w] h')/\Go n h r t h' r' t.nx:=by
 have hn:=jK a.ob;have atf:=lH I.ok I.ask I.run t.far (by lia);have le:=I.run.le;have m1:=I.m1;have bh:=fO P k a I.ok (j:=t.far) (st:=t.front) (by lia) (by rw[I.front];exact atf) (by rw[I.front];exact I.run.on _ hl);have go1:=JK a t.on rfl;have e1:oat (h.set n (.o "Tape" (({ t with front:=step t.p t.asked t.front }:Tp).fs r))) n=UA (Om "Tape",({ t with front:=step t.p t.asked t.front }:Tp).fs r):=je hn _;have pf:=vW t r (step t.p t.asked t.front);have pa:bf "farthest" (.p (.int ((t.far:Int)+1))) (({ t with front:=step t.p t.asked t.front }:Tp).fs r)=t.on.fs r:=CD ({ t with front:=step t.p t.asked t.front }:Tp) r (t.far+1);have e2:oat (h.set n (.o "Tape" (t.on.fs r))) n=UA (Om "Tape",t.on.fs r):=je hn _;have g0:(0:Int) < (t.gap:Int):=by have:=I.g0;lia
 have s2:∀ x y:Cl,(h.set n x).set n y=h.set n y:=λx y=>by rw[TL]
 have of:t.on.far=t.far+1:=rfl;have og:t.on.gap=t.gap:=rfl;have pre:evS (runN T G (k+7)) G rcB [UA (.o n),UA w] h=evS (runN T G (k+7)) G (.ife (.cmp .eq (.bin .mod (.fld (.var 0) "farthest") (.fld (.var 0) "gap")) (.cst (.int 0))) (.ex (.meth (.var 0) "keep" (.cons (.fld (.var 0) "front") .nil))) .nil) [UA (.o n),UA w] (h.set n (.o "Tape" (t.on.fs r))):=by rw[rcB];simp[a.ob,bh,gD,pf,e1,pa,s2]
 rw[pre];unfold Tp.nx;have cm:(((t.far+1) % t.gap:Nat):Int)=((t.far:Int)+1) % (t.gap:Int):=by simp
 by_cases c:(t.far+1) % t.gap=0
 ·rw[if_pos c];have c1:((t.far:Int)+1) % (t.gap:Int)=0:=by lia
  obtain ⟨h2,r2,k1,k2⟩:=zF P (k+6) go1.b (by show t.gap<=100000;have:=I.g1;lia) (by show t.kept.length<=8;exact I.l8) t.on.front;refine ⟨h2,r2,?_,go1.trans k2⟩;simp[e2,of,og,g0,I.g0,c1,GI,k1]
 ·rw[if_neg c];have c1:¬ ((t.far:Int)+1) % (t.gap:Int)=0:=by lia
  refine ⟨_,r,?_,go1⟩;have c2:(((t.far:Int)+1) % (t.gap:Int)==0)=UD:=by simpa using c1
  simp[e2,of,og,g0,I.g0,c2]
theorem oG (P:TpP T G) (k:Nat) (a:TAt h n r t) (I:TI t e gv) (m:Nat) :
 BT.ev (runN T G (k+7)) G rcC [UA (.o n),UA (.p (.int m))] h=UA (.p (.bl (decide (t.far < min m e))),h):=by
 have il:=gC P (k+5) a t.far t.front;have le:=I.run.le
 by_cases c:t.far < m
 ·have c1:(t.far:Int) < (m:Int):=by lia
  by_cases c2:t.far < e
  ·have o:over t.p t.front=UD:=by rw[I.front];exact I.run.on _ c2
   have q:(decide (t.most<=t.far)||over t.p t.front)=UD:=by rw[o,Tf];exact decide_eq_false (by lia)
   rw[q] at il;have d:decide (t.far < min m e)=UC:=decide_eq_true (by lia);rw[d];simp[rcC,a.ob,c1,c,gU,il]
  ·have fe:t.far=e:=by have:=I.far;lia
   have q:(decide (t.most<=t.far)||over t.p t.front)=UC:=by
    rcases I.run.last with z|z
    rw[decide_eq_true (by lia)];rfl;rw[I.front,fe,z,Bool.or_true]
   rw[q] at il;have d:decide (t.far < min m e)=UD:=decide_eq_false (by lia);rw[d];simp[rcC,a.ob,c1,c,gU,il]
 ·have c1:¬ (t.far:Int) < (m:Int):=by lia
  have d:decide (t.far < min m e)=UD:=decide_eq_false (by lia);rw[d];simp[rcC,a.ob,c1,c]
theorem CH (P:TpP T G) (k:Nat) (n:Nat) (e gv m:Nat):∀ (d f:Nat) (h:HH) (r:Nat) (t:Tp),TAt h n r t->TI t e gv->min m e - t.far<=d->d<=f →
 ∃ h' r' t',bE (BT.ev (runN T G (k+7)) G rcC) (evS (runN T G (k+7)) G rcB) (f+1) [UA (.o n),UA (.p (.int m))] h=UA (.nx [UA (.o n),UA (.p (.int m))] h')/\Go n h r t h' r' t'/\TI t' e gv/\Sm8 t t'/\t'.far=max t.far (min m e):=by
 intro d
 induction d with
 | zero =>
  intro f h r t a I hd hf;have q:=oG P k a I m;rw[decide_eq_false (by lia)] at q;refine ⟨h,r,t,?_,.refl a,I,.refl t,by lia⟩;rw[bE,q,dJ,iw]
 | succ d ih =>
  intro f h r t a I hd hf
  by_cases c:t.far < min m e
  ·have q:=oG P k a I m;rw[decide_eq_true c] at q;obtain ⟨h1,r1,b1,g1⟩:=CG P k a I (by lia) (.p (.int m));obtain ⟨I1,s1,f1⟩:=I.nx (by lia);cases f with
   | zero=>lia
   | succ f =>
    obtain ⟨h2,r2,t2,b2,g2,I2,s2,f2⟩:=ih f h1 r1 t.nx g1.b I1 (by lia) (by lia);refine ⟨h2,r2,t2,?_,g1.trans g2,I2,s1.trans s2,by lia⟩;rw[bE,q,dJ,jB,b1,bD,b2]
  ·have q:=oG P k a I m;rw[decide_eq_false c] at q;refine ⟨h,r,t,?_,.refl a,I,.refl t,by lia⟩;rw[bE,q,dJ,iw]
theorem qB:cU=⟨["self","moment"],["self","moment"],.whl rcC rcB⟩:=rfl
inductive JL (x:Option (W×HH)) (c:Option Nat->D) (F:Option Nat->Prop) (n:Nat) (h:HH) (r:Nat) (t:Tp) (e gv:Nat):Prop where
 | mk (o:Option Nat) (h':HH) (r':Nat) (t':Tp) (q:x=UA (.p (c o),h')) (f:F o) (g:Go n h r t h' r' t') (i:TI t' e gv) (m:Sm8 t t'):JL x c F n h r t e gv
inductive vX {α:Type} (x:Option (α×HH)) (y:α) (n:Nat) (h:HH) (r:Nat) (t:Tp) (e gv f:Nat):Prop where
 | mk (h':HH) (r':Nat) (t':Tp) (q:x=UA (y,h')) (g:Go n h r t h' r' t') (i:TI t' e gv) (m:Sm8 t t') (a:t'.far=f):vX x y n h r t e gv f
theorem m8 (P:TpP T G) (k:Nat) (a:TAt h n r t) (I:TI t e gv) (m:Nat) :
 vX (runN T G (k+8) (.m "Tape" "reach") [.o n,.p (.int m)] h) (.p .non) n h r t e gv (max t.far (min m e)):=by
 have le:=I.run.le;have m1:=I.m1;obtain ⟨h',r',t',b,g,I',s,f⟩:=CH P k n e gv m 99999 99999 h r t a I (by lia) (N3 _);refine ⟨h',r',t',?_,g,I',s,f⟩;rw[run_eq P.reach rfl,qB];have fn:=c6 g (.p .non);simp[turns,b,fn]
theorem CJ (P:TpP T G) (k:Nat) (a:TAt h n r t) (I:TI t e gv) (m:Nat) (hm:m<=t.most) :
 vX (runN T G (k+9) (.m "Tape" "has") [.o n,.p (.int m)] h) (.p (.bl (decide (m<=e)))) n h r t e gv (max t.far (min m e)):=by
 obtain ⟨h',r',t',b,g,I',s,f⟩:=m8 P k a I m;refine ⟨h',r',t',?_,g,I',s,f⟩;rw[run_eq P.has rfl];have w:=oF P (k+7) m;have c1:¬ ((m:Int) < 0):=by lia
 have c2:¬ ((t.most:Int) < (m:Int)):=by lia
 have fn:=λw=>c6 g w;have far:=I.far;have d:decide ((m:Int)<=(t'.far:Int))=decide (m<=e):=by
  by_cases c:m<=e
  rw[decide_eq_true c];exact decide_eq_true (by lia);rw[decide_eq_false c];exact decide_eq_false (by lia)
 simp[eW,w,c1,a.ob,c2,ue,b,g.b.ob,fn];simpa using d
theorem ng (P:TpP T G) (k:Nat) (a:TAt h n r t) (I:TI t e gv) (m:Nat) (hm:m<=e) :
 vX (runN T G (k+10) (.m "Tape" "check") [.o n,.p (.int m)] h) (.p .non) n h r t e gv (max t.far m):=by
 obtain ⟨h',r',t',b,g,I',s,f⟩:=CJ P k a I m (OO hm I.run.le);rw[decide_eq_true hm] at b;refine ⟨h',r',t',?_,g,I',s,by lia⟩;rw[run_eq P.check rfl];have fn:=c6 g (.p .non);simp[cV,a.ob,JH,b,fn]
noncomputable def atB:S:=(.set 2 (.meth (.var 0) "behind" (Z9 (.var 2))))
theorem ug (P:TpP T G) (k:Nat) (a:TAt h n r t) (I:TI t e gv) (w1:W):∀ (q j:Nat) (x:Option W) (lo:Int),j+q<=e →
 ∃ x',aJ (evS (runN T G (k+7)) G atB) [(3,"step")] (upto lo q) [UA (.o n),UA w1,UA (.p (itr t.p t.asked j).enc),x] h=UA (.nx [UA (.o n),UA w1,UA (.p (itr t.p t.asked (j+q)).enc),x'] h)
 | 0,j,x,lo,_=>⟨x,rfl⟩
 | q+1,j,x,lo,hj=>by
  have le:=I.run.le;have m1:=I.m1;obtain ⟨x',b⟩:=ug P k a I w1 q (j+1) (UA (.p (.int lo))) (lo+1) (by lia);refine ⟨x',?_⟩;have bh:=fO P k a I.ok (j:=j) (st:=itr t.p t.asked j) (by lia) (lH I.ok I.ask I.run j (by lia)) (I.run.on j (by lia));have up:upto lo (q+1)=.int lo::upto (lo+1) q:=by unfold upto;rw[Q4,Oi,OW];simp only[Int.natCast_zero,Int.add_zero,Qv,true_and];apply Pe;intro i _;simp;lia
  rw[up];have s1:step t.p t.asked (itr t.p t.asked j)=itr t.p t.asked (j+1):=rfl;rw[s1] at bh;have ej:j+1+q=j+(q+1):=by lia
  rw[ej] at b;have hb:evS (runN T G (k+7)) G atB [UA (.o n),UA w1,UA (.p (itr t.p t.asked j).enc),UA (.p (.int lo))] h=UA (.nx [UA (.o n),UA w1,UA (.p (itr t.p t.asked (j+1)).enc),UA (.p (.int lo))] h):=by simp[atB,a.ob,gD,bh]
  simp[hb,b]
theorem zI:fN=⟨["self","moment"],["self","moment","state","step"],(.seq (.ex (.meth (.var 0) "check" (.cons (.var 1) .nil)))
 (.seq (.set 2 (.idx (.fld (.var 0) "kept") (.bin .fdiv (.var 1) (.fld (.var 0) "gap"))))
 (.seq (.for [(3,"step")] .rng1 (.cons (.bin .mod (.var 1) (.fld (.var 0) "gap")) .nil) atB)
 (.ret (.var 2)))))⟩:=rfl
theorem zJ (P:TpP T G) (k:Nat) (a:TAt h n r t) (I:TI t e gv) (m:Nat) (hm:m<=e) :
 vX (runN T G (k+11) (.m "Tape" "at") [.o n,.p (.int m)] h) (.p (itr t.p t.asked m).enc) n h r t e gv (max t.far m):=by
 obtain ⟨h',r',t',b,g,I',s,f⟩:=ng P k a I m hm;refine ⟨h',r',t',?_,g,I',s,f⟩;rw[run_eq P.at_ rfl,zI];have fn:=λw=>c6 g w;have g0:=I'.g0;have g1:=I'.g1;have dm:=Rk m t'.gap;have md:=Tc m g0;have hq:m / t'.gap < t'.kept.length:=by rw[I'.len];have:m / t'.gap<=t'.far / t'.gap:=Rn (by lia);lia
 have hk:=I'.kept _ hq;have le:=I'.run.le;have m1:=I'.m1;rw[s.p,s.asked] at hk;have gz:(0:Int) < (t'.gap:Int):=by lia
 have gm:(t'.gap:Int) < 1073741824:=by lia
 have e1:(m:Int) / (t'.gap:Int)=((m / t'.gap:Nat):Int):=by simp
 have e2:(m:Int) % (t'.gap:Int)=((m % t'.gap:Nat):Int):=by simp
 have ix:aG (.lst (t'.kept.map St.enc)) (.int ((m / t'.gap:Nat):Int))=UA (itr t.p t.asked (m / t'.gap*t'.gap)).enc:=by show atP _ _=_;rw[gS,Ox,hk];rfl
 obtain ⟨x',lp⟩:=ug P (k+3) g.b I' (.p (.int m)) (m % t'.gap) (m / t'.gap*t'.gap) UB 0 (by rw[Qc];lia);rw[s.p,s.asked] at lp;have em:m / t'.gap*t'.gap+m % t'.gap=m:=by rw[Qc];exact dm
 rw[em] at lp;have rg:dI .rng1 [.int ((m % t'.gap:Nat):Int)]=UA (upto 0 (m % t'.gap)):=by
  rw[bI];have c:((-100000<=(((m % t'.gap:Nat):Int)):Bool)&&(((m % t'.gap:Nat):Int)<=100000:Bool))=UC:=by simp only[NY,decide_eq_true_eq];lia
  rw[if_pos c];rfl
 simp[-aX,-bI,-Int.natCast_ediv,-Int.natCast_emod,a.ob,uf,b,g.b.ob,g.b.li,rd,gz,g0,gm,e1,e2,ix,rg,fu,lp,fn]
end
section
theorem zK (i:Nat) (hi:i < h.length) (ne:h'[i]?≠h[i]?) (w:W):fin h w h'=UA (w,h'):=by
 unfold fin
 by_cases c:h'.length=h.length
 rw[if_pos c]
 ·rw[if_neg c,if_neg];intro z;apply ne;have q:=P9 (l:=h') hi;rw[z] at q;exact q.symm
noncomputable def Tp.new (p:Pg) (asked:List Int) (ev most:Nat):Tp:=⟨p,asked,ev,most,[St.zero],0,St.zero,0⟩
theorem zL (P:TpP T G) (k:Nat) (p:Pg) (asked:List Int) (ev most:Nat) (hv:1<=ev) (h:HH) :
 runN T G (k+2) (.m "Tape" "__init__") [.o h.length,.p (aQ p),.p (.lst (aa asked)),.p (.int ev),.p (.int most)] (h++[.o "Tape" []])=UA (.p .non,h++[.o "Tape" ((Tp.new p asked ev most).fs (h.length+1)),.l [St.zero.enc]]):=by
 rw[run_eq P.init rfl];have b:=vQ P.prg k;have c0:(if (1:Int) > (ev:Int) then (1:Int) else (ev:Int))=(ev:Int):=if_neg (by lia);have c1:(if (0:Int) > (most:Int) then (0:Int) else (most:Int))=(most:Int):=if_neg (by lia);have f:∀ (c:Cl) (g:HH) (w:W),c≠.o "Tape" []->fin (h++[.o "Tape" []]) w (h++c::g)=UA (w,h++c::g):=λc g w hc=>by refine zK h.length (by simp) ?_ w;simp;exact hc
 have f2:=f (.o "Tape" ((Tp.new p asked ev most).fs (h.length+1))) [.l [St.zero.enc]] (.p .non) (by simp[Tp.fs]);have fs:(Tp.new p asked ev most).fs (h.length+1)=([("program",.p (aQ p)),("asked",.p (.lst (aa asked))),("gap",.p (.int ev)),("most",.p (.int most)),("kept",.r (h.length+1)),("farthest",.p (.int 0)),("front",.p St.zero.enc),("now",.p (.int 0))]:List (Str×W)):=by simp[Tp.fs,Tp.new]
 rw[fs] at f2 ⊢;rw[dB];simp only[eZ,Oi,P8,Oq,O6];simp[c0,c1,b,f2]
theorem GJ {ev:Nat} (hp:Pg.ok p) (ha:Ask asked) (R:Run p asked most e) (h1:1<=ev) (h2:ev<=1000) (h3:most<=1000):TI (Tp.new p asked ev most) e ev :=
 ⟨R,hp,ha,h1,h2,h3,O5 _,rfl,by simp[Tp.new],by simp[Tp.new],λj hj=>by
  have:j=0:=by simpa [Tp.new] using hj
  subst this;simp[Tp.new,itr],O5 _,⟨0,by simp[Tp.new],λz=>absurd z (OJ _)⟩⟩
theorem GK (h:HH) (p:Pg) (asked:List Int) (ev most:Nat):TAt (h++[.o "Tape" ((Tp.new p asked ev most).fs (h.length+1)),.l [St.zero.enc]]) h.length (h.length+1) (Tp.new p asked ev most) :=
 ⟨by simp,by simp[Tp.new]⟩
theorem TAt.app (a:TAt h n r t):TAt (h++g) n r t:=⟨(ud (jK a.ob)).trans a.ob,(CF (jL a.li)).trans a.li⟩
end
noncomputable def ltC:E:=(.and (.cmp .isN (.var 3) (.cst .non)) (.cmp .ge (.var 1) (.cst (.int 0))))
noncomputable def ltB:S:=(.seq (.set 4 (.bin .sub (.var 1) (.bin .mod (.var 1) (.fld (.var 0) "gap")))) (.seq (.set 3 (.meth (.var 0) "last_between" (Z7 (.var 4) (.var 1) (.var 2)))) (.set 1 (.bin .sub (.var 4) (.cst (.int 1))))))
noncomputable def bT:Fn:=⟨["self","moment","test"],["self","moment","test","found","mark"], (.seq (.ex (.meth (.var 0) "check" (Z9 (.var 1)))) (.seq (.set 3 (.cst .non)) (.seq (.whl ltC ltB) (.ret (.var 3)))))⟩
noncomputable def lbB:S:=(.seq (.ife (.cmp .gt (.var 6) (.var 1)) (.set 4 (.meth (.var 0) "behind" (Z9 (.var 4)))) .nil) (.ife (.callv 3 (Z9 (.var 4))) (.set 5 (.var 6)) .nil))
noncomputable def aR:Fn:=⟨["self","mark","moment","test"],["self","mark","moment","test","state","found","number"], (.seq (.set 4 (.idx (.fld (.var 0) "kept") (.bin .fdiv (.var 1) (.fld (.var 0) "gap")))) (.seq (.set 5 (.cst .non)) (.seq (.for [(6,"number")] .rng2 (Z8 (.var 1) (.bin .add (.var 2) (.cst (.int 1)))) lbB) (.ret (.var 5)))))⟩
structure TpB (T:FK->Option Fn):Prop where
 last:T (.m "Tape" "last_to")=UA bT
 betw:T (.m "Tape" "last_between")=UA aR
noncomputable def cN:Option Nat->D
 | none=>.non| some j=>.int j
@[simp] theorem GL:cN UB=.non:=rfl
@[simp] theorem MM (j:Nat):cN (UA j)=.int j:=rfl
structure FF (g:Nat->Bool) (m e:Nat) (o:Option Nat):Prop where
 yes:∀ j,o=UA j->m<=j/\j<=e/\g j=UC/\∀ i,m<=i->i < j->g i=UD
 no:o=UB->∀ i,m<=i->i<=e->g i=UD
structure FL (g:Nat->Bool) (a b:Nat) (o:Option Nat):Prop where
 yes:∀ j,o=UA j->a<=j/\j<=b/\g j=UC/\∀ i,j < i->i<=b->g i=UD
 no:o=UB->∀ i,a<=i->i<=b->g i=UD
section
def Tst (T:FK->Option Fn) (G:Str->Option W) (n:Nat) (t:Tp) (q:FK) (cs:List Cp) (g:Nat->Bool) (e:Nat):Prop :=
 ∀ k h r t',TAt h n r t'->Sm8 t t'->∀ i,i<=e->runN T G (k+10) q (.p (itr t.p t.asked i).enc::cs.map Cp.w) h=UA (.p (.bl (g i)),h)
theorem zM (t:Tp) (r:Nat):aU "last_to" (t.fs r)=UB:=cB t r rfl
theorem GM (t:Tp) (r:Nat):aU "last_between" (t.fs r)=UB:=cB t r rfl
theorem zN (R:Run p asked most e) (h:m<=e):(decide (most<=m)||over p (itr p asked m))=decide (m=e):=by
 have le:=R.le
 by_cases c:m=e
 ·rw[decide_eq_true c];rcases R.last with z|z
  rw[decide_eq_true (by lia)];rfl;rw[c,z,Bool.or_true]
 rw[decide_eq_false c,R.on m (by lia),decide_eq_false (by lia)];rfl
theorem dQ (lo:Int) (q:Nat):upto lo (q+1)=.int lo::upto (lo+1) q:=by unfold upto;rw[Q4,Oi,OW];simp only[Int.natCast_zero,Int.add_zero,Qv,true_and];apply Pe;intro i _;simp;lia
theorem uh (P:TpP T G) (k:Nat) (A:TAt h n r t) (I:TI t e gv) (s0:Sm8 t0 t) {E:Nat} (tt:Tst T G n t0 q cs g E) (a:Nat) (w2:W):∀ (c j:Nat) (o:Option Nat) (x:Option W),a<=j->j+c<=e->j+c<=E->FL g a j o →
 ∃ o' x',aJ (evS (runN T G (k+10)) G lbB) [(6,"number")] (upto ((j+1:Nat):Int) c) [UA (.o n),UA (.p (.int a)),UA w2,UA (.c q cs),UA (.p (itr t.p t.asked j).enc),UA (.p (cN o)),x] h =
  UA (.nx [UA (.o n),UA (.p (.int a)),UA w2,UA (.c q cs),UA (.p (itr t.p t.asked (j+c)).enc),UA (.p (cN o')),x'] h)/\FL g a (j+c) o'
 | 0,j,o,x,_,_,_,F=>⟨o,x,rfl,F⟩
 | c+1,j,o,x,h1,h2,h2',F=>by
  have le:=I.run.le;have m1:=I.m1;have t1:=tt k h r t A s0 (j+1) (by lia);rw[← s0.p,← s0.asked] at t1;have bh:=fO P (k+3) A I.ok (j:=j) (st:=itr t.p t.asked j) (by lia) (lH I.ok I.ask I.run j (by lia)) (I.run.on j (by lia));have s1:step t.p t.asked (itr t.p t.asked j)=itr t.p t.asked (j+1):=rfl;rw[s1] at bh;have gt:(a:Int) < ((j+1:Nat):Int):=by lia
  have F1:FL g a (j+1) (if g (j+1)=UC then UA (j+1) else o):=by
   by_cases c1:g (j+1)=UC
   ·rw[if_pos c1];exact ⟨λi e1=>by cases e1;exact ⟨by lia,N3 _,c1,λi h3 h4=>by lia⟩,λz=>by cases z⟩
   ·rw[if_neg c1];have c2:g (j+1)=UD:=by simpa using c1
    refine ⟨λi e1=>?_,λz i h3 h4=>?_⟩
    ·obtain ⟨q1,q2,q3,q4⟩:=F.yes i e1;refine ⟨q1,by lia,q3,λi' h3 h4=>?_⟩
     by_cases c3:i'=j+1
     rw[c3];exact c2;exact q4 i' h3 (by lia)
    ·by_cases c3:i=j+1
     rw[c3];exact c2;exact F.no z i h3 (by lia)
  obtain ⟨o',x',b,F'⟩:=uh P k A I s0 tt a w2 c (j+1) _ (UA (.p (.int ((j+1:Nat):Int)))) (by lia) (by lia) (by lia) F1;have ej:j+1+c=j+(c+1):=by lia
  rw[ej] at b F';refine ⟨o',x',?_,F'⟩;have bd:evS (runN T G (k+10)) G lbB [UA (.o n),UA (.p (.int a)),UA w2,UA (.c q cs),UA (.p (itr t.p t.asked j).enc),UA (.p (cN o)),UA (.p (.int ((j+1:Nat):Int)))] h =
   UA (.nx [UA (.o n),UA (.p (.int a)),UA w2,UA (.c q cs),UA (.p (itr t.p t.asked (j+1)).enc),UA (.p (cN (if g (j+1)=UC then UA (j+1) else o))),UA (.p (.int ((j+1:Nat):Int)))] h):=by
   generalize hz:((j+1:Nat):Int)=z at gt;have ez:∀ i:Nat,i=j+1->(D.int (i:Int))=D.int z:=λi e1=>by rw[e1,hz]
   cases g1:g (j+1) with
   | true =>
    rw[g1] at t1;simp[lbB,gt,A.ob,gD,bh,t1,hz]
   | false =>
    rw[g1] at t1;simp[lbB,gt,A.ob,gD,bh,t1]
  have e1:((j+1:Nat):Int)+1=((j+1+1:Nat):Int):=by lia
  rw[dQ,e1];have st:∀ (d:D) (l:List D) (s':Sl) (w:Option W),aJ (evS (runN T G (k+10)) G lbB) [(6,"number")] (d::l) [UA (.o n),UA (.p (.int a)),UA w2,UA (.c q cs),UA (.p (itr t.p t.asked j).enc),UA (.p (cN o)),w] h =
   d8 (evS (runN T G (k+10)) G lbB [UA (.o n),UA (.p (.int a)),UA w2,UA (.c q cs),UA (.p (itr t.p t.asked j).enc),UA (.p (cN o)),UA (.p d)] h) (aJ (evS (runN T G (k+10)) G lbB) [(6,"number")] l):=λd l s' w=>rfl
  rw[st _ _ [] x,bd,bD,b]
theorem zO (P:TpP T G) (L:TpB T) (k:Nat) (A:TAt h n r t) (I:TI t e gv) (s0:Sm8 t0 t) {E:Nat} (tt:Tst T G n t0 q cs g E) (a m:Nat) (h1:a<=m) (h2:m<=t.far) (hE:m<=E) (h3:a % t.gap=0) :
 ∃ o,runN T G (k+11) (.m "Tape" "last_between") [.o n,.p (.int a),.p (.int m),.c q cs] h=UA (.p (cN o),h)/\FL g a m o:=by
 have le:=I.run.le;have m1:=I.m1;have fr:=I.far;have g0:=I.g0;have g1':=I.g1;have t1:=tt k h r t A s0 a (by lia);rw[← s0.p,← s0.asked] at t1;have F0:FL g a a (if g a=UC then UA a else UB):=by
  by_cases c:g a=UC
  rw[if_pos c];exact ⟨λi e1=>by cases e1;exact ⟨N3 _,N3 _,c,λi h3 h4=>by lia⟩,λz=>by cases z⟩;rw[if_neg c];exact ⟨λi e1=>(by cases e1),λ_ i h3 h4=>by rw[show i=a by lia];simpa using c⟩
 obtain ⟨o,x',b,F⟩:=uh P k A I s0 tt a (.p (.int m)) (m - a) a _ (UA (.p (.int (a:Int)))) (N3 _) (by lia) (by lia) F0;rw[show a+(m - a)=m by lia] at b F;refine ⟨o,?_,F⟩;rw[run_eq L.betw rfl,aR];have hq:a / t.gap < t.kept.length:=by rw[I.len];have:a / t.gap<=t.far / t.gap:=Rn (by lia);lia
 have hk:=I.kept _ hq;have ea:a / t.gap*t.gap=a:=Nat.div_mul_cancel (Nat.dvd_of_mod_eq_zero h3);rw[ea] at hk;have e1:(a:Int) / (t.gap:Int)=((a / t.gap:Nat):Int):=by simp
 have ix:aG (.lst (t.kept.map St.enc)) (.int ((a / t.gap:Nat):Int))=UA (itr t.p t.asked a).enc:=by show atP _ _=_;rw[gS,Ox,hk];rfl
 have gz:(0:Int) < (t.gap:Int):=by lia
 have gm:(t.gap:Int) < 1073741824:=by lia
 have rg:dI .rng2 [.int (a:Int),.int ((m:Int)+1)]=UA (.int (a:Int)::upto ((a+1:Nat):Int) (m - a)):=by
  rw[jA];have c:((-100000<=(a:Int):Bool)&&((a:Int)<=100000:Bool)&&((-100000<=(m:Int)+1:Bool))&&(((m:Int)+1<=100000:Bool)))=UC:=by simp only[NY,decide_eq_true_eq];lia
  rw[if_pos c,show ((m:Int)+1 - (a:Int)).toNat=(m - a)+1 by lia,dQ];rfl
 have bd:evS (runN T G (k+10)) G lbB [UA (.o n),UA (.p (.int a)),UA (.p (.int m)),UA (.c q cs),UA (.p (itr t.p t.asked a).enc),UA (.p .non),UA (.p (.int (a:Int)))] h =
  UA (.nx [UA (.o n),UA (.p (.int a)),UA (.p (.int m)),UA (.c q cs),UA (.p (itr t.p t.asked a).enc),UA (.p (cN (if g a=UC then UA a else UB))),UA (.p (.int (a:Int)))] h):=by
  cases g1:g a with
  | _=>rw[g1] at t1;simp[lbB,t1]
 have st:∀ (d:D) (l:List D) (w:Option W),aJ (evS (runN T G (k+10)) G lbB) [(6,"number")] (d::l) [UA (.o n),UA (.p (.int a)),UA (.p (.int m)),UA (.c q cs),UA (.p (itr t.p t.asked a).enc),UA (.p .non),w] h =
  d8 (evS (runN T G (k+10)) G lbB [UA (.o n),UA (.p (.int a)),UA (.p (.int m)),UA (.c q cs),UA (.p (itr t.p t.asked a).enc),UA (.p .non),UA (.p d)] h) (aJ (evS (runN T G (k+10)) G lbB) [(6,"number")] l):=λd l w=>rfl
 have lp:aJ (evS (runN T G (k+10)) G lbB) [(6,"number")] (.int (a:Int)::upto ((a+1:Nat):Int) (m - a)) [UA (.o n),UA (.p (.int a)),UA (.p (.int m)),UA (.c q cs),UA (.p (itr t.p t.asked a).enc),UA (.p .non),UB] h=UA (.nx [UA (.o n),UA (.p (.int a)),UA (.p (.int m)),UA (.c q cs),UA (.p (itr t.p t.asked m).enc),UA (.p (cN o)),x'] h):=by rw[st,bd,bD,b]
 generalize upto ((a+1:Nat):Int) (m - a)=ll at rg lp;simp[-aX,-jA,-Int.natCast_ediv,A.ob,A.li,rd,gz,g0,gm,e1,ix,rg,fu,-aJ,lp,aj]
theorem um (P:TpP T G) (L:TpB T) (k:Nat) (A:TAt h n r t) (I:TI t e gv) (s0:Sm8 t0 t) {E:Nat} (tt:Tst T G n t0 q cs g E) (M:Nat) (hM:M<=t.far) (hE:M<=E):∀ (f mm:Nat) (o:Option Nat) (x:Option W),mm < f->mm<=M+1 →
 (o=UB->∀ i,mm<=i->i<=M->g i=UD)->(∀ j,o=UA j->FL g 0 M (UA j)) →
 ∃ o' y x',bE (BT.ev (runN T G (k+11)) G ltC) (evS (runN T G (k+11)) G ltB) f [UA (.o n),UA (.p (.int ((mm:Int) - 1))),UA (.c q cs),UA (.p (cN o)),x] h=UA (.nx [UA (.o n),y,UA (.c q cs),UA (.p (cN o')),x'] h)/\FL g 0 M o'
 | 0,mm,o,x,hf,_,_,_=>absurd hf (SI _)
 | f+1,mm,UA j,x,hf,hm,i1,i2=>by
  refine ⟨UA j,UA (.p (.int ((mm:Int) - 1))),x,?_,i2 j rfl⟩;have ts:BT.ev (runN T G (k+11)) G ltC [UA (.o n),UA (.p (.int ((mm:Int) - 1))),UA (.c q cs),UA (.p (cN (UA j))),x] h=UA (.p (.bl UD),h):=by simp[ltC]
  rw[bE,ts,dJ,iw]
 | f+1,0,UB,x,hf,hm,i1,i2=>by
  refine ⟨UB,UA (.p (.int (((0:Nat):Int) - 1))),x,?_,⟨λj z=>(by cases z),λ_ i h1 h2=>i1 rfl i h1 h2⟩⟩;have ts:BT.ev (runN T G (k+11)) G ltC [UA (.o n),UA (.p (.int (((0:Nat):Int) - 1))),UA (.c q cs),UA (.p (cN UB)),x] h=UA (.p (.bl UD),h):=by simp[ltC]
  rw[bE,ts,dJ,iw]
 | f+1,m+1,UB,x,hf,hm,i1,i2=>by
  have e0:((m+1:Nat):Int) - 1=(m:Int):=by lia
  rw[e0];have ts:BT.ev (runN T G (k+11)) G ltC [UA (.o n),UA (.p (.int (m:Int))),UA (.c q cs),UA (.p (cN UB)),x] h=UA (.p (.bl UC),h):=by simp[ltC]
  have g0:=I.g0;have dm:=Rk m t.gap;have md:=Tc m g0;have mk:(m - m % t.gap) % t.gap=0:=by
   have:m - m % t.gap=t.gap*(m / t.gap):=by lia
   rw[this];exact Nat.mul_mod_right _ _
  obtain ⟨o1,b1,F1⟩:=zO P L k A I s0 tt (m - m % t.gap) m (by lia) (by lia) (by lia) mk;have hmm:m % t.gap<=m:=Nat.mod_le _ _;have em:(m:Int) - (m:Int) % (t.gap:Int)=((m - m % t.gap:Nat):Int):=by
   have:(m:Int) % (t.gap:Int)=((m % t.gap:Nat):Int):=by simp
   rw[this];lia
  have gz:(0:Int) < (t.gap:Int):=by lia
  have bd:evS (runN T G (k+11)) G ltB [UA (.o n),UA (.p (.int (m:Int))),UA (.c q cs),UA (.p (cN UB)),x] h=UA (.nx [UA (.o n),UA (.p (.int (((m - m % t.gap:Nat):Int) - 1))),UA (.c q cs),UA (.p (cN o1)),UA (.p (.int ((m - m % t.gap:Nat):Int)))] h):=by generalize hz:((m - m % t.gap:Nat):Int)=z at b1 em;simp[ltB,A.ob,gz,g0,em,GM,b1]
  obtain ⟨o',y,x',b2,F2⟩:=um P L k A I s0 tt M hM hE f (m - m % t.gap) o1 (UA (.p (.int ((m - m % t.gap:Nat):Int)))) (by lia) (by lia) (λz i h1 h2=>by
   by_cases c:i<=m
   exact F1.no z i h1 c
   ·exact i1 rfl i (by lia) h2) (λj z=>by
   obtain ⟨q1,q2,q3,q4⟩:=F1.yes j z;refine ⟨λj' z'=>?_,λz'=>by cases z'⟩;cases z';refine ⟨O5 _,by lia,q3,λi h1 h2=>?_⟩
   by_cases c:i<=m
   exact q4 i h1 c
   ·exact i1 rfl i (by lia) h2)
  refine ⟨o',y,x',?_,F2⟩;rw[bE,ts,dJ,jB,bd,bD,b2]
theorem zP (P:TpP T G) (L:TpB T) (k:Nat) (a:TAt h n r t) (I:TI t e gv) {E:Nat} (tt:Tst T G n t q cs g E) (m:Nat) (hm:m<=e) (hE:m<=E) :
 JL (runN T G (k+12) (.m "Tape" "last_to") [.o n,.p (.int m),.c q cs] h) cN (FL g 0 m) n h r t e gv:=by
 obtain ⟨h',r',t',b,g1,I',s,f⟩:=ng P (k+1) a I m hm;have le:=I.run.le;have m1:=I.m1;obtain ⟨o,y,x',w1,F⟩:=um P L k g1.b I' s tt m (by lia) hE 100000 (m+1) UB UB (by lia) (N3 _) (λ_ i h1 h2=>by lia) (λj z=>by cases z);refine ⟨o,h',r',t',?_,F,g1,I',s⟩;rw[run_eq L.last rfl,bT];have fn:=λw=>c6 g1 w;have e0:((m+1:Nat):Int) - 1=(m:Int):=by lia
 rw[e0] at w1;simp only[GL] at w1;simp[a.ob,uf,b,turns,w1,fn]
structure TpE (T:FK->Option Fn):Prop where
 end_:T (.m "Tape" "end")=UA eV
theorem zQ (P:TpP T G) (M:TpE T) (k:Nat) (a:TAt h n r t) (I:TI t e gv) :
 vX (runN T G (k+9) (.m "Tape" "end") [.o n] h) (.p (.int e)) n h r t e gv e:=by
 obtain ⟨h',r',t',b,g,I',s,f⟩:=m8 P k a I t.most;have le:=I.run.le;have fr:=I.far;have fe:t'.far=e:=by lia
 refine ⟨h',r',t',?_,g,I',s,fe⟩;rw[run_eq M.end_ rfl];have fn:=λw=>c6 g w;simp[eV,a.ob,ue,b,g.b.ob,fe,fn]
end
inductive Th where
 | nm (x:Nm)|cl (i:Nat) (h:i < 4)
noncomputable def Th.enc:Th->D
 | .nm x=>.str x.w| .cl i _=>.int i
noncomputable def Th.val (st:St):Th->Int
 | .nm x=>st.names.getD x.ix 0| .cl i _=>st.cells.getD i 0
section
end
theorem dG (L:Lw T) (ns:List Int) (hl:ns.length<=1000) (q many:Int) (hm:0 < many):∃ z:Nat,(z:Int) < many/\∀ k h,runN T G (k+2) "_law_drawn" [.p (.lst (aa ns)),.p (.int q),.p (.int many)] h=UA (.p (.int (z:Int)),h):=by have h0:=bY ns q hm;have h1:=bZ ns q hm;refine ⟨(drw ns q many).toNat,by lia,λk h=>?_⟩;have:=cg (G:=G) L k ns hl q many hm h;rw[this];congr 4;lia
section
end
noncomputable def rdC:E:=(.not (.meth (.var 0) "is_last" (Z8 (.bin .sub (.bi .len UD (Z9 (.var 3))) (.cst (.int 1))) (.var 2))))
noncomputable def rdB:S:=(.seq (.set 2 (.meth (.var 0) "behind" (Z9 (.var 2)))) (.ex (.me .append (.var 3) (Z9 (.callv 1 (Z9 (.var 2)))))))
noncomputable def bJ:Fn:=⟨["self","reader"],["self","reader","state","told"], (.seq (.set 2 (.idx (.fld (.var 0) "kept") (.cst (.int 0)))) (.seq (.set 3 (.lst UC (Z9 (.callv 1 (Z9 (.var 2)))))) (.seq (.whl rdC rdB) (.ret (.var 3)))))⟩
structure TpR (T:FK->Option Fn):Prop where
 readings:T (.m "Tape" "readings")=UA bJ
section
theorem rV (t:Tp) (r:Nat):aU "readings" (t.fs r)=UB:=cB t r rfl
def Rdg (T:FK->Option Fn) (G:Str->Option W) (n:Nat) (t:Tp) (q:FK) (cs:List Cp) (f:Nat->D) (e:Nat):Prop :=
 ∀ k h r t',TAt h n r t'->Sm8 t t'->∀ i,i<=e->runN T G (k+10) q (.p (itr t.p t.asked i).enc::cs.map Cp.w) h=UA (.p (f i),h)
noncomputable def each (f:Nat->D) (e:Nat):List D:=(OP (e+1)).map f
theorem jf (f:Nat->D) (e:Nat):(each f e).length=e+1:=by simp[each]
theorem vY (f:Nat->D) (e:Nat):each f (e+1)=each f e++[f (e+1)]:=by unfold each;rw[List.range_succ (n:=e+1),Qf];rfl
theorem uq (f:Nat->D) (h:i<=e):(each f e)[i]?=UA (f i):=by unfold each;rw[Ox,Rq (by lia)];rfl
theorem CK (P:TpP T G) (k:Nat) (a:TAt h n r t) (I:TI t e gv) (tt:Rdg T G n t q cs f e):∀ (d u m:Nat),e - m=d->d < u->m<=e →
 bE (BT.ev (runN T G (k+10)) G rdC) (evS (runN T G (k+10)) G rdB) u [UA (.o n),UA (.c q cs),UA (.p (itr t.p t.asked m).enc),UA (.r h.length)] (h++[.l (each f m)]) =
  UA (.nx [UA (.o n),UA (.c q cs),UA (.p (itr t.p t.asked e).enc),UA (.r h.length)] (h++[.l (each f e)])):=by
 intro d
 induction d with
 | zero =>
  intro u m hd hu hm;have em:m=e:=by lia
  subst em;cases u with
  | zero=>lia
  | succ u =>
   have A:=a.app (g:=[.l (each f m)]);have il:=gC P (k+8) A m (itr t.p t.asked m);rw[zN I.run hm,decide_eq_true rfl] at il;have l1:(((each f m).length:Nat):Int) - 1=(m:Int):=by rw[jf];lia
   have ts:BT.ev (runN T G (k+10)) G rdC [UA (.o n),UA (.c q cs),UA (.p (itr t.p t.asked m).enc),UA (.r h.length)] (h++[.l (each f m)])=UA (.p (.bl UD),h++[.l (each f m)]):=by simp[rdC,A.ob,gU,rd,l1,il]
   rw[bE,ts,dJ,iw]
 | succ d ih =>
  intro u m hd hu hm;cases u with
  | zero=>lia
  | succ u =>
   have A:=a.app (g:=[.l (each f m)]);have il:=gC P (k+8) A m (itr t.p t.asked m);rw[zN I.run hm,decide_eq_false (by lia)] at il;have l1:(((each f m).length:Nat):Int) - 1=(m:Int):=by rw[jf];lia
   have ts:BT.ev (runN T G (k+10)) G rdC [UA (.o n),UA (.c q cs),UA (.p (itr t.p t.asked m).enc),UA (.r h.length)] (h++[.l (each f m)])=UA (.p (.bl UC),h++[.l (each f m)]):=by simp[rdC,A.ob,gU,rd,l1,il]
   have le:=I.run.le;have m1:=I.m1;have bh:=fO P (k+3) A I.ok (j:=m) (st:=itr t.p t.asked m) (by lia) (lH I.ok I.ask I.run m hm) (I.run.on m (by lia));have s1:step t.p t.asked (itr t.p t.asked m)=itr t.p t.asked (m+1):=rfl;rw[s1] at bh;have t1:=tt k (h++[.l (each f m)]) r t A (.refl t) (m+1) (by lia);have l2:(each f m).length < 100000:=by rw[jf];lia
   have bd:evS (runN T G (k+10)) G rdB [UA (.o n),UA (.c q cs),UA (.p (itr t.p t.asked m).enc),UA (.r h.length)] (h++[.l (each f m)])=UA (.nx [UA (.o n),UA (.c q cs),UA (.p (itr t.p t.asked (m+1)).enc),UA (.r h.length)] (h++[.l (each f (m+1))])):=by simp[rdB,A.ob,gD,bh,t1,l2,vY]
   rw[bE,ts,dJ,jB,bd,bD];exact ih u (m+1) (by lia) (by lia) (by lia)
theorem oH (P:TpP T G) (Q:TpR T) (k:Nat) (a:TAt h n r t) (I:TI t e gv) (tt:Rdg T G n t q cs f e) :
 runN T G (k+11) (.m "Tape" "readings") [.o n,.c q cs] h=UA (.p (.lst (each f e)),h):=by
 have le:=I.run.le;have m1:=I.m1;have k0:0 < t.kept.length:=by rw[I.len];exact Nat.succ_pos _
 have hk:=I.kept 0 k0;rw[Nat.zero_mul] at hk;have ix:aG (.lst (t.kept.map St.enc)) (.int 0)=UA (itr t.p t.asked 0).enc:=by show atP _ ((0:Nat):Int)=_;rw[gS,Ox,hk];rfl
 have t0:=tt k h r t a (.refl t) 0 (O5 _);have lp:=CK P k a I tt (e - 0) 100000 0 rfl (by lia) (O5 _);have e0:each f 0=[f 0]:=rfl;rw[e0] at lp;rw[run_eq Q.readings rfl,bJ];simp[-aX,a.ob,a.li,rd,ix,t0,turns,lp,DX]
end
theorem gV {cond:Es} (e1:evs F G sa s h=UA (ws,h1)) (e2:(rds ws h1).bind (dI sr)=UA ds) (e3:frees s fv=UA fs) (e4:fu ws=UC) (e5:aM (aP (evs F G cond) (BT.ev F G elt) fs) tg.length ds h1=UA (xs,h2)) (e6:xs.length<=100000):BT.ev F G (.comp UD sr sa tg fv cond elt) s h=UA (.p (.lst xs),h2):=by rw[BT.ev,e1,aO];unfold mT;rw[e2,e3];show (if fu ws=UC then _ else _)=_;rw[if_pos e4,e5,aO];unfold fq;rw[if_pos (show xs.length<=lim from e6)];rfl
theorem rW (f:List D->HH->Option (Option D×HH)) (mk:α->D) (g:α->Option D) (h:HH):∀ (l:List α),(∀ x∈l,f [mk x] h=UA (g x,h))->aM f 1 (l.map mk) h=UA (l.filterMap g,h):=by
 intro l
 induction l with
 | nil=>intro _;rfl
 | cons x r ih =>
  intro hf;rw[Oi,aM,gf];show bnd (f [mk x] h) (u6 (aM f 1 (r.map mk)))=_;rw[hf x Oe,aO,nH,ih λy hy=>hf y (Oa _ hy),aO,kR,OE];cases g x<;>rfl
theorem GN (f:List D->HH->Option (Option D×HH)) (mk:α->D) (g:α->Option D) (Iv:HH->Prop):∀ (l:List α),(∀ x∈l,∀ h,Iv h->∃ h',f [mk x] h=UA (g x,h')/\Iv h')->∀ h,Iv h->∃ h',aM f 1 (l.map mk) h=UA (l.filterMap g,h')/\Iv h':=by
 intro l
 induction l with
 | nil=>intro _ h hi;exact ⟨h,rfl,hi⟩
 | cons x r ih =>
  intro hf h hi;obtain ⟨h1,e1,i1⟩:=hf x Oe h hi;obtain ⟨h2,e2,i2⟩:=ih (λy hy=>hf y (Oa _ hy)) h1 i1;refine ⟨h2,?_,i2⟩;rw[Oi,aM,gf];show bnd (f [mk x] h) (u6 (aM f 1 (r.map mk)))=_;rw[e1,aO,nH,e2,aO,kR,OE];cases g x<;>rfl
theorem ur (p:α->Bool) (m:α->β) (l:List α):l.filterMap (λx=>if p x=UC then UA (m x) else UB)=(l.filter p).map m:=by
 induction l with
 | nil=>rfl
 | cons x r ih =>
  rw[OE,List.filter_cons];cases p x with
  | _=>simp[ih]
section
@[simp] theorem NU (h:HH) (a:Cl) (r:HH):dat (h++a::r) h.length=uZ a:=by simp[dat]
end
theorem zR (f:List D->HH->Option (Option D×HH)) (n:Nat) (mk:α->D) (tx:α->List D) (g:α->Option D) (h:HH):∀ (l:List α),(∀ x∈l,target n (mk x)=UA (tx x)/\f (tx x) h=UA (g x,h))->aM f n (l.map mk) h=UA (l.filterMap g,h):=by
 intro l
 induction l with
 | nil=>intro _;rfl
 | cons x r ih =>
  intro hf;obtain ⟨h1,h2⟩:=hf x Oe;rw[Oi,aM,h1];show bnd (f (tx x) h) (u6 (aM f n (r.map mk)))=_;rw[h2,aO,nH,ih λy hy=>hf y (Oa _ hy),aO,kR,OE];cases g x<;>rfl
section
end
noncomputable def fQ:Fn:=⟨["state"],["state"], (.ret (.bi .len UD (Z9 (.idx (.var 0) (.glo "CALLS")))))⟩
noncomputable def jg:Fn:=⟨["tape","moment"],["tape","moment"], (.ret (.call "open_in" (Z9 (.meth (.var 0) "at" (Z9 (.var 1))))))⟩
noncomputable def aN:Fn:=⟨["tape","moment","bound"],["tape","moment","bound","found","<last_within>"], (.seq (.ife (.cmp .eq (.var 1) (.cst (.int 0))) (.ret (.cst (.int 0))) .nil) (.seq (.set 3 (.methL (.var 0) "last_to" (Z9 (.bin .sub (.var 1) (.cst (.int 1)))) 10 [(2,"bound")])) (.ret (.ite (.cmp .isN (.var 3) (.cst .non)) (.cst (.int 0)) (.var 3)))))⟩
noncomputable def bG:Fn:=⟨["tape","moment"],["tape","moment"], (.ret (.call "last_within" (Z7 (.var 0) (.var 1) (.bin .sub (.call "depth" (Z8 (.var 0) (.var 1))) (.cst (.int 1))))))⟩
structure WkD (T:FK->Option Fn):Prop where
 open_in:T "open_in"=UA fQ
 depth:T "depth"=UA jg
structure WkB (T:FK->Option Fn):Prop where
 d:WkD T
 last:T "last_within"=UA aN
 l10:T (.l 10)=UA sP
noncomputable def dep (t:Tp) (i:Nat):Nat:=(itr t.p t.asked i).calls.length
section
theorem gE (P:TpP T G) (Wk:WkD T) (k:Nat) (st:St) (h:HH):runN T G (k+1) "open_in" [.p st.enc] h=UA (.p (.int st.calls.length),h):=by
 rw[run_eq Wk.open_in rfl];have e:aG st.enc (.int 3)=UA (.tup (af st.calls)):=rfl;have l:biD .len [.tup (af st.calls)]=UA (.int st.calls.length):=by simp[af]
 simp[-jz,fQ,P.prg.CALLS,e,l,aj]
theorem jM (P:TpP T G) (Wk:WkD T) (k:Nat) {n r:Nat}{t:Tp}{h:HH}{e gv:Nat} (a:TAt h n r t) (I:TI t e gv) (m:Nat) (hm:m<=e) :
 ∃ h' r' t',runN T G (k+12) "depth" [.o n,.p (.int m)] h=UA (.p (.int (dep t m)),h')/\Go n h r t h' r' t'/\TI t' e gv/\Sm8 t t':=by
 obtain ⟨h',r',t',b,g,I',s,f⟩:=zJ P k a I m hm;refine ⟨h',r',t',?_,g,I',s⟩;rw[run_eq Wk.depth rfl];have fn:=λw=>c6 g w;have o:=gE P Wk (k+10) (itr t.p t.asked m) h';simp[jg,a.ob,JI,b,o,fn,dep]
noncomputable def wi (t:Tp) (b:Int):Nat->Bool:=λi=>decide ((dep t i:Int)<=b)
theorem JM (P:TpP T G) (Wk:WkB T) (n:Nat) (t:Tp) (b:Int) (e:Nat):Tst T G n t (.l 10) [.p (.int b)] (wi t b) e:=λk h r t' a s i hi=>by rw[run_eq (k:=k+9) Wk.l10 rfl];have o:=gE P Wk.d (k+8) (itr t.p t.asked i) h;simp[sP,o,aj,wi,dep];exact decide_eq_decide.mpr Iff.rfl
structure BX (g:Nat->Bool) (m j:Nat):Prop where
 le:j<=m
 lt:0 < m->j < m
 yes:j≠0->g j=UC
 gap:∀ i,j < i->i < m->g i=UD
theorem GO (P:TpP T G) (L:TpB T) (Wk:WkB T) (k:Nat) {n r:Nat}{t:Tp}{h:HH}{e gv:Nat} (a:TAt h n r t) (I:TI t e gv) (m:Nat) (hm:m<=e) (b:Int) :
 ∃ j h' r' t',runN T G (k+13) "last_within" [.o n,.p (.int m),.p (.int b)] h=UA (.p (.int ((j:Nat):Int)),h')/\BX (wi t b) m j/\Go n h r t h' r' t'/\TI t' e gv/\Sm8 t t':=by
 by_cases c:m=0
 ·subst c;refine ⟨0,h,r,t,?_,⟨N3 _,λz=>absurd z (OJ _),λz=>absurd rfl z,λi h3 h4=>by lia⟩,.refl a,I,.refl t⟩;rw[run_eq Wk.last rfl];simp[aN,aj]
 ·obtain ⟨o,h2,r2,t2,b2,F,g2,I2,s2⟩:=zP P L k a I (JM P Wk n t b e) (m - 1) (by lia) (by lia);have e1:(m:Int) - 1=((m - 1:Nat):Int):=by lia
  have c1:((m:Int)==0)=UD:=by rw[beq_eq_false_iff_ne];lia
  cases o with
  | some j =>
   obtain ⟨q1,q2,q3,q4⟩:=F.yes j rfl;refine ⟨j,h2,r2,t2,?_,⟨by lia,λ_=>by lia,λ_=>q3,λi h3 h4=>q4 i h3 (by lia)⟩,g2,I2,s2⟩;rw[run_eq Wk.last rfl];have fn:=λw=>c6 g2 w;generalize hz:((m - 1:Nat):Int)=z at b2 e1;simp[aN,a.ob,c,c1,e1,zM,b2,fn]
  | none =>
   refine ⟨0,h2,r2,t2,?_,⟨by lia,λ_=>by lia,λz=>absurd rfl z,λi h3 h4=>F.no rfl i (O5 _) (by lia)⟩,g2,I2,s2⟩;rw[run_eq Wk.last rfl];have fn:=λw=>c6 g2 w;generalize hz:((m - 1:Nat):Int)=z at b2 e1;simp[aN,a.ob,c,c1,e1,zM,b2,fn]
theorem D4 (s:Sm8 t t') (b:Int):wi t' b=wi t b:=by unfold wi dep;rw[s.p,s.asked]
theorem oJ (P:TpP T G) (L:TpB T) (Wk:WkB T) (hb:T "back_out"=UA bG) (k:Nat) {n r:Nat}{t:Tp}{h:HH}{e gv:Nat} (a:TAt h n r t) (I:TI t e gv) (m:Nat) (hm:m<=e) :
 ∃ j h' r' t',runN T G (k+14) "back_out" [.o n,.p (.int m)] h=UA (.p (.int ((j:Nat):Int)),h')/\BX (wi t ((dep t m:Int) - 1)) m j/\Go n h r t h' r' t'/\TI t' e gv/\Sm8 t t':=by
 obtain ⟨h1,r1,t1,b1,g1,I1,s1⟩:=jM P Wk.d (k+1) a I m hm;obtain ⟨j,h2,r2,t2,b2,F,g2,I2,s2⟩:=GO P L Wk k g1.b I1 m hm ((dep t m:Int) - 1);rw[D4 s1] at F;have G2:=g1.trans g2;refine ⟨j,h2,r2,t2,?_,F,G2,I2,s1.trans s2⟩;rw[run_eq hb rfl];have fn:=λw=>c6 G2 w;simp[bG,b1,b2,fn]
end
theorem lJ {t:Tp}{e i:Nat} (R:Run t.p t.asked t.most e) (hi:i < e) :
 ((∃ c,t.p[(itr t.p t.asked i).row]?=UA (.call c))/\(itr t.p t.asked (i+1)).calls=(itr t.p t.asked i).calls++[(itr t.p t.asked i).row+1]) ∨
 ((itr t.p t.asked i).calls≠[]/\(itr t.p t.asked (i+1)).calls=(itr t.p t.asked i).calls.dropLast/\(itr t.p t.asked (i+1)).row=(itr t.p t.asked i).calls.getLast?.getD 0) ∨
 (itr t.p t.asked (i+1)).calls=(itr t.p t.asked i).calls:=by
 have ov:=R.on i hi;show _\/(_/\(step t.p t.asked (itr t.p t.asked i)).calls=_/\(step t.p t.asked (itr t.p t.asked i)).row=_)\/(step t.p t.asked (itr t.p t.asked i)).calls=_;have e1:(itr t.p t.asked (i+1))=step t.p t.asked (itr t.p t.asked i):=rfl;rw[e1];unfold over at ov;unfold step;cases g:t.p[(itr t.p t.asked i).row]? with
 | none=>rw[g] at ov;cases ov
 | some r =>
  rw[g] at ov;cases r with
  | call c=>exact .inl ⟨⟨c,rfl⟩,rfl⟩
  | back =>
   refine .inr (.inl ⟨λz=>?_,rfl,rfl⟩);have:((itr t.p t.asked i).calls.length==0)=UD:=ov;rw[z] at this;cases this
  | _=>exact .inr (.inr rfl)
noncomputable def wt (t:Tp):Nat->List Nat
 | 0=>[]
 | m+1=>if dep t m < dep t (m+1) then wt t m++[m] else if dep t (m+1) < dep t m then (wt t m).dropLast else wt t m
noncomputable def en (t:Tp):Nat->List (Nat×Option Nat)
 | 0=>[]
 | m+1=>if dep t m < dep t (m+1) then en t m++[(m,UB)] else if dep t (m+1) < dep t m then (en t m).map (λp=>if p.1=(wt t m).getLast?.getD 0 then (p.1,UA (m+1)) else p) else en t m
structure WtI (t:Tp) (m:Nat):Prop where
 len:(wt t m).length=dep t m
 ok:∀ k w,(wt t m)[k]?=UA w->w < m/\dep t w=k/\(itr t.p t.asked m).calls[k]?=UA ((itr t.p t.asked w).row+1)/\(∃ c,t.p[(itr t.p t.asked w).row]?=UA (.call c))/\∀ j,w < j->j<=m->k < dep t j
structure EnI (t:Tp) (m:Nat):Prop where
 rise:(en t m).Pairwise λa b=>a.1 < b.1
 lt:∀ p∈en t m,p.1 < m
 start:∀ p∈en t m,(∃ c,t.p[(itr t.p t.asked p.1).row]?=UA (.call c))/\dep t (p.1+1)=dep t p.1+1
 non:∀ s,(s,UB)∈en t m->s∈wt t m
 som:∀ s b,(s,UA b)∈en t m->s < b/\b<=m/\dep t b=dep t s/\(itr t.p t.asked b).row=(itr t.p t.asked s).row+1/\∀ j,s < j->j < b->dep t s < dep t j
 wait:∀ w∈wt t m,(w,UB)∈en t m
theorem qC (h:dep t m < dep t (m+1)):wt t (m+1)=wt t m++[m]/\en t (m+1)=en t m++[(m,UB)]:=⟨if_pos h,if_pos h⟩
theorem jh (h:dep t (m+1) < dep t m):wt t (m+1)=(wt t m).dropLast/\en t (m+1)=(en t m).map (λp=>if p.1=(wt t m).getLast?.getD 0 then (p.1,UA (m+1)) else p):=by
 have n:¬ dep t m < dep t (m+1):=by lia
 exact ⟨by rw[wt,if_neg n,if_pos h],by rw[en,if_neg n,if_pos h]⟩
theorem ji (h:dep t (m+1)=dep t m):wt t (m+1)=wt t m/\en t (m+1)=en t m:=by
 have n:¬ dep t m < dep t (m+1):=by lia
 have n2:¬ dep t (m+1) < dep t m:=by lia
 exact ⟨by rw[wt,if_neg n,if_neg n2],by rw[en,if_neg n,if_neg n2]⟩
theorem dR {t:Tp}{e:Nat} (R:Run t.p t.asked t.most e):∀ m,m<=e->WtI t m
 | 0,_=>⟨rfl,λk w h=>by simp[wt] at h⟩
 | m+1,h=>by
  have I:=dR R m (by lia);have len:=I.len;rcases lJ R (show m < e by lia) with ⟨cc,hc⟩|⟨hne,hc,hr⟩|hc
  ·have d:dep t (m+1)=dep t m+1:=by unfold dep;rw[hc,Oj];rfl
   have e1:=(qC (t:=t) (m:=m) (by lia)).1;refine ⟨by rw[e1,Oj,len,d];rfl,λk w hk=>?_⟩;rw[e1] at hk;rcases Os k (wt t m).length with q|q
   ·rw[N5 q] at hk;obtain ⟨a1,a2,a3,a4,a5⟩:=I.ok k w hk;refine ⟨by lia,a2,?_,a4,λj j1 j2=>?_⟩;rw[hc,N5 (by show k < dep t m;lia)];exact a3
    ·rcases Os m j with z|z
     rw[show j=m+1 by lia,d];lia;exact a5 j j1 z
   ·rw[Ol q] at hk;have k0:k - (wt t m).length=0:=by
     rcases Nat.eq_zero_or_pos (k - (wt t m).length) with z|z
     exact z;rw[Od (by rw[OX];lia)] at hk;cases hk
    rw[k0] at hk;have:m=w:=by simpa using hk
    subst this;refine ⟨Pk _,by lia,?_,cc,λj j1 j2=>?_⟩;rw[hc,Ol (by show dep t m<=k;lia),show k - (itr t.p t.asked m).calls.length=0 by have:(itr t.p t.asked m).calls.length=dep t m:=rfl;lia];rfl;rw[show j=m+1 by lia,d];lia
  ·have hp:0 < dep t m:=by unfold dep;exact List.length_pos_iff.mpr hne
   have d:dep t (m+1)=dep t m - 1:=by unfold dep;rw[hc,O9]
   have e1:=(jh (t:=t) (m:=m) (by lia)).1;refine ⟨by rw[e1,O9,len,d],λk w hk=>?_⟩;rw[e1] at hk;have kl:k < (wt t m).dropLast.length:=(List.getElem?_eq_some_iff.mp hk).1;rw[O9,len] at kl;rw[Qj,if_pos (by lia)] at hk;obtain ⟨a1,a2,a3,a4,a5⟩:=I.ok k w hk;refine ⟨by lia,a2,?_,a4,λj j1 j2=>?_⟩;rw[hc,Qj,if_pos (by show k < dep t m - 1;lia)];exact a3
   ·rcases Os m j with z|z
    rw[show j=m+1 by lia,d];lia;exact a5 j j1 z
  ·have d:dep t (m+1)=dep t m:=by unfold dep;rw[hc]
   have e1:=(ji d).1;refine ⟨by rw[e1,len,d],λk w hk=>?_⟩;rw[e1] at hk;have kl:k < (wt t m).length:=(List.getElem?_eq_some_iff.mp hk).1;obtain ⟨a1,a2,a3,a4,a5⟩:=I.ok k w hk;refine ⟨by lia,a2,by rw[hc];exact a3,a4,λj j1 j2=>?_⟩;rcases Os m j with z|z
   rw[show j=m+1 by lia,d];lia;exact a5 j j1 z
theorem JN {e m:Nat} (R:Run t.p t.asked t.most e) (hm:m<=e) {k k' w:Nat} (h:(wt t m)[k]?=UA w) (h':(wt t m)[k']?=UA w):k=k':=by have I:=dR R m hm;have a:=(I.ok k w h).2.1;have b:=(I.ok k' w h').2.1;lia
theorem iJ {t:Tp}{e:Nat} (R:Run t.p t.asked t.most e):∀ m,m<=e->EnI t m
 | 0,_=>⟨.nil,(λp h=>nomatch h),(λp h=>nomatch h),(λs h=>nomatch h),(λs b h=>nomatch h),(λw h=>nomatch h)⟩
 | m+1,h=>by
  have I:=iJ R m (by lia);have W:=dR R m (by lia);rcases lJ R (show m < e by lia) with ⟨cc,hc⟩|⟨hne,hc,hr⟩|hc
  ·have d:dep t (m+1)=dep t m+1:=by unfold dep;rw[hc,Oj];rfl
   obtain ⟨e1,e2⟩:=qC (t:=t) (m:=m) (by lia);refine ⟨?_,λp hp=>?_,λp hp=>?_,λs hs=>?_,λs b hs=>?_,λw hw=>?_⟩
   ·rw[e2];refine List.pairwise_append.mpr ⟨I.rise,List.pairwise_singleton _ _,λa ha b hb=>?_⟩;rw[List.mem_singleton.mp hb];exact I.lt a ha
   ·rw[e2] at hp;rcases List.mem_append.mp hp with z|z
    have:=I.lt p z;lia;rw[List.mem_singleton.mp z];exact Pk _
   ·rw[e2] at hp;rcases List.mem_append.mp hp with z|z
    exact I.start p z;rw[List.mem_singleton.mp z];exact ⟨cc,d⟩
   ·rw[e2] at hs;rw[e1];rcases List.mem_append.mp hs with z|z
    exact Pq _ (I.non s z)
    ·have:=List.mem_singleton.mp z;cases this;exact Oz _ Oe
   ·rw[e2] at hs;rcases List.mem_append.mp hs with z|z
    ·obtain ⟨a1,a2,a3⟩:=I.som s b z;exact ⟨a1,by lia,a3⟩
    ·have:=List.mem_singleton.mp z;cases this
   ·rw[e1] at hw;rw[e2];rcases List.mem_append.mp hw with z|z
    exact Pq _ (I.wait w z);rw[List.mem_singleton.mp z];exact Oz _ Oe
  ·have hp:0 < dep t m:=by unfold dep;exact List.length_pos_iff.mpr hne
   have d:dep t (m+1)=dep t m - 1:=by unfold dep;rw[hc,O9]
   obtain ⟨e1,e2⟩:=jh (t:=t) (m:=m) (by lia);have len:=W.len;obtain ⟨l,hl⟩:∃ l,(wt t m)[dep t m - 1]?=UA l:=⟨_,N7 (by lia)⟩;have gl:(wt t m).getLast?.getD 0=l:=by rw[P0,len,hl];rfl
   rw[gl] at e2;obtain ⟨w1,w2,w3,w4,w5⟩:=W.ok _ _ hl;have rowm:(itr t.p t.asked (m+1)).row=(itr t.p t.asked l).row+1:=by rw[hr,P0];have:(itr t.p t.asked m).calls.length - 1=dep t m - 1:=rfl;rw[this,w3];rfl
   have ins:∀ w,w∈(wt t m).dropLast↔w∈wt t m/\w≠l:=λw=>by
    constructor
    ·intro hw;obtain ⟨k,hk⟩:=OT hw;have kl:k < (wt t m).dropLast.length:=(List.getElem?_eq_some_iff.mp hk).1;rw[O9,len] at kl;rw[Qj,if_pos (by lia)] at hk;refine ⟨N9 hk,λz=>?_⟩;subst z;have:=JN R (by lia) hk hl;lia
    ·rintro ⟨hw,hn⟩
     obtain ⟨k,hk⟩:=OT hw;have kl:k < (wt t m).length:=(List.getElem?_eq_some_iff.mp hk).1;have kn:k≠dep t m - 1:=λz=>by rw[z,hl] at hk;cases hk;exact hn rfl
     refine N9 (i:=k) ?_;rw[Qj,if_pos (by lia)];exact hk
   have key:∀ p,p∈en t (m+1)->∃ q∈en t m,q.1=p.1/\((p.1=l/\p.2=UA (m+1))\/(p.1≠l/\p=q)):=λp hp=>by
    rw[e2] at hp;obtain ⟨q,hq,rfl⟩:=List.mem_map.mp hp
    by_cases z:q.1=l
    exact ⟨q,hq,by rw[if_pos z],.inl ⟨by rw[if_pos z];exact z,by rw[if_pos z]⟩⟩;exact ⟨q,hq,by rw[if_neg z],.inr ⟨by rw[if_neg z];exact z,by rw[if_neg z]⟩⟩
   refine ⟨?_,λp hp=>?_,λp hp=>?_,λs hs=>?_,λs b hs=>?_,λw hw=>?_⟩
   ·rw[e2];refine SK _ (λa b hab=>?_) I.rise;have f:∀ q:Nat×Option Nat,(if q.1=l then (q.1,UA (m+1)) else q).1=q.1:=λq=>by split<;>rfl
    rw[f,f];exact hab
   ·obtain ⟨q,hq,e3,_⟩:=key p hp;have:=I.lt q hq;lia
   ·obtain ⟨q,hq,e3,_⟩:=key p hp;rw[← e3];exact I.start q hq
   ·obtain ⟨q,hq,e3,z|z⟩:=key _ hs;cases z.2
    ·rw[← z.2] at hq;rw[e1];exact (ins s).mpr ⟨I.non s hq,z.1⟩
   ·obtain ⟨q,hq,e3,z|z⟩:=key _ hs
    ·obtain ⟨z1,z2⟩:=z;have zz:s=l:=z1;cases z2;rw[zz];exact ⟨by lia,N3 _,by lia,rowm,λj j1 j2=>by have:=w5 j j1 (by lia);lia⟩
    ·rw[← z.2] at hq;obtain ⟨a1,a2,a3⟩:=I.som s b hq;exact ⟨a1,by lia,a3⟩
   ·rw[e1] at hw;obtain ⟨h1,h2⟩:=(ins w).mp hw;rw[e2];exact List.mem_map.mpr ⟨(w,UB),I.wait w h1,by rw[if_neg h2]⟩
  ·have d:dep t (m+1)=dep t m:=by unfold dep;rw[hc]
   obtain ⟨e1,e2⟩:=ji d;refine ⟨by rw[e2];exact I.rise,λp hp=>?_,λp hp=>I.start p (by rw[← e2];exact hp),λs hs=>by rw[e1];exact I.non s (by rw[← e2];exact hs),λs b hs=>?_,λw hw=>by rw[e2];exact I.wait w (by rw[← e1];exact hw)⟩;have:=I.lt p (by rw[← e2];exact hp);lia
   ·obtain ⟨a1,a2,a3⟩:=I.som s b (by rw[← e2];exact hs);exact ⟨a1,by lia,a3⟩
noncomputable def caB:S:=(.ife (.cmp .gt (.idx (.var 1) (.bin .add (.var 4) (.cst (.int 1)))) (.idx (.var 1) (.var 4))) (.seq (.putd 2 (.var 4) (.cst .non)) (.ex (.me .append (.var 3) (Z9 (.var 4))))) (.ife (.cmp .lt (.idx (.var 1) (.bin .add (.var 4) (.cst (.int 1)))) (.idx (.var 1) (.var 4))) (.putd 2 (.me .pop (.var 3) .nil) (.bin .add (.var 4) (.cst (.int 1)))) .nil))
noncomputable def jj:Fn:=⟨["tape"],["tape","depths","ends","waiting","moment"], (.seq (.set 1 (.meth (.var 0) "readings" (Z9 (.glo "open_in")))) (.seq (.set 2 .dnew) (.seq (.set 3 (.lst UC .nil)) (.seq (.for [(4,"moment")] .rng1 (Z9 (.bin .sub (.bi .len UD (Z9 (.var 1))) (.cst (.int 1)))) caB) (.ret (.dli (.var 2)))))))⟩
noncomputable def ocC:E:=(.cmp .gt (.call "depth" (Z8 (.var 0) (.var 3))) (.cst (.int 0)))
noncomputable def ocB:S:=(.seq (.set 3 (.call "back_out" (Z8 (.var 0) (.var 3)))) (.ex (.me .append (.var 2) (Z9 (.var 3)))))
noncomputable def cW:Fn:=⟨["tape","moment"],["tape","moment","begun_at","inner"], (.seq (.set 2 (.lst UC .nil)) (.seq (.set 3 (.var 1)) (.seq (.whl ocC ocB) (.ret (.lsr UD .rev (Z9 (.var 2)))))))⟩
structure CaP (T:FK->Option Fn) (G:Str->Option W):Prop where
 calls:T "calls"=UA jj
 open_calls:T "open_calls"=UA cW
 g:G "open_in"=UA (.c (.f "open_in") [])
noncomputable def cO (l:List (Nat×Option Nat)):List (Ky×D):=l.map λp=>(.inl (p.1:Int),cN p.2)
theorem qD {m:Nat}:(cO l).any (λkv=>decide (kv.1=.inl (m:Int)))=UC↔∃ o,(m,o)∈l:=by
 unfold cO;rw[List.any_map,List.any_eq_true];constructor
 ·rintro ⟨p,hp,q⟩
  have:(Sum.inl (p.1:Int):Ky)=.inl (m:Int):=by simpa using q
  have:(p.1:Int)=(m:Int):=Sum.inl.inj this;have:p.1=m:=by lia
  exact ⟨p.2,by rw[← this];exact hp⟩
 ·rintro ⟨o,ho⟩
  exact ⟨_,ho,by simp⟩
theorem CM {m:Nat} (h:∀ p∈l,p.1 < m):c7 (cO l) (.inl (m:Int)) .non=cO (l++[(m,UB)]):=by unfold c7;rw[if_neg λz=>by obtain ⟨o,ho⟩:=qD.mp z;exact absurd (h _ ho) (OJ _)];unfold cO;rw[Qf];rfl
theorem CP {w b:Nat} (h:∃ o,(w,o)∈l):c7 (cO l) (.inl (w:Int)) (.int (b:Int))=cO (l.map λp=>if p.1=w then (p.1,UA b) else p):=by
 unfold c7;rw[if_pos (qD.mpr h)];unfold cO;rw[OW,OW];apply Pe;intro p _
 by_cases z:p.1=w
 simp[z]
 ·have z':¬ (p.1:Int)=(w:Int):=by lia
  simp[z,z']
section
noncomputable def jk (t:Tp) (i:Nat):D:=.int (dep t i:Int)
theorem MN (P:TpP T G) (Wk:WkD T) (n:Nat) (t:Tp) (e:Nat):Rdg T G n t (.f "open_in") [] (jk t) e:=λk h r t' a _ i hi=>gE P Wk (k+9) (itr t.p t.asked i) h
theorem fR (t:Tp):∀ m,(en t m).length<=m/\(wt t m).length<=m
 | 0=>⟨N3 _,N3 _⟩
 | m+1=>by
  have ih:=fR t m;rw[en,wt];split;rw[Oj,Oj,OX,OX];lia
  ·split;rw[Oh,O9];lia;lia
theorem zS (h:HH) (x:List (Ky×D)) (b:Cl):dat (h++[.d x,b]) h.length=UA x:=by simp[dat]
theorem zT (h:HH) (a b x:Cl):(h++[a,b]).set h.length x=h++[x,b]:=by simp
theorem zU (h:HH) (a b x:Cl):(h++[a,b]).set (h.length+1) x=h++[a,x]:=by
 induction h with
 | nil=>rfl| cons y l ih=>exact congrArg (y :: ·) ih
theorem zV (h:HH) (a:Cl) (x:List D):lat (h++[a,.l x]) (h.length+1)=UA x:=by unfold lat;rw[Ol (by lia),show h.length+1 - h.length=1 by lia];rfl
theorem CQ (F:FK->List W->HH->Option (W×HH)) (w0:W) (h:HH) {e:Nat} (R:Run t.p t.asked t.most e) (he:e<=1000) {m:Nat} (hm:m < e) :
 evS F G caB [UA w0,UA (.p (.lst (each (jk t) e))),UA (.r h.length),UA (.r (h.length+1)),UA (.p (.int (m:Int)))] (h++[.d (cO (en t m)),.l (af (wt t m))]) =
  UA (.nx [UA w0,UA (.p (.lst (each (jk t) e))),UA (.r h.length),UA (.r (h.length+1)),UA (.p (.int (m:Int)))] (h++[.d (cO (en t (m+1))),.l (af (wt t (m+1)))])):=by
 have I:=iJ R m (by lia);have W:=dR R m (by lia);obtain ⟨l1,l2⟩:=fR t m;have x1:aG (.lst (each (jk t) e)) (.int ((m:Int)+1))=UA (.int (dep t (m+1):Int)):=by rw[show (m:Int)+1=((m+1:Nat):Int) by lia];show atP _ _=_;rw[gS,uq _ (by lia)];rfl
 have x2:aG (.lst (each (jk t) e)) (.int (m:Int))=UA (.int (dep t m:Int)):=by show atP _ _=_;rw[gS,uq _ (by lia)];rfl
 have k1:(cO (en t m)).length < 100000:=by unfold cO;rw[Oh];lia
 have k2:(af (wt t m)).length < 100000:=by unfold af;rw[Oh];lia
 have d0:=zS h (cO (en t m)) (.l (af (wt t m)));have t1:=zV h (.d (cO (en t m))) (af (wt t m));generalize each (jk t) e=dp at *
 by_cases c:dep t m < dep t (m+1)
 ·obtain ⟨e1,e2⟩:=qC c;have c1:(dep t m:Int) < (dep t (m+1):Int):=by lia
  have pn:=CM (l:=en t m) (m:=m) I.lt;have t2:=zV h (.d (cO (en t (m+1)))) (af (wt t m));rw[← e2] at pn;have ew:af (wt t m)++[D.int (m:Int)]=af (wt t (m+1)):=by rw[e1];unfold af;rw[Qf];rfl
  simp[-aX,-Qq,caB,x1,x2,c,c1,d0,fY,k1,zT,pn,t2,k2,zU,ew]
 ·by_cases c2:dep t (m+1) < dep t m
  ·obtain ⟨e1,e2⟩:=jh c2;have len:=W.len;obtain ⟨l,hl⟩:∃ l,(wt t m)[dep t m - 1]?=UA l:=⟨_,N7 (by lia)⟩;have gl0:(wt t m).getLast?=UA l:=by rw[P0,len,hl]
   have gl:(af (wt t m)).getLast?=UA (.int (l:Int)):=by unfold af;rw[List.getLast?_map,gl0];rfl
   rw[gl0] at e2;have po:=CP (l:=en t m) (w:=l) (b:=m+1) ⟨UB,I.wait l (N9 hl)⟩;have e2:en t (m+1)=(en t m).map λp=>if p.1=l then (p.1,UA (m+1)) else p:=e2
   rw[← e2] at po;have ew:(af (wt t m)).dropLast=af (wt t (m+1)):=by rw[e1];unfold af;rw[List.map_dropLast]
   have d2:=zS h (cO (en t m)) (.l (af (wt t (m+1))));have c1:¬ (dep t m:Int) < (dep t (m+1):Int):=by lia
   have c3:(dep t (m+1):Int) < (dep t m:Int):=by lia
   have e3:((m+1:Nat):Int)=(m:Int)+1:=by lia
   rw[e3] at po;simp[-aX,-Qq,caB,x1,x2,c,c1,c2,c3,t1,gl,zU,ew,d2,fY,k1,po,zT]
  ·obtain ⟨e1,e2⟩:=ji (t:=t) (m:=m) (by lia);have c1:¬ (dep t m:Int) < (dep t (m+1):Int):=by lia
   have c3:¬ (dep t (m+1):Int) < (dep t m:Int):=by lia
   rw[e1,e2];simp[-aX,caB,x1,x2,c,c1,c2,c3]
theorem uv (F:FK->List W->HH->Option (W×HH)) (w0:W) (h:HH) (R:Run t.p t.asked t.most e) (he:e<=1000):∀ (q m:Nat) (x:Option W),m+q=e →
 ∃ y,aJ (evS F G caB) [(4,"moment")] (upto (m:Int) q) [UA w0,UA (.p (.lst (each (jk t) e))),UA (.r h.length),UA (.r (h.length+1)),x] (h++[.d (cO (en t m)),.l (af (wt t m))]) =
  UA (.nx [UA w0,UA (.p (.lst (each (jk t) e))),UA (.r h.length),UA (.r (h.length+1)),y] (h++[.d (cO (en t e)),.l (af (wt t e))]))
 | 0,m,x,hq=>⟨x,by rw[show m=e by lia];rfl⟩
 | q+1,m,x,hq=>by have b1:=CQ (G:=G) F w0 h R he (m:=m) (by lia);obtain ⟨y,b2⟩:=uv F w0 h R he q (m+1) (UA (.p (.int (m:Int)))) (by lia);refine ⟨y,?_⟩;have st:∀ (d:D) (l:List D),aJ (evS F G caB) [(4,"moment")] (d::l) [UA w0,UA (.p (.lst (each (jk t) e))),UA (.r h.length),UA (.r (h.length+1)),x] (h++[.d (cO (en t m)),.l (af (wt t m))])=d8 (evS F G caB [UA w0,UA (.p (.lst (each (jk t) e))),UA (.r h.length),UA (.r (h.length+1)),UA (.p d)] (h++[.d (cO (en t m)),.l (af (wt t m))])) (aJ (evS F G caB) [(4,"moment")] l):=λd l=>rfl;rw[dQ,st,b1,bD,show (m:Int)+1=((m+1:Nat):Int) by lia,b2]
noncomputable def itE (l:List (Nat×Option Nat)):List D:=l.map λp=>.tup [.int (p.1:Int),cN p.2]
theorem GP (l:List (Nat×Option Nat)):fZ (cO l)=itE l:=by unfold fZ cO itE;rw[OW];apply Pe;intro p _;rfl
theorem vZ (P:TpP T G) (R:TpR T) (Wk:WkD T) (C:CaP T G) (k:Nat) {n r:Nat}{t:Tp}{h:HH}{e gv:Nat} (a:TAt h n r t) (I:TI t e gv) :
 runN T G (k+12) "calls" [.o n] h=UA (.p (.lst (itE (en t e))),h):=by
 have le:=I.run.le;have m1:=I.m1;have b1:=oH P R k a I (MN P Wk n t e);obtain ⟨y,b2⟩:=uv (G:=G) (runN T G (k+11)) (.o n) h I.run (by lia) e 0 UB (by lia);have l1:=(fR t e).1;rw[run_eq C.calls rfl,jj];have rg:dI .rng1 [.int ((((each (jk t) e).length:Nat):Int) - 1)]=UA (upto 0 e):=by
  rw[jf,bI];have c:((-100000<=(((e+1:Nat):Int) - 1):Bool)&&((((e+1:Nat):Int) - 1)<=100000:Bool))=UC:=by simp only[NY,decide_eq_true_eq];lia
  rw[if_pos c,show (((e+1:Nat):Int) - 1).toNat=e by lia]
 have f0:=gw h [.d (cO (en t e)),.l (af (wt t e))] (.lst (itE (en t e)));have d0:=zS h (cO (en t e)) (.l (af (wt t e)));have k1:(cO (en t e)).length<=100000:=by unfold cO;rw[Oh];lia
 have b2':aJ (evS (runN T G (k+11)) G caB) [(4,"moment")] (upto 0 e) [UA (.o n),UA (.p (.lst (each (jk t) e))),UA (.r h.length),UA (.r (h.length+1)),UB] (h++[.d [],.l []])=UA (.nx [UA (.o n),UA (.p (.lst (each (jk t) e))),UA (.r h.length),UA (.r (h.length+1)),y] (h++[.d (cO (en t e)),.l (af (wt t e))])):=b2;generalize each (jk t) e=dp at *;generalize upto 0 e=up at *;simp[-aJ,-bI,a.ob,rV,C.g,b1,rg,fu,b2',d0,k1,GP,f0]
end
structure Oc (t:Tp) (m k w:Nat):Prop where
 lt:w < m
 at_:dep t w=k
 up:∀ j,w < j->j<=m->k < dep t j
theorem Oc.one {t:Tp}{m k w w':Nat} (a:Oc t m k w) (b:Oc t m k w'):w=w':=by
 rcases QV w w' with z|z|z
 ·have h1:=a.up w' z (by have:=b.lt;lia);have h2:=b.at_;lia
 exact z
 ·have h1:=b.up w z (by have:=a.lt;lia);have h2:=a.at_;lia
theorem lK (R:Run t.p t.asked t.most e) (hm:m<=e) (h:(wt t m)[k]?=UA w):Oc t m k w:=by obtain ⟨a1,a2,_,_,a5⟩:=(dR R m hm).ok k w h;exact ⟨a1,a2,a5⟩
theorem CU (R:Run t.p t.asked t.most e) (hm:m<=e) (hp:0 < dep t m):∃ l,Oc t m (dep t m - 1) l/\wt t m=wt t l++[l]:=by
 have len:=(dR R m hm).len;obtain ⟨l,hl⟩:∃ l,(wt t m)[dep t m - 1]?=UA l:=⟨_,N7 (by lia)⟩;have o:=lK R hm hl;have ol:=o.lt;have oa:=o.at_;have Df:=(dR R l (by lia)).len;refine ⟨l,o,List.ext_getElem? λk=>?_⟩;rcases QV k (dep t m - 1) with z|z|z
 ·rw[N5 (by lia)];obtain ⟨w,hw⟩:∃ w,(wt t m)[k]?=UA w:=⟨_,N7 (by lia)⟩;obtain ⟨w',hw'⟩:∃ w',(wt t l)[k]?=UA w':=⟨_,N7 (by lia)⟩;have a:=lK R hm hw;have b:=lK R (show l<=e by lia) hw';have wl:w < l:=by
   have a1:=a.at_;rcases QV w l with q|q|q
   exact q;rw[q] at a1;lia
   ·have:=o.up w q (by have:=a.lt;lia);lia
  have:Oc t l k w:=⟨wl,a.at_,λj j1 j2=>a.up j j1 (by lia)⟩;rw[hw,hw',this.one b]
 rw[z,hl,Ol (by lia),show dep t m - 1 - (wt t l).length=0 by lia];rfl;rw[Od (by lia),Od (by rw[Oj,OX];lia)]
theorem CV (o:Oc t m (dep t m - 1) l) (hp:0 < dep t m) (b:BX (wi t ((dep t m:Int) - 1)) m j):j=l:=by
 have ol:=o.lt;have oa:=o.at_;have gl:wi t ((dep t m:Int) - 1) l=UC:=by unfold wi;rw[decide_eq_true_eq];lia
 rcases QV j l with z|z|z
 rw[b.gap l z ol] at gl;cases gl;exact z
 ·have jm:=b.lt (by lia);have h1:=b.yes (by lia);unfold wi at h1;rw[decide_eq_true_eq] at h1;have h2:=o.up j z (by lia);lia
theorem zW (s:Sm8 t t'):∀ m,wt t' m=wt t m/\en t' m=en t m
 | 0=>⟨rfl,rfl⟩
 | m+1=>by
  have d:dep t'=dep t:=by funext i;unfold dep;rw[s.p,s.asked]
  obtain ⟨h1,h2⟩:=zW s m;exact ⟨by rw[wt,wt,d,h1],by rw[en,en,d,h1,h2]⟩
structure Tl (h:HH) (n r q:Nat) (js:List Nat):Prop where
 at_:lat h q=UA (af js)
 n1:q≠n
 n2:q≠r
theorem Tl.go (d:Tl h n r q js) (g:Go n h r t h' r' t'):Tl h' n r' q js:=by
 have lt:=jL d.at_;refine ⟨?_,d.n1,?_⟩;rw[← d.at_];exact zC (g.fr q d.n1 d.n2 lt)
 ·rcases g.len with ⟨_,z⟩|z
  rw[z];exact d.n2;lia
theorem Tl.put (d:Tl h n r q js) (a:TAt h n r t) (j:Nat):Tl (h.set q (.l (af js++[.int (j:Int)]))) n r q (js++[j])/\TAt (h.set q (.l (af js++[.int (j:Int)]))) n r t:=by
 have lt:=jL d.at_;refine ⟨⟨?_,d.n1,d.n2⟩,?_,?_⟩
 ·rw[qA lt];show UA _=_;unfold af;rw[Qf];rfl
 rw[lI (λz=>d.n1 z.symm)];exact a.ob;rw[iI (λz=>d.n2 z.symm)];exact a.li
section
theorem CW (P:TpP T G) (L:TpB T) (Wk:WkB T) (hb:T "back_out"=UA bG) (k:Nat) (w1:W) (n q e gv:Nat):∀ (d f m:Nat) (h:HH) (r:Nat) (t:Tp) (js:List Nat),dep t m=d->d < f->m<=e->TAt h n r t->TI t e gv->Tl h n r q js->js.length+d<=50000 →
 ∃ y h' r' t',bE (BT.ev (runN T G (k+14)) G ocC) (evS (runN T G (k+14)) G ocB) f [UA (.o n),UA w1,UA (.r q),UA (.p (.int (m:Int)))] h=UA (.nx [UA (.o n),UA w1,UA (.r q),y] h')/\TAt h' n r' t'/\TI t' e gv/\Sm8 t t'/\Tl h' n r' q (js++(wt t m).reverse)/\h.length<=h'.length:=by
 intro d
 induction d with
 | zero =>
  intro f m h r t js hd hf hm a I T0 hj;cases f with
  | zero=>lia
  | succ f =>
   obtain ⟨h1,r1,t1,b1,g1,I1,s1⟩:=jM P Wk.d (k+2) a I m hm;rw[hd] at b1;have ts:BT.ev (runN T G (k+14)) G ocC [UA (.o n),UA w1,UA (.r q),UA (.p (.int (m:Int)))] h=UA (.p (.bl UD),h1):=by simp[ocC,b1]
   have w0:wt t m=[]:=List.length_eq_zero_iff.mp (by rw[(dR I.run m hm).len,hd]);refine ⟨UA (.p (.int (m:Int))),h1,r1,t1,?_,g1.b,I1,s1,by rw[w0];simpa using T0.go g1,g1.le⟩;rw[bE,ts,dJ,iw]
 | succ d ih =>
  intro f m h r t js hd hf hm a I T0 hj;cases f with
  | zero=>lia
  | succ f =>
   obtain ⟨h1,r1,t1,b1,g1,I1,s1⟩:=jM P Wk.d (k+2) a I m hm;rw[hd] at b1;have ts:BT.ev (runN T G (k+14)) G ocC [UA (.o n),UA w1,UA (.r q),UA (.p (.int (m:Int)))] h=UA (.p (.bl UC),h1):=by
    have c:(0:Int) < ((d+1:Nat):Int):=by lia
    generalize ((d+1:Nat):Int)=z at b1 c;simp[ocC,b1,c]
   obtain ⟨j,h2,r2,t2,b2,B,g2,I2,s2⟩:=oJ P L Wk hb k g1.b I1 m hm;have D1:dep t1=dep t:=by funext i;unfold dep;rw[s1.p,s1.asked]
   rw[D4 s1,D1] at B;obtain ⟨l,o,hw⟩:=CU I.run hm (by lia);have jl:=CV o (by lia) B;subst jl;have S2:=s1.trans s2;have T2:=(T0.go g1).go g2;obtain ⟨T3,a3⟩:=T2.put g2.b j;have oj:=o.lt;have D2:dep t2=dep t:=by funext i;unfold dep;rw[S2.p,S2.asked]
   obtain ⟨y,h4,r4,t4,b4,a4,I4,s4,T4,ln⟩:=ih f j _ r2 t2 (js++[j]) (by rw[D2,o.at_];lia) (by lia) (by lia) a3 I2 T3 (by rw[Oj,OX];lia);have gl:=g1.le;have gl2:=g2.le;refine ⟨y,h4,r4,t4,?_,a4,I4,S2.trans s4,?_,?_⟩
   ·have la:=T2.at_;have l1:(af js).length < 100000:=by unfold af;rw[Oh];lia
    have bd:evS (runN T G (k+14)) G ocB [UA (.o n),UA w1,UA (.r q),UA (.p (.int (m:Int)))] h1=UA (.nx [UA (.o n),UA w1,UA (.r q),UA (.p (.int (j:Int)))] (h2.set q (.l (af js++[.int (j:Int)])))):=by simp[ocB,b2,la,l1]
    rw[bE,ts,dJ,jB,bd,bD,b4]
   ·rw[(zW S2 j).1,OY] at T4;rw[hw,Uc];exact T4
   rw[List.length_set] at ln;lia
theorem lM (P:TpP T G) (L:TpB T) (Wk:WkB T) (hb:T "back_out"=UA bG) (C:CaP T G) (k:Nat) {n r:Nat}{t:Tp}{h:HH}{e gv:Nat} (a:TAt h n r t) (I:TI t e gv) (m:Nat) (hm:m<=e) :
 ∃ h' r' t',runN T G (k+15) "open_calls" [.o n,.p (.int (m:Int))] h=UA (.p (.lst (af (wt t m))),h')/\TAt h' n r' t'/\TI t' e gv/\Sm8 t t':=by
 have le:=I.run.le;have m1:=I.m1;have T0:Tl (h++[.l []]) n r h.length []:=⟨by simp[lat];rfl,λz=>by have:=jK a.ob;lia,λz=>by have:=jL a.li;lia⟩;have dl:=(dR I.run m hm).len;have wl:=(fR t m).2;obtain ⟨y,h1,r1,t1,b1,a1,I1,s1,T1,ln⟩:=CW P L Wk hb k (.p (.int (m:Int))) n h.length e gv (dep t m) turns m (h++[.l []]) r t [] rfl (by unfold turns;lia) hm a.app I T0 (by simp only[O6];lia);have lr:(af ((wt t m).reverse)).reverse=af (wt t m):=by unfold af;rw[← List.map_reverse,List.reverse_reverse]
 have la:=T1.at_;rw[Qe] at la;have k1:(af (wt t m)).length<=100000:=by unfold af;rw[Oh];lia
 have key:∃ h' r' t',fin h (.p (.lst (af (wt t m)))) h1=UA (.p (.lst (af (wt t m))),h')/\TAt h' n r' t'/\TI t' e gv/\Sm8 t t':=by
  unfold fin
  by_cases c:h1.length=h.length
  rw[if_pos c];exact ⟨h1,r1,t1,rfl,a1,I1,s1⟩
  ·rw[if_neg c]
   by_cases c2:h1.take h.length=h
   rw[if_pos c2];exact ⟨h,r,t,rfl,a,I,.refl t⟩;rw[if_neg c2];exact ⟨h1,r1,t1,rfl,a1,I1,s1⟩
 obtain ⟨h',r',t',f0,a',I',s'⟩:=key;refine ⟨h',r',t',?_,a',I',s'⟩;rw[run_eq C.open_calls rfl,cW];generalize hrv:af ((wt t m).reverse)=rv at la lr;simp[b1,rd,la,lr,k1,f0]
end
theorem zX:∀ {a b:List Nat},a.Pairwise (· < ·)->b.Pairwise (· < ·)->(∀ x,x∈a↔x∈b)->a=b
 | [],[],_,_,_=>rfl| [],y::b,_,_,h=>absurd ((h y).mpr Oe) (by simp)| x::a,[],_,_,h=>absurd ((h x).mp Oe) (by simp)
 | x::a,y::b,pa,pb,h=>by
  obtain ⟨a1,a2⟩:=List.pairwise_cons.mp pa;obtain ⟨b1,b2⟩:=List.pairwise_cons.mp pb;have xy:x=y:=by
   rcases List.mem_cons.mp ((h x).mp Oe) with z|z
   exact z
   ·rcases List.mem_cons.mp ((h y).mpr Oe) with w|w
    exact w.symm;have:=b1 x z;have:=a1 y w;lia
  subst xy;rw[zX a2 b2 λz=>?_];constructor<;>intro hz
  ·rcases List.mem_cons.mp ((h z).mp (Oa _ hz)) with w|w
   have:=a1 z hz;lia;exact w
  ·rcases List.mem_cons.mp ((h z).mpr (Oa _ hz)) with w|w
   have:=b1 z hz;lia;exact w
noncomputable def up (t:Tp) (i:Nat):Bool:=decide (dep t i < dep t (i+1))
noncomputable def gl (t:Tp) (s i:Nat):Bool:=decide ((dep t i:Int)<=(dep t s:Int))
theorem oK (t:Tp):∀ m,(en t m).map (·.1)=(OP m).filter (up t)
 | 0=>rfl
 | m+1=>by
  rw[List.range_succ,List.filter_append,← oK t m,List.filter_cons]
  by_cases c:dep t m < dep t (m+1)
  rw[(qC c).2,Qf,if_pos (by unfold up;simpa using c)];rfl
  ·rw[if_neg (by unfold up;simpa using c)];rcases Os (dep t (m+1)) (dep t m) with z|z
   ·rw[(jh z).2,OW];show _=_++[];rw[OM];apply Pe;intro p _;simp only[Function.comp];split<;>rfl
   rw[(ji (by lia)).2];show _=_++[];rw[OM]
theorem uw {t:Tp}{e:Nat} (R:Run t.p t.asked t.most e) {p:Nat×Option Nat} (h:p∈en t e):FF (gl t p.1) (p.1+1) e p.2:=by
 have E:=iJ R e (N3 _);obtain ⟨s,o⟩:=p;cases o with
 | none =>
  refine ⟨(λj h=>nomatch h),λ_ i h1 h2=>?_⟩;obtain ⟨k,hk⟩:=List.mem_iff_getElem?.mp (E.non s h);have O:=lK R (N3 _) hk;have:=O.up i h1 h2;have:=O.at_;unfold gl;simp;lia
 | some b =>
  obtain ⟨h1,h2,h3,_,h5⟩:=E.som s b h;refine ⟨λj hj=>?_,λh=>nomatch h⟩;cases hj;refine ⟨h1,h2,by unfold gl;simp;lia,λi k1 k2=>?_⟩;have:=h5 i k1 k2;unfold gl;simp;lia
theorem zY {t:Tp}{e m:Nat} (R:Run t.p t.asked t.most e) (hm:m<=e) (w:Nat):w∈wt t m↔Oc t m (dep t w) w:=by
 constructor
 ·intro h;obtain ⟨k,hk⟩:=List.mem_iff_getElem?.mp h;have O:=lK R hm hk;rw[← O.at_] at O;exact O
 ·intro O;have l:=(dR R m hm).len;have lt:dep t w < (wt t m).length:=by rw[l];exact O.up m O.lt (N3 _)
  have g:=N7 lt;rw[Oc.one O (lK R hm g)];exact Sh lt
theorem D5 {t:Tp}{e:Nat} (R:Run t.p t.asked t.most e):∀ m,m<=e->(wt t m).Pairwise (· < ·)
 | 0,_=>.nil
 | m+1,h=>by
  have ih:=D5 R m (by lia)
  by_cases c:dep t m < dep t (m+1)
  ·rw[(qC c).1];refine List.pairwise_append.mpr ⟨ih,by simp,λa ha b hb=>?_⟩;simp at hb;rw[hb];exact ((zY R (by lia) a).mp ha).lt
  ·rcases Os (dep t (m+1)) (dep t m) with z|z
   rw[(jh z).1];exact ih.sublist (List.dropLast_sublist _);rw[(ji (by lia)).1];exact ih
noncomputable def opn (m:Nat) (p:Nat×Option Nat):Bool:=decide (p.1 < m)&&(match p.2 with
 | none=>UC
 | some b=>decide (m < b))
theorem JO {t:Tp}{e m:Nat} (R:Run t.p t.asked t.most e) (hm:m<=e):((en t e).filter (opn m)).map (·.1)=wt t m:=by
 refine zX ?_ (D5 R m hm) λw=>?_;exact List.pairwise_map.mpr ((iJ R e (N3 _)).rise.filter _)
 ·rw[zY R hm,List.mem_map];constructor
  ·rintro ⟨p,hp,rfl⟩
   obtain ⟨h1,h2⟩:=List.mem_filter.mp hp;have F:=uw R h1;unfold opn at h2;rw[NY,decide_eq_true_eq] at h2;refine ⟨h2.1,rfl,λj k1 k2=>?_⟩;have:gl t p.1 j=UD:=by
    obtain ⟨s,o⟩:=p;cases o with
    | none=>exact F.no rfl j k1 (by lia)| some b=>exact (F.yes b rfl).2.2.2 j k1 (by have:=of_decide_eq_true h2.2;lia)
   unfold gl at this;simp at this;lia
  ·intro O;have l:=O.lt;have u:up t w=UC:=by unfold up;simpa using O.up (w+1) (by lia) (by lia)
   have wm:w∈(en t e).map (·.1):=by rw[oK];exact List.mem_filter.mpr ⟨List.mem_range.mpr (by lia),u⟩
   obtain ⟨p,hp,rfl⟩:=List.mem_map.mp wm;refine ⟨p,List.mem_filter.mpr ⟨hp,?_⟩,rfl⟩;have F:=uw R hp;obtain ⟨s,o⟩:=p;unfold opn;cases o with
   | none=>simpa using l
   | some b =>
    obtain ⟨h1,h2,h3,_⟩:=F.yes b rfl;have:m < b:=by
     rcases Os m b with z|z
     exact z
     ·have:=O.up b h1 z;unfold gl at h3;simp at h3;lia
    simp[l,this]
section
variable {T:FK->Option Fn}{G:Str->Option W}
end
noncomputable def oM (xs:List Nat):List Int:=xs.map λ(n:Nat)=>(n:Int)
theorem jn (xs:List Nat):af xs=aa (oM xs):=by unfold af aa oM;rw[OW];rfl
theorem CY {xs:List Nat} (h:xs.Pairwise (·<=·)):(oM xs).Pairwise (·<=·):=SK _ (λa b h=>by lia) h
theorem v7 {xs ys:List Nat} (h:xs.Perm ys) (hy:ys.Pairwise (·<=·)):sortI (oM xs)=oM ys:=T8 ((sortI_perm _).trans (h.map _)) (pK _) (CY hy)
theorem rX (xs:List Int):dok 100 (.lst (aa xs))=UC:=by show (aa xs).all (dok 99)=UC;unfold aa;rw[List.all_map,O8];intro x _;exact A1 99 x
theorem rY (xs:List Nat):(af xs).length=xs.length:=by unfold af;rw[Oh]
theorem tnx (s:Sl) (h:HH) (k:Sl->HH->Option Fl):jT (UA (.nx s h)) k=k s h:=Eq.trans rfl rfl
section
variable {T:FK->Option Fn}{G:Str->Option W}
theorem zZ {α β:Type} (l:List α):l.filterMap (λ_=>(UB:Option β))=[]:=by
 induction l with
 | nil=>rfl| cons x l ih=>rw[OE];exact ih
end
noncomputable def clB:S:=(.seq (.set 5 (.call "_law_drawn" (Z7 (.var 0) (.bin .add (.bin .add (.var 1) (.cst (.int 1))) (.bin .mul (.cst (.int 3)) (.var 4))) (.cst (.int 5))))) (.seq (.set 6 (.call "_law_drawn" (Z7 (.var 0) (.bin .add (.bin .add (.var 1) (.cst (.int 2))) (.bin .mul (.cst (.int 3)) (.var 4))) (.bin .add (.var 2) (.cst (.int 1)))))) (.seq (.set 7 (.tup (Z7 (.cst (.str "set")) (.cst (.str "a")) (.tup (Z7 (.cst (.str "add")) (.tup (Z8 (.cst (.str "name")) (.cst (.str "a")))) (.tup (Z8 (.cst (.str "num")) (.cst (.int 1))))))))) (.seq (.set 8 (.tup (Z7 (.cst (.str "less")) (.tup (Z8 (.cst (.str "num")) (.cst (.int 3)))) (.tup (Z8 (.cst (.str "name")) (.cst (.str "a"))))))) (.ex (.me .append (.var 3) (Z9 (.idx (.lst UD (Z5 (.tup (Z8 (.cst (.str "call")) (.var 6))) (.tup (Z9 (.cst (.str "back")))) (.var 7) (.tup (Z7 (.cst (.str "unless")) (.var 8) (.var 6))) (.var 7))) (.var 5)))))))))
noncomputable def bH:Fn:=⟨["_law_script","_law_at"],["_law_script","_law_at","_law_size","_law_rows","_law_k","_law_way","_law_place","_law_step","_law_test"], (.seq (.set 2 (.bin .add (.cst (.int 3)) (.call "_law_drawn" (Z7 (.var 0) (.var 1) (.cst (.int 4)))))) (.seq (.set 3 (.lst UC .nil)) (.seq (.for [(4,"_law_k")] .rng1 (Z9 (.var 2)) clB) (.ret (.idx (.lst UD (Z8 (.bi .tuple UD (Z9 (.var 3))) (.call "_law_program" (Z8 (.var 0) (.cst (.int 20)))))) (.call "_law_drawn" (Z7 (.var 0) (.bin .add (.var 1) (.cst (.int 60))) (.cst (.int 2)))))))))⟩
section
noncomputable def iK:Rw:=.set .a (.two .add (.nam .a) (.num 1))
noncomputable def jo (p:Nat):List Rw:=[.call p,.back,iK,.unless (.two .less (.num 3) (.nam .a)) p,iK]
theorem CZ (hp:p<=n):∀ r∈jo p,r.ok n:=by
 intro r hr;simp only[jo,PV,Pj,or_false] at hr;rcases hr with rfl|rfl|rfl|rfl|rfl
 exact hp
 ·trivial
 exact ⟨⟨trivial,⟨by decide,by decide⟩⟩,by decide⟩;exact ⟨⟨⟨⟨by decide,by decide⟩,trivial⟩,by decide⟩,hp⟩;exact ⟨⟨trivial,⟨by decide,by decide⟩⟩,by decide⟩
theorem ux (L:Lw T) (ns:List Int) (hl:ns.length<=1000) (p:Int) (S:Nat):∀ (q lo:Nat),∃ new:Pg,(∀ r∈new,Rw.ok S r)/\new.length=q/\∀ (k:Nat) (h:HH) (xv:Pg) (x4 x5 x6 x7 x8:Option W),xv.length+q<=100 →
 ∃ y4 y5 y6 y7 y8,aJ (evS (runN T G (k+7)) G clB) [(4,"_law_k")] (upto (lo:Int) q) [UA (.p (.lst (aa ns))),UA (.p (.int p)),UA (.p (.int (S:Int))),UA (.r h.length),x4,x5,x6,x7,x8] (h++[.l (xv.map Rw.enc)]) =
  UA (.nx [UA (.p (.lst (aa ns))),UA (.p (.int p)),UA (.p (.int (S:Int))),UA (.r h.length),y4,y5,y6,y7,y8] (h++[.l ((xv++new).map Rw.enc)]))
 | 0,lo=>⟨[],λr hr=>absurd hr (by simp),rfl,λk h xv x4 x5 x6 x7 x8 _=>⟨x4,x5,x6,x7,x8,by rw[OM];rfl⟩⟩
 | q+1,lo=>by
  obtain ⟨z,hz,dz⟩:=dG (G:=G) L ns hl (p+1+3*(lo:Int)) 5 (by decide);obtain ⟨pl,hpl,dp⟩:=dG (G:=G) L ns hl (p+2+3*(lo:Int)) ((S:Int)+1) (by lia);have hp:pl<=S:=by lia
  obtain ⟨rw0,hr0,hr1⟩:∃ rw0,rw0∈jo pl/\aG (.lst ((jo pl).map Rw.enc)) (.int (z:Int))=UA rw0.enc:=by
   have:z=0\/z=1\/z=2\/z=3\/z=4:=by lia
   rcases this with rfl|rfl|rfl|rfl|rfl
   exact ⟨.call pl,by simp[jo],rfl⟩;exact ⟨.back,by simp[jo],rfl⟩;exact ⟨iK,by simp[jo],rfl⟩;exact ⟨.unless (.two .less (.num 3) (.nam .a)) pl,by simp[jo],rfl⟩;exact ⟨iK,by simp[jo],rfl⟩
  obtain ⟨new,ok,len,go⟩:=ux L ns hl p S q (lo+1);refine ⟨rw0::new,λr hr=>?_,by simp[len],λk h xv x4 x5 x6 x7 x8 hl2=>?_⟩
  ·rcases List.mem_cons.mp hr with e|e
   subst e;exact CZ hp r hr0;exact ok r e
  obtain ⟨y4,y5,y6,y7,y8,b⟩:=go k h (xv++[rw0]) (UA (.p (.int (lo:Int)))) (UA (.p (.int (z:Int)))) (UA (.p (.int (pl:Int)))) (UA (.p iK.enc)) (UA (.p (Sm.two .less (.num 3) (.nam .a)).enc)) (by simp;lia);rw[OY] at b;refine ⟨y4,y5,y6,y7,y8,?_⟩;have dz':=λh=>dz (k+5) h;have dp':=λh=>dp (k+5) h;have bg:(big 3=UC\/big (lo:Int)=UC):=.inl (by decide);have l0:lat (h++[Cl.l (xv.map Rw.enc)]) h.length=UA (xv.map Rw.enc):=by simp[lat]
  have l1:xv.length < 100000:=by lia
  have ls:(h++[Cl.l (xv.map Rw.enc)]).set h.length (Cl.l (xv.map Rw.enc++[rw0.enc]))=h++[Cl.l ((xv++[rw0]).map Rw.enc)]:=by simp
  have hr2:aG (.lst [.tup [.str "call",.int (pl:Int)],.tup [.str "back"],.tup [.str "set",.str "a",.tup [.str "add",.tup [.str "name",.str "a"],.tup [.str "num",.int 1]]],.tup [.str "unless",.tup [.str "less",.tup [.str "num",.int 3],.tup [.str "name",.str "a"]],.int (pl:Int)],.tup [.str "set",.str "a",.tup [.str "add",.tup [.str "name",.str "a"],.tup [.str "num",.int 1]]]]) (.int (z:Int))=UA rw0.enc:=hr1;have bd:evS (runN T G (k+7)) G clB [UA (.p (.lst (aa ns))),UA (.p (.int p)),UA (.p (.int (S:Int))),UA (.r h.length),UA (.p (.int (lo:Int))),x5,x6,x7,x8] (h++[.l (xv.map Rw.enc)]) =
   UA (.nx [UA (.p (.lst (aa ns))),UA (.p (.int p)),UA (.p (.int (S:Int))),UA (.r h.length),UA (.p (.int (lo:Int))),UA (.p (.int (z:Int))),UA (.p (.int (pl:Int))),UA (.p iK.enc),UA (.p (Sm.two .less (.num 3) (.nam .a)).enc)] (h++[.l ((xv++[rw0]).map Rw.enc)])):=by
   rw[← ls];simp[-aX,-Qq,clB,bg,dz',dp',hr2,l0,l1,iK,Rw.enc,Sm.enc,Nm.w,Op.w]
  have e1:((lo:Int)+1)=((lo+1:Nat):Int):=by lia
  rw[dQ,e1];have st:∀ (d:D) (l:List D),aJ (evS (runN T G (k+7)) G clB) [(4,"_law_k")] (d::l) [UA (.p (.lst (aa ns))),UA (.p (.int p)),UA (.p (.int (S:Int))),UA (.r h.length),x4,x5,x6,x7,x8] (h++[.l (xv.map Rw.enc)]) =
   d8 (evS (runN T G (k+7)) G clB [UA (.p (.lst (aa ns))),UA (.p (.int p)),UA (.p (.int (S:Int))),UA (.r h.length),UA (.p d),x5,x6,x7,x8] (h++[.l (xv.map Rw.enc)])) (aJ (evS (runN T G (k+7)) G clB) [(4,"_law_k")] l):=λd l=>rfl
  rw[st,bd,bD];exact b
theorem qE (L:Lw T) (hP:T "_law_program"=UA aZ) (hC:T "_law_calling"=UA bH) (ns:List Int) (hl:ns.length<=1000) (p:Int) :
 ∃ pg:Pg,Pg.ok pg/\∀ (m:Nat) (h:HH),runN T G (m+8) "_law_calling" [.p (.lst (aa ns)),.p (.int p)] h=UA (.p (aQ pg),h):=by
 obtain ⟨z,hz,dz⟩:=dG (G:=G) L ns hl p 4 (by decide);obtain ⟨y,hy,dy⟩:=dG (G:=G) L ns hl (p+60) 2 (by decide);obtain ⟨p2,d2,r2⟩:=qy (G:=G) L hP ns hl 20;obtain ⟨xv,ok,len,go⟩:=ux (G:=G) L ns hl p (3+z) (3+z) 0;have ok1:Pg.ok xv:=λr hr=>by rw[len];exact ok r hr
 refine ⟨if y=0 then xv else p2,by split;exact ok1;exact d2.ok,λm h=>?_⟩;obtain ⟨y4,y5,y6,y7,y8,b⟩:=go m h [] UB UB UB UB UB (by simp;lia);rw[run_eq hC rfl,bH];have dz':=λh=>dz (m+5) h;have dy':=λh=>dy (m+5) h;have e1:(3:Int)+(z:Int)=((3+z:Nat):Int):=by lia
 have rg:dI .rng1 [.int ((3+z:Nat):Int)]=UA (upto 0 (3+z)):=by
  rw[bI];have c:((-100000<=(((3+z:Nat):Int)):Bool)&&(((3+z:Nat):Int)<=100000:Bool))=UC:=by simp only[NY,decide_eq_true_eq];lia
  rw[if_pos c];rfl
 have l0:lat (h++[Cl.l (xv.map Rw.enc)]) h.length=UA (xv.map Rw.enc):=by simp[lat]
 have f0:=λd=>gw h [Cl.l (xv.map Rw.enc)] d;have ix:aG (.lst [.tup (xv.map Rw.enc),aQ p2]) (.int (y:Int))=UA (aQ (if y=0 then xv else p2)):=by
  have:y=0\/y=1:=by lia
  rcases this with rfl|rfl
  rfl;rfl
 have b':aJ (evS (runN T G (m+7)) G clB) [(4,"_law_k")] (upto 0 (3+z)) [UA (.p (.lst (aa ns))),UA (.p (.int p)),UA (.p (.int ((3+z:Nat):Int))),UA (.r h.length),UB,UB,UB,UB,UB] (h++[.l []])=UA (.nx [UA (.p (.lst (aa ns))),UA (.p (.int p)),UA (.p (.int ((3+z:Nat):Int))),UA (.r h.length),y4,y5,y6,y7,y8] (h++[.l (xv.map Rw.enc)])):=b;generalize hS:((3+z:Nat):Int)=S at e1 rg b';have r2':=λh=>r2 m h;simp[-aX,-bI,-aJ,dz',e1,rg,fu,b',rd,l0,r2',dy',ix,f0]
theorem MO (r:Rw):aG r.enc (.int 0)=UA (.str r.word)/\((∀ c,r≠.call c)/\eqv (.str r.word) (.str "call")=UD\/eqv (.str r.word) (.str "call")=UC):=by
 cases r with
 | call c=>exact ⟨rfl,.inr (by simp[Rw.word])⟩| _=>exact ⟨rfl,.inl ⟨λc=>by simp,by simp[Rw.word]⟩⟩
end
def Ok (n e gv:Nat) (t:Tp) (h:HH):Prop:=∃ r t',TAt h n r t'/\TI t' e gv/\Sm8 t t'
section
variable {T:FK->Option Fn}{G:Str->Option W}
end
noncomputable def JP:E:=(.comp UD .seq (Z9 (.var 7)) ["_law_start"] [(2,"_law_tape")] .nil (.bin .add (.idx (.meth (.var 1) "at" (Z9 (.var 0))) (.cst (.int 0))) (.cst (.int 1))))
noncomputable def GQ:E:=(.cmp .ne (.idx (.meth (.var 2) "at" (Z9 (.var 6))) (.cst (.int 3))) (.bi .tuple UD (Z9 JP)))
noncomputable def v8:E:=(.chain .lt .lt (.var 0) (.var 2) (.idx (.var 1) (.var 0)))
noncomputable def JQ:E:=(.comp UD .seq (Z9 (.dk .so (.var 5))) ["_law_start"] [(5,"_law_ends"),(6,"_law_moment")] (Z9 v8) (.var 0))
noncomputable def C1:E:=(.and (.cmp .lt (.var 6) (.var 3)) (.cmp .eq (.idx (.idx (.var 1) (.idx (.meth (.var 2) "at" (Z9 (.var 6))) (.cst (.int 0)))) (.cst (.int 0))) (.cst (.str "call"))))
noncomputable def v9:E:=(.chain .lt .lt (.var 2) (.var 0) (.idx (.var 1) (.var 2)))
noncomputable def JR:E:=(.comp UD .seq (Z9 (.dk .ks (.var 5))) ["_law_one"] [(5,"_law_ends"),(9,"_law_start")] (Z9 v9) (.var 0))
noncomputable def JS:E:=(.comp UD .seq (Z9 (.var 10)) ["_law_one"] [(5,"_law_ends"),(9,"_law_start")] (Z9 (.cmp .gt (.idx (.var 1) (.var 0)) (.idx (.var 1) (.var 2)))) (.var 0))
noncomputable def z4:E:=(.comp UD .seq (Z9 (.var 4)) ["_law_start","_law_behind"] [(3,"_law_end")] .nil (.tup (Z8 (.var 0) (.idx (.lst UD (Z8 (.bin .add (.var 2) (.cst (.int 1))) (.var 1))) (.bi .int UD (Z9 (.cmp .notN (.var 1) (.cst .non))))))))
noncomputable def JT:E:=(.comp UD .seq (Z9 (.var 4)) ["_law_start","_law_behind"] [] .nil (.var 0))
noncomputable def rZ:S:=(.seq (.set 7 (.call "open_calls" (Z8 (.var 2) (.var 6)))) (.seq (.ife GQ (.ret (.cst (.bl UD))) .nil) (.seq (.ife (.cmp .ne (.var 7) JQ) (.ret (.cst (.bl UD))) .nil) (.seq (.set 8 C1) (.ife (.cmp .ne (.var 8) (.cmp .mem (.var 6) (.var 5))) (.ret (.cst (.bl UD))) .nil)))))
noncomputable def lN:S:=(.seq (.set 10 JR) (.ife (.cmp .ne JS (.lst UD .nil)) (.ret (.cst (.bl UD))) .nil))
noncomputable def C2:S:=(.seq (.for [(6,"_law_moment")] .rng1 (Z9 (.bin .add (.var 3) (.cst (.int 1)))) rZ) (.seq (.for [(9,"_law_start")] .seq (Z9 (.dk .ks (.var 5))) lN) (.ret (.cmp .eq JT (.dk .so (.var 5))))))
noncomputable def C3:S:=(.seq (.set 1 (.call "_law_calling" (Z8 (.var 0) (.cst (.int 600))))) (.seq (.set 2 (.make "Tape" (Z6 (.var 1) (.call "_law_asked" (Z8 (.var 0) (.cst (.int 450)))) (.bin .add (.cst (.int 1)) (.call "_law_drawn" (Z7 (.var 0) (.cst (.int 441)) (.cst (.int 5))))) (.call "_law_drawn" (Z7 (.var 0) (.cst (.int 440)) (.cst (.int 13))))))) (.seq (.set 3 (.meth (.var 2) "end" .nil)) (.seq (.set 4 (.call "calls" (Z9 (.var 2)))) (.seq (.set 5 (.dk .of z4)) C2)))))
noncomputable def gF:Fn:=⟨["_law_script"],["_law_script","_law_program_here","_law_tape","_law_end","_law_every","_law_ends","_law_moment","_law_open_ones","_law_is_call","_law_start","_law_inner"], C3⟩
structure MP (T:FK->Option Fn):Prop where
 lw:Lw T
 program:T "_law_program"=UA aZ
 calling:T "_law_calling"=UA bH
 law:T "law"=UA gF
structure r8 (T:FK->Option Fn) (G:Str->Option W):Prop where
 P:TpP T G
 M:TpE T
 L:TpB T
 R:TpR T
 Wk:WkB T
 bo:T "back_out"=UA bG
 C:CaP T G
noncomputable def nd (e:Nat) (p:Nat×Option Nat):Nat:=p.2.getD (e+1)
noncomputable def kd (t:Tp) (e:Nat):List (Ky×D):=(en t e).map λp=>(.inl (p.1:Int),.int (nd e p:Int))
noncomputable def ks (t:Tp) (e:Nat):List Nat:=(en t e).map (·.1)
theorem uy:∀ (l acc:List (Ky×D)),l.Pairwise (λa b=>a.1≠b.1)->(∀ a∈acc,∀ b∈l,a.1≠b.1)->l.foldl (λc p=>c7 c p.1 p.2) acc=acc++l
 | [],acc,_,_=>by simp
 | p::l,acc,h1,h2=>by
  obtain ⟨h3,h4⟩:=List.pairwise_cons.mp h1;have e1:c7 acc p.1 p.2=acc++[p]:=by unfold c7;rw[if_neg];intro z;obtain ⟨a,ha,hb⟩:=List.any_eq_true.mp z;exact h2 a ha p Oe (of_decide_eq_true hb)
  rw[Sv,e1,uy l (acc++[p]) h4 (λa ha b hb=>?_),OY];rfl
  ·rcases List.mem_append.mp ha with z|z
   exact h2 a z b (Oa _ hb);rw[List.mem_singleton.mp z];exact h3 b hb
theorem D6 {t:Tp}{e:Nat} (R:Run t.p t.asked t.most e):(kd t e).Pairwise (λa b=>a.1≠b.1):=by unfold kd;refine List.pairwise_map.mpr ((iJ R e (N3 _)).rise.imp λ{a b} h z=>?_);have z:((a.1:Int))=(b.1:Int):=Sum.inl.inj z;lia
theorem qF:∀ (l:List (Nat×Option Nat)) (e:Nat),eY (l.map λp=>.tup [.int (p.1:Int),.int (nd e p:Int)])=UA (l.map λp=>(.inl (p.1:Int),.int (nd e p:Int)))
 | [],_=>rfl
 | p::l,e=>by rw[Oi,xK,qF l e];rfl
theorem z5:∀ {l:List (Ky×D)},l.Pairwise (λa b=>a.1≠b.1)->∀ {p:Ky×D},p∈l->bB l p.1=UA p.2
 | [],_,p,h=>nomatch h
 | q::l,h1,p,h=>by
  obtain ⟨h3,h4⟩:=List.pairwise_cons.mp h1;rcases List.mem_cons.mp h with z|z
  subst z;simp[bB,PM]
  ·have ih:=z5 h4 z;have ne:¬ q.1=p.1:=h3 p z;unfold bB at ih ⊢;rw[Q5 (by simpa using ne)];exact ih
theorem lO {t:Tp}{e:Nat} (R:Run t.p t.asked t.most e) {p:Nat×Option Nat} (h:p∈en t e):bB (kd t e) (.inl (p.1:Int))=UA (.int (nd e p:Int)) :=
 z5 (D6 R) (p:=(.inl (p.1:Int),.int (nd e p:Int))) (List.mem_map.mpr ⟨p,h,rfl⟩)
theorem GR {t:Tp}{e m:Nat} (R:Run t.p t.asked t.most e):(bB (kd t e) (.inl (m:Int))).isSome=decide (m∈ks t e):=by
 by_cases c:m∈ks t e
 ·obtain ⟨p,h1,rfl⟩:=List.mem_map.mp c;rw[lO R h1,decide_eq_true c];rfl
 ·rw[decide_eq_false c];cases g:bB (kd t e) (.inl (m:Int)) with
  | none=>rfl
  | some d =>
   exfalso;unfold bB at g;obtain ⟨q,g1,g2⟩:=Option.map_eq_some_iff.mp g;have g3:=List.find?_some g1;obtain ⟨p,h1,rfl⟩:=List.mem_map.mp (List.mem_of_find?_eq_some g1);have g3:(Sum.inl (p.1:Int):Ky)=.inl (m:Int):=of_decide_eq_true g3;have:(p.1:Int)=(m:Int):=Sum.inl.inj g3;exact c (List.mem_map.mpr ⟨p,h1,by lia⟩)
theorem C4 {t:Tp}{e:Nat} (R:Run t.p t.asked t.most e):(ks t e).Pairwise (· < ·):=List.pairwise_map.mpr (iJ R e (N3 _)).rise
theorem z9 (t:Tp) (e:Nat):(ks t e).length<=e:=by unfold ks;rw[Oh];exact (fR t e).1
theorem uz:∀ (l:List (Nat×Option Nat)) (e:Nat),jS (l.map λp=>((.inl (p.1:Int):Ky),D.int (nd e p:Int)))=UA (oM (l.map (·.1)))
 | [],_=>rfl
 | p::l,e=>by show (jS (l.map _)).map ((p.1:Int) :: ·)=_;rw[uz l e];rfl
theorem D7 {t:Tp}{e:Nat} (R:Run t.p t.asked t.most e) (he:e < 64) (h:HH):kDk .so (.k (.l (kd t e))) h=UA (.p (.lst (af (ks t e))),h):=by have l:=z9 t e;have le:(ks t e).Pairwise (·<=·):=(C4 R).imp λh=>O0 h;have e1:jS (kd t e)=UA (oM (ks t e)):=uz (en t e) e;rw[nK,e1,Pv,if_pos (by unfold oM;rw[Oh];lia),v7 (.refl _) le,jn];rfl
section
variable {T:FK->Option Fn}{G:Str->Option W}
noncomputable abbrev s33 (w0 w1 w2:W) (e:Nat) (t:Tp) (rest:Sl):Sl:=UA w0::UA w1::UA w2::UA (.p (.int (e:Int)))::UA (.p (.lst (itE (en t e))))::UA (.k (.l (kd t e)))::rest
theorem r9 (A:r8 T G) (k:Nat) {n e gv:Nat}{t:Tp}{h:HH} (o:Ok n e gv t h) (m:Nat) (hm:m<=e) :
 ∃ fs,oat h n=UA (Om "Tape",fs)/\aU "at" fs=UB/\∃ h',runN T G (k+11) (.m "Tape" "at") [.o n,.p (.int m)] h=UA (.p (itr t.p t.asked m).enc,h')/\Ok n e gv t h':=by
 obtain ⟨r,t1,a,I,s⟩:=o;obtain ⟨h',r',t',b,g,I',s',_⟩:=zJ A.P k a I m hm;rw[s.p,s.asked] at b;exact ⟨_,a.ob,JI _ _,h',b,r',t',g.b,I',s.trans s'⟩
theorem JU (F:FK->List W->HH->Option (W×HH)) (w0 w1 w2:W) (rest:Sl) (h:HH) {t:Tp}{e:Nat} (R:Run t.p t.asked t.most e) (he:e < 64) :
 BT.ev F G (.dk .of z4) (UA w0::UA w1::UA w2::UA (.p (.int (e:Int)))::UA (.p (.lst (itE (en t e))))::rest) h=UA (.k (.l (kd t e)),h):=by
 have c:=zR (aP (evs F G .nil) (BT.ev F G (.tup (.cons (.var 0) (.cons (.idx (.lst UD (.cons (.bin .add (.var 2) (.cst (.int 1))) (.cons (.var 1) .nil))) (.bi .int UD (.cons (.cmp .notN (.var 1) (.cst .non)) .nil))) .nil)))) [UA (.p (.int (e:Int)))]) 2 (λp:Nat×Option Nat=>D.tup [.int (p.1:Int),cN p.2]) (λp=>[.int (p.1:Int),cN p.2]) (λp=>UA (.tup [.int (p.1:Int),.int (nd e p:Int)])) h (en t e) (λp hp=>⟨rfl,by
  obtain ⟨s,o⟩:=p;cases o with
  | none=>simp[aP,aY,nd,cN]
  | some b=>simp[aP,aY,nd,cN]⟩)
 have cm:(en t e).filterMap (λp=>UA (D.tup [.int (p.1:Int),.int (nd e p:Int)]))=(en t e).map λp=>D.tup [.int (p.1:Int),.int (nd e p:Int)]:=by rw[← Re];rfl
 rw[cm] at c;have l1:=(fR t e).1;have ec:BT.ev F G z4 (UA w0::UA w1::UA w2::UA (.p (.int (e:Int)))::UA (.p (.lst (itE (en t e))))::rest) h=UA (.p (.lst ((en t e).map λp=>D.tup [.int (p.1:Int),.int (nd e p:Int)])),h) :=
  gV (ws:=[.p (.lst (itE (en t e)))]) (h1:=h) (fs:=[UA (.p (.int (e:Int)))]) (by simp) rfl rfl rfl c (by rw[Oh];lia)
 rw[BT.ev,ec,aO,xM,qF,Pv,if_pos (by rw[Oh];show _<=100000;lia)];have f:=uy (kd t e) [] (D6 R) (λa ha=>nomatch ha);unfold kd at f ⊢;rw[f];rfl
theorem GS {e m:Nat} (hm:m<=e) (p:Nat×Option Nat):opn m p=(decide (p.1 < m)&&decide (m < nd e p)):=by
 obtain ⟨s,o⟩:=p;cases o with
 | none=>simp[opn,nd];lia| some b=>rfl
theorem JV (F:FK->List W->HH->Option (W×HH)) (h:HH) {t:Tp}{e m:Nat} (R:Run t.p t.asked t.most e) (hm:m<=e) {p:Nat×Option Nat} (hp:p∈en t e) :
 aP (evs F G (.cons v8 .nil)) (BT.ev F G (.var 0)) [UA (.k (.l (kd t e))),UA (.p (.int (m:Int)))] [.int (p.1:Int)] h=UA (if opn m p=UC then UA (.int (p.1:Int)) else UB,h):=by
 have g:=lO R hp;rw[GS hm];generalize kd t e=KD at *;generalize nd e p=N at *
 by_cases c1:p.1 < m
 ·have c2:(p.1:Int) < (m:Int):=by lia
  by_cases c3:m < N
  ·have c4:(m:Int) < (N:Int):=by lia
   simp[aP,aY,v8,g,c1,c3]
  ·have c4:¬ (m:Int) < (N:Int):=by lia
   simp[aP,aY,v8,g,c1,c3]
 ·have c2:¬ (p.1:Int) < (m:Int):=by lia
  simp[aP,aY,v8,c1]
theorem GT {α:Type} (l:List α) (c:α->Bool) (f:α->Nat):l.filterMap (λp=>if c p=UC then UA (D.int (f p:Int)) else UB)=af ((l.filter c).map f):=by rw[ur];unfold af;rw[OW];rfl
theorem JW (F:FK->List W->HH->Option (W×HH)) (w0 w1 w2:W) (rest:Sl) (h:HH) {t:Tp}{e m:Nat} (R:Run t.p t.asked t.most e) (he:e < 64) (hm:m<=e) :
 BT.ev F G JQ (s33 w0 w1 w2 e t (UA (.p (.int (m:Int)))::rest)) h=UA (.p (.lst (af (wt t m))),h):=by
 have c:=rW (aP (evs F G (.cons v8 .nil)) (BT.ev F G (.var 0)) [UA (.k (.l (kd t e))),UA (.p (.int (m:Int)))]) (λp:Nat×Option Nat=>D.int (p.1:Int)) (λp=>if opn m p=UC then UA (.int (p.1:Int)) else UB) h (en t e) (λp hp=>JV F h R hm hp);rw[GT (en t e) (opn m) (·.1),JO R hm] at c;have em:(en t e).map (λp:Nat×Option Nat=>D.int (p.1:Int))=af (ks t e):=by unfold ks af;rw[OW];rfl
 rw[em] at c;have wl:=(fR t m).2;have so:=D7 R he h;refine gV (ws:=[.p (.lst (af (ks t e)))]) (h1:=h) (fs:=[UA (.k (.l (kd t e))),UA (.p (.int (m:Int)))]) ?_ rfl (by simp[s33]) rfl c (by rw[rY];lia);simp only[s33];generalize kd t e=KD at *;generalize af (ks t e)=L at *;simp[-nK,so]
theorem qG {t:Tp}{e m:Nat} (R:Run t.p t.asked t.most e) (hm:m<=e):(wt t m).map (λs=>(itr t.p t.asked s).row+1)=(itr t.p t.asked m).calls:=by
 have I:=dR R m hm;refine List.ext_getElem? λi=>?_;rw[Ox];cases g:(wt t m)[i]? with
 | some w=>rw[(I.ok i w g).2.2.1];rfl
 | none =>
  have l:=List.getElem?_eq_none_iff.mp g;have:dep t m<=i:=by rw[← I.len];exact l
  exact (Od this).symm
theorem C6 (l:List Nat):dok 100 (.tup (af l))=UC:=by have:=rX (oM l);rw[← jn] at this;exact this
theorem JX (A:r8 T G) (k:Nat) (w0 w1 w3 w4 w5:W) (rest:Sl) {n e gv:Nat}{t:Tp}{h:HH} (R:Run t.p t.asked t.most e) (he:e < 64) (o:Ok n e gv t h) {m:Nat} (hm:m<=e) :
 ∃ h',BT.ev (runN T G (k+14)) G GQ (UA w0::UA w1::UA (.o n)::UA w3::UA w4::UA w5::UA (.p (.int (m:Int)))::UA (.p (.lst (af (wt t m))))::rest) h=UA (.p (.bl UD),h')/\Ok n e gv t h':=by
 obtain ⟨fs,ob,ma,h1,b1,o1⟩:=r9 A (k+3) o m hm;have wl:=(fR t m).2;obtain ⟨h',cc,o2⟩:=GN (aP (evs (runN T G (k+14)) G .nil) (BT.ev (runN T G (k+14)) G (.bin .add (.idx (.meth (.var 1) "at" (.cons (.var 0) .nil)) (.cst (.int 0))) (.cst (.int 1)))) [UA (.o n)]) (λ(i:Nat)=>D.int (i:Int)) (λi=>UA (.int (((itr t.p t.asked i).row+1:Nat):Int))) (Ok n e gv t) (wt t m) (λw hw h o=>by
  obtain ⟨i,hi⟩:=OT hw;have wm:=(lK R hm hi).lt;obtain ⟨fs,ob,ma,h1,b1,o1⟩:=r9 A (k+3) o w (by lia);refine ⟨h1,?_,o1⟩;have i1:aG (itr t.p t.asked w).enc (.int 0)=UA (.int ((itr t.p t.asked w).row:Int)):=rfl;generalize (itr t.p t.asked w).enc=EE at *;have e1:((itr t.p t.asked w).row:Int)+1=(((itr t.p t.asked w).row+1:Nat):Int):=by lia
  generalize (((itr t.p t.asked w).row+1:Nat):Int)=z at *;simp[-jy,aP,aY,ob,ma,b1,i1,e1]) h1 o1
 refine ⟨h',?_,o2⟩;have cm:(wt t m).filterMap (λi=>UA (D.int (((itr t.p t.asked i).row+1:Nat):Int)))=af (itr t.p t.asked m).calls:=by rw[← qG R hm];unfold af;rw[OW,← Re];rfl
 rw[cm] at cc;have ln:(af (itr t.p t.asked m).calls).length<=100000:=by rw[← qG R hm,rY,Oh];lia
 have e1:BT.ev (runN T G (k+14)) G JP (UA w0::UA w1::UA (.o n)::UA w3::UA w4::UA w5::UA (.p (.int (m:Int)))::UA (.p (.lst (af (wt t m))))::rest) h1=UA (.p (.lst (af (itr t.p t.asked m).calls)),h'):=gV (ws:=[.p (.lst (af (wt t m)))]) (h1:=h1) (fs:=[UA (.o n)]) (by simp) rfl rfl rfl cc ln;have i3:aG (itr t.p t.asked m).enc (.int 3)=UA (.tup (af (itr t.p t.asked m).calls)):=rfl;have d1:=ne_self (C6 (itr t.p t.asked m).calls);generalize (itr t.p t.asked m).enc=EE at *;generalize af (itr t.p t.asked m).calls=L at *;generalize af (wt t m)=L2 at *;simp[-jy,-kg,GQ,ob,ma,b1,i3,e1,d1]
theorem MQ (r:Rw):(∃ c,r=.call c)/\eqv (.str r.word) (.str "call")=UC\/(∀ c,r≠.call c)/\eqv (.str r.word) (.str "call")=UD:=by
 cases r with
 | call c=>exact .inl ⟨⟨c,rfl⟩,by simp[Rw.word]⟩| _=>exact .inr ⟨λc z=>(by cases z),by simp[Rw.word]⟩
theorem C7 {t:Tp}{m c:Nat} (g:t.p[(itr t.p t.asked m).row]?=UA (.call c)):(itr t.p t.asked (m+1)).calls=(itr t.p t.asked m).calls++[(itr t.p t.asked m).row+1]:=by show (step t.p t.asked (itr t.p t.asked m)).calls=_;unfold step;rw[g];rfl
theorem JY {t:Tp}{e m:Nat} (R:Run t.p t.asked t.most e):decide (m∈ks t e)=(decide (m < e)&&up t m):=by unfold ks;rw[oK];simp[List.mem_filter]
theorem JZ (A:r8 T G) (k:Nat) (w0 w4 w5:W) (rest:Sl) {n e gv:Nat}{t:Tp}{h:HH} (R:Run t.p t.asked t.most e) (o:Ok n e gv t h) {m:Nat} (hm:m<=e) :
 ∃ h',BT.ev (runN T G (k+14)) G C1 (UA w0::UA (.p (aQ t.p))::UA (.o n)::UA (.p (.int (e:Int)))::UA w4::UA w5::UA (.p (.int (m:Int)))::rest) h=UA (.p (.bl (decide (m∈ks t e))),h')/\Ok n e gv t h':=by
 rw[JY R]
 by_cases c:m < e
 ·obtain ⟨fs,ob,ma,h1,b1,o1⟩:=r9 A (k+3) o m hm;refine ⟨h1,?_,o1⟩;have ov:=R.on m c;have i1:aG (itr t.p t.asked m).enc (.int 0)=UA (.int ((itr t.p t.asked m).row:Int)):=rfl;cases g:t.p[(itr t.p t.asked m).row]? with
  | none =>
   unfold over at ov;rw[g] at ov;cases ov
  | some r =>
   have i2:aG (aQ t.p) (.int ((itr t.p t.asked m).row:Int))=UA r.enc:=by show atP _ _=_;rw[gS,Ox,g];rfl
   have i3:=(MO r).1;have c2:(m:Int) < (e:Int):=by lia
   have d0:∀ b,eqv (.str r.word) (.str "call")=b->dg .eq (.str r.word) (.str "call")=UA b:=λb hb=>by rw[iS,if_pos (f7 (by rfl)),hb]
   have u:eqv (.str r.word) (.str "call")=up t m:=by
    rcases MQ r with ⟨⟨cc,rfl⟩,w1⟩|⟨w1,w2⟩
    ·rw[w1];unfold up dep;rw[C7 g];simp
    ·rw[w2];rcases lJ R c with ⟨⟨cc,hc⟩,q⟩|⟨q0,q,_⟩|q
     rw[g] at hc;cases hc;exact absurd rfl (w1 cc)
     ·unfold up dep;rw[q];simp
     ·unfold up dep;rw[q];simp
   have d1:=d0 _ u;generalize (itr t.p t.asked m).enc=EE at *;generalize up t m=b at *;generalize D.str r.word=wd at *;generalize r.enc=re at *;generalize aQ t.p=pp at *;simp[-jy,-iS,C1,ob,ma,b1,i1,i2,i3,d1,c2,c]
 ·refine ⟨h,?_,o⟩;have c2:¬ (m:Int) < (e:Int):=by lia
  simp[C1,c2,c]
theorem Aa (A:r8 T G) (k:Nat) (w0:W) (x9 x10:Option W) (x7 x8:Option W) {n e gv:Nat}{t:Tp}{h:HH} (R:Run t.p t.asked t.most e) (he:e < 64) (o:Ok n e gv t h) {m:Nat} (hm:m<=e) :
 ∃ y7 y8 h',evS (runN T G (k+15)) G rZ (s33 w0 (.p (aQ t.p)) (.o n) e t [UA (.p (.int (m:Int))),x7,x8,x9,x10]) h=UA (.nx (s33 w0 (.p (aQ t.p)) (.o n) e t [UA (.p (.int (m:Int))),y7,y8,x9,x10]) h')/\Ok n e gv t h':=by
 obtain ⟨r0,t0,a0,I0,s0⟩:=o;obtain ⟨h1,r1,t1,b1,a1,I1,s1⟩:=lM A.P A.L A.Wk A.bo A.C k a0 I0 m hm;rw[(zW s0 m).1] at b1;obtain ⟨h2,b2,o2⟩:=JX A (k+1) w0 (.p (aQ t.p)) (.p (.int (e:Int))) (.p (.lst (itE (en t e)))) (.k (.l (kd t e))) [x8,x9,x10] R he (n:=n) (gv:=gv) (h:=h1) ⟨r1,t1,a1,I1,s0.trans s1⟩ hm;have b3:=JW (G:=G) (runN T G (k+15)) w0 (.p (aQ t.p)) (.o n) [UA (.p (.lst (af (wt t m)))),x8,x9,x10] h2 R he hm;obtain ⟨h4,b4,o4⟩:=JZ A (k+1) w0 (.p (.lst (itE (en t e)))) (.k (.l (kd t e))) [UA (.p (.lst (af (wt t m)))),x8,x9,x10] R o2 hm;have b5:=GR R (m:=m);have d1:dg .ne (.lst (af (wt t m))) (.lst (af (wt t m)))=UA UD:=ne_self (by rw[jn];exact rX _);refine ⟨UA (.p (.lst (af (wt t m)))),UA (.p (.bl (decide (m∈ks t e)))),h4,?_,o4⟩;simp only[s33] at b3 ⊢;generalize decide (m∈ks t e)=bb at *;generalize kd t e=KD at *;generalize af (wt t m)=L at *;generalize D.lst (itE (en t e))=EV at *;generalize aQ t.p=pp at *;have d2:dg .ne (.bl bb) (.bl bb)=UA UD:=ne_self rfl;simp[-iT,tnx,-kg,rZ,b1,b2,b3,b4,b5,d1,d2]
theorem qH (A:r8 T G) (k:Nat) (w0:W) (x9 x10:Option W) {n e gv:Nat}{t:Tp} (R:Run t.p t.asked t.most e) (he:e < 64):∀ (q m:Nat) (x6 x7 x8:Option W) (h:HH),m+q=e+1->Ok n e gv t h →
 ∃ y6 y7 y8 h',aJ (evS (runN T G (k+15)) G rZ) [(6,"_law_moment")] (upto (m:Int) q) (s33 w0 (.p (aQ t.p)) (.o n) e t [x6,x7,x8,x9,x10]) h=UA (.nx (s33 w0 (.p (aQ t.p)) (.o n) e t [y6,y7,y8,x9,x10]) h')/\Ok n e gv t h'
 | 0,m,x6,x7,x8,h,_,o=>⟨x6,x7,x8,h,rfl,o⟩
 | q+1,m,x6,x7,x8,h,hq,o=>by obtain ⟨y7,y8,h1,b1,o1⟩:=Aa A k w0 x9 x10 x7 x8 R he o (m:=m) (by lia);obtain ⟨z6,z7,z8,h2,b2,o2⟩:=qH A k w0 x9 x10 R he q (m+1) (UA (.p (.int (m:Int)))) y7 y8 h1 (by lia) o1;refine ⟨z6,z7,z8,h2,?_,o2⟩;have st:∀ (d:D) (l:List D),aJ (evS (runN T G (k+15)) G rZ) [(6,"_law_moment")] (d::l) (s33 w0 (.p (aQ t.p)) (.o n) e t [x6,x7,x8,x9,x10]) h=d8 (evS (runN T G (k+15)) G rZ (s33 w0 (.p (aQ t.p)) (.o n) e t [UA (.p d),x7,x8,x9,x10]) h) (aJ (evS (runN T G (k+15)) G rZ) [(6,"_law_moment")] l):=λd l=>rfl;rw[dQ,st,b1,bD,show (m:Int)+1=((m+1:Nat):Int) by lia,b2]
theorem J0 {t:Tp}{e:Nat} (R:Run t.p t.asked t.most e) {p q:Nat×Option Nat} (hp:p∈en t e) (hq:q∈en t e) (h1:p.1 < q.1) (h2:q.1 < nd e p):nd e q<=nd e p:=by
 have P:=uw R hp;have Q:=uw R hq;have ql:=(iJ R e (N3 _)).lt q hq;obtain ⟨s,o⟩:=p;obtain ⟨s',o'⟩:=q;have qn:nd e (s',o')<=e+1:=by
  cases o' with
  | none=>exact N3 _
  | some b'=>have:=(Q.yes b' rfl).2.1;show b'<=e+1;lia
 cases o with
 | none=>exact qn
 | some b =>
  obtain ⟨p1,p2,p3,p4⟩:=P.yes b rfl;have h2:s' < b:=h2;have g1:gl t s s'=UD:=p4 s' (by show s+1<=s';exact h1) h2;have g2:gl t s' b=UC:=by unfold gl at *;simp at g1 p3 ⊢;lia
  show nd e (s',o')<=b;cases o' with
  | none =>
   have:=Q.no rfl b (by show s'+1<=b;exact h2) p2;rw[this] at g2;cases g2
  | some b' =>
   obtain ⟨q1,q2,q3,q4⟩:=Q.yes b' rfl;show b'<=b;rcases Os b b' with z|z
   ·have:=q4 b (by show s'+1<=b;exact h2) z;rw[this] at g2;cases g2
   exact z
noncomputable def inn (e:Nat) (p q:Nat×Option Nat):Bool:=decide (p.1 < q.1)&&decide (q.1 < nd e p)
theorem J1 (F:FK->List W->HH->Option (W×HH)) (h:HH) {t:Tp}{e:Nat} (R:Run t.p t.asked t.most e) {p:Nat×Option Nat} (hp:p∈en t e) (q:Nat×Option Nat) :
 aP (evs F G (.cons v9 .nil)) (BT.ev F G (.var 0)) [UA (.k (.l (kd t e))),UA (.p (.int (p.1:Int)))] [.int (q.1:Int)] h=UA (if inn e p q=UC then UA (.int (q.1:Int)) else UB,h):=by
 have g:=lO R hp;unfold inn;generalize kd t e=KD at *;generalize nd e p=N at *
 by_cases c1:p.1 < q.1
 ·by_cases c3:q.1 < N
  simp[aP,aY,v9,g,c1,c3];simp[aP,aY,v9,g,c1,c3]
 simp[aP,aY,v9,c1]
theorem J2 (F:FK->List W->HH->Option (W×HH)) (w0 w1 w2:W) (x6 x7 x8 x10:Option W) (h:HH) {t:Tp}{e:Nat} (R:Run t.p t.asked t.most e) (he:e < 64) {p:Nat×Option Nat} (hp:p∈en t e) :
 BT.ev F G JR (s33 w0 w1 w2 e t [x6,x7,x8,UA (.p (.int (p.1:Int))),x10]) h=UA (.p (.lst (((en t e).filter (inn e p)).map λq=>D.int (q.1:Int))),h):=by
 have c:=rW (aP (evs F G (.cons v9 .nil)) (BT.ev F G (.var 0)) [UA (.k (.l (kd t e))),UA (.p (.int (p.1:Int)))]) (λq:Nat×Option Nat=>D.int (q.1:Int)) (λq=>if inn e p q=UC then UA (.int (q.1:Int)) else UB) h (en t e) (λq hq=>J1 F h R hp q);rw[ur] at c;have em:(en t e).map (λp:Nat×Option Nat=>D.int (p.1:Int))=(kd t e).map λq=>gW q.1:=by unfold kd;rw[OW];rfl
 rw[em] at c;have l1:=(fR t e).1;have l2:((en t e).filter (inn e p)).length<=(en t e).length:=List.length_filter_le _ _;refine gV (ws:=[.p (.lst ((kd t e).map λq=>gW q.1))]) (h1:=h) (fs:=[UA (.k (.l (kd t e))),UA (.p (.int (p.1:Int)))]) ?_ rfl (by simp[s33]) rfl c (by rw[Oh];lia);simp only[s33];generalize kd t e=KD at *;simp
theorem J3 (F:FK->List W->HH->Option (W×HH)) (w0 w1 w2:W) (x6 x7 x8:Option W) (h:HH) {t:Tp}{e:Nat} (R:Run t.p t.asked t.most e) {p:Nat×Option Nat} (hp:p∈en t e) :
 BT.ev F G JS (s33 w0 w1 w2 e t [x6,x7,x8,UA (.p (.int (p.1:Int))),UA (.p (.lst (((en t e).filter (inn e p)).map λq=>D.int (q.1:Int))))]) h=UA (.p (.lst []),h):=by
 have c:=rW (aP (evs F G (.cons (.cmp .gt (.idx (.var 1) (.var 0)) (.idx (.var 1) (.var 2))) .nil)) (BT.ev F G (.var 0)) [UA (.k (.l (kd t e))),UA (.p (.int (p.1:Int)))]) (λq:Nat×Option Nat=>D.int (q.1:Int)) (λ_=>UB) h ((en t e).filter (inn e p)) (λq hq=>by
  obtain ⟨h1,h2⟩:=List.mem_filter.mp hq;unfold inn at h2;rw[NY,decide_eq_true_eq,decide_eq_true_eq] at h2;have l:=J0 R hp h1 h2.1 h2.2;have g1:=lO R hp;have g2:=lO R h1;generalize kd t e=KD at *;have l2:¬ ((nd e p:Int) < (nd e q:Int)):=by lia
  generalize (nd e p:Int)=N at *;generalize (nd e q:Int)=M at *;have l3:M<=N:=by lia
  simp[aP,aY,g1,g2,l2,l3])
 rw[zZ] at c;exact gV (ws:=[.p (.lst (((en t e).filter (inn e p)).map λq=>D.int (q.1:Int)))]) (h1:=h) (fs:=[UA (.k (.l (kd t e))),UA (.p (.int (p.1:Int)))]) (by simp[s33]) rfl (by simp[s33]) rfl c (by simp)
theorem we (F:FK->List W->HH->Option (W×HH)) (w0 w1 w2:W) (x6 x7 x8 x10:Option W) (h:HH) {t:Tp}{e:Nat} (R:Run t.p t.asked t.most e) (he:e < 64) {p:Nat×Option Nat} (hp:p∈en t e) :
 ∃ y,evS F G lN (s33 w0 w1 w2 e t [x6,x7,x8,UA (.p (.int (p.1:Int))),x10]) h=UA (.nx (s33 w0 w1 w2 e t [x6,x7,x8,UA (.p (.int (p.1:Int))),y]) h):=by
 have b1:=J2 (G:=G) F w0 w1 w2 x6 x7 x8 x10 h R he hp;have b2:=J3 (G:=G) F w0 w1 w2 x6 x7 x8 h R hp;refine ⟨UA (.p (.lst (((en t e).filter (inn e p)).map λq=>D.int (q.1:Int)))),?_⟩;simp only[s33] at b1 b2 ⊢;generalize kd t e=KD at *;generalize (((en t e).filter (inn e p)).map λq=>D.int (q.1:Int))=L at *;generalize D.lst (itE (en t e))=EV at *;simp[-iT,tnx,lN,b1,b2]
theorem nh (F:FK->List W->HH->Option (W×HH)) (w0 w1 w2:W) (x6 x7 x8:Option W) (h:HH) {t:Tp}{e:Nat} (R:Run t.p t.asked t.most e) (he:e < 64):∀ (l:List (Nat×Option Nat)) (x9 x10:Option W),(∀ p∈l,p∈en t e) →
 ∃ y9 y10,aJ (evS F G lN) [(9,"_law_start")] (l.map λp=>D.int (p.1:Int)) (s33 w0 w1 w2 e t [x6,x7,x8,x9,x10]) h=UA (.nx (s33 w0 w1 w2 e t [x6,x7,x8,y9,y10]) h)
 | [],x9,x10,_=>⟨x9,x10,rfl⟩
 | p::l,x9,x10,hl=>by obtain ⟨y,b1⟩:=we (G:=G) F w0 w1 w2 x6 x7 x8 x10 h R he (hl p Oe);obtain ⟨y9,y10,b2⟩:=nh F w0 w1 w2 x6 x7 x8 h R he l (UA (.p (.int (p.1:Int)))) y λq hq=>hl q (Oa _ hq);refine ⟨y9,y10,?_⟩;have st:∀ (d:D) (l:List D),aJ (evS F G lN) [(9,"_law_start")] (d::l) (s33 w0 w1 w2 e t [x6,x7,x8,x9,x10]) h=d8 (evS F G lN (s33 w0 w1 w2 e t [x6,x7,x8,UA (.p d),x10]) h) (aJ (evS F G lN) [(9,"_law_start")] l):=λd l=>rfl;rw[Oi,st,b1,bD,b2]
theorem J4 (F:FK->List W->HH->Option (W×HH)) (w0 w1 w2:W) (rest:Sl) (h:HH) {t:Tp}{e:Nat} (he:e < 64):BT.ev F G JT (s33 w0 w1 w2 e t rest) h=UA (.p (.lst (af (ks t e))),h):=by
 have c:=zR (aP (evs F G .nil) (BT.ev F G (.var 0)) []) 2 (λp:Nat×Option Nat=>D.tup [.int (p.1:Int),cN p.2]) (λp=>[.int (p.1:Int),cN p.2]) (λp=>UA (.int (p.1:Int))) h (en t e) (λp hp=>⟨rfl,by simp[aP,aY]⟩);have cm:(en t e).filterMap (λp=>UA (D.int (p.1:Int)))=af (ks t e):=by unfold af ks;rw[OW,← Re];rfl
 rw[cm] at c;have l1:=z9 t e;exact gV (ws:=[.p (.lst (itE (en t e)))]) (h1:=h) (fs:=[]) (by simp[s33]) rfl rfl rfl c (by rw[rY];lia)
theorem J5 (A:r8 T G) (k:Nat) (w0:W) {n e gv:Nat}{t:Tp}{h:HH} (R:Run t.p t.asked t.most e) (he:e < 64) (o:Ok n e gv t h) :
 ∃ h',evS (runN T G (k+15)) G C2 (s33 w0 (.p (aQ t.p)) (.o n) e t [UB,UB,UB,UB,UB]) h=UA (.rt (.p (.bl UC)) h'):=by
 obtain ⟨y6,y7,y8,h1,b1,o1⟩:=qH A k w0 UB UB R he (e+1) 0 UB UB UB h (by lia) o;obtain ⟨y9,y10,b2⟩:=nh (G:=G) (runN T G (k+15)) w0 (.p (aQ t.p)) (.o n) y6 y7 y8 h1 R he (en t e) UB UB λp hp=>hp;have b3:=J4 (G:=G) (runN T G (k+15)) w0 (.p (aQ t.p)) (.o n) [y6,y7,y8,y9,y10] h1 (t:=t) he;have so:=D7 R he h1;have em:(en t e).map (λp:Nat×Option Nat=>D.int (p.1:Int))=(kd t e).map λq=>gW q.1:=by unfold kd;rw[OW];rfl
 rw[em] at b2;refine ⟨h1,?_⟩;have rg:dI .rng1 [.int ((e:Int)+1)]=UA (upto ((0:Nat):Int) (e+1)):=by
  rw[bI];have c:((-100000<=((e:Int)+1):Bool)&&(((e:Int)+1)<=100000:Bool))=UC:=by simp only[NY,decide_eq_true_eq];lia
  rw[if_pos c,show ((e:Int)+1).toNat=e+1 by lia];rfl
 have d1:dg .eq (.lst (af (ks t e))) (.lst (af (ks t e)))=UA UC:=by rw[iS,if_pos (f7 (by rw[jn];exact rX _)),jd]
 simp only[s33] at b1 b2 b3 ⊢;generalize upto ((0:Nat):Int) (e+1)=U at *;generalize kd t e=KD at *;generalize af (ks t e)=L at *;generalize D.lst (itE (en t e))=EV at *;generalize aQ t.p=pp at *;simp[-iT,tnx,-aJ,-iS,-bI,-nK,C2,rg,fu,b1,b2,b3,so,d1]
theorem C8 (k:Nat) (w0:W) (v1 mo z1 e:Int) (dpg das:D) (ev:List D) (kdd:Kd) (H0 h1 h3:HH) (hL:T "law"=UA gF)
 (rp:∀ h,runN T G (k+14) "_law_calling" [w0,.p (.int 600)] h=UA (.p dpg,h)) (ra:∀ h,runN T G (k+14) "_law_asked" [w0,.p (.int 450)] h=UA (.p das,h))
 (r1:∀ h,runN T G (k+14) "_law_drawn" [w0,.p (.int 440),.p (.int 13)] h=UA (.p (.int mo),h)) (r2:∀ h,runN T G (k+14) "_law_drawn" [w0,.p (.int 441),.p (.int 5)] h=UA (.p (.int v1),h)) (c1:1+v1=z1)
 (in1:runN T G (k+14) (.m "Tape" "__init__") [.o 0,.p dpg,.p das,.p (.int z1),.p (.int mo)] [.o "Tape" []]=UA (.p .non,H0))
 (fs0:List (Str×W)) (ob:oat H0 0=UA (Om "Tape",fs0)) (me:aU "end" fs0=UB)
 (b1:runN T G (k+14) (.m "Tape" "end") [.o 0] H0=UA (.p (.int e),h1))
 (b2:runN T G (k+14) "calls" [.o 0] h1=UA (.p (.lst ev),h1))
 (b3:BT.ev (runN T G (k+14)) G (.dk .of z4) [UA w0,UA (.p dpg),UA (.o 0),UA (.p (.int e)),UA (.p (.lst ev)),UB,UB,UB,UB,UB,UB] h1=UA (.k kdd,h1))
 (tm:evS (runN T G (k+14)) G C2 [UA w0,UA (.p dpg),UA (.o 0),UA (.p (.int e)),UA (.p (.lst ev)),UA (.k kdd),UB,UB,UB,UB,UB] h1=UA (.rt (.p (.bl UC)) h3))
 (f0:fin [] (.p (.bl UC)) h3=UA (.p (.bl UC),[])):runN T G (k+15) "law" [w0] []=UA (.p (.bl UC),[]):=by
 have t0:evS (runN T G (k+14)) G C3 [UA w0,UB,UB,UB,UB,UB,UB,UB,UB,UB,UB] []=UA (.rt (.p (.bl UC)) h3):=by rw[C3];generalize (.dk .of z4:E)=de at *;simp[-iT,tnx,-aJ,rp,ra,r1,r2,c1,in1,ob,me,b1,b2,b3,tm]
 rw[run_eq hL rfl];show j3 (evS (runN T G (k+14)) G C3 [UA w0,UB,UB,UB,UB,UB,UB,UB,UB,UB,UB] []) (fin [])=_;rw[t0];exact f0
theorem wg (A:r8 T G) (Lx:MP T) (ns:List Int) (hl:ns.length<=1000) (k:Nat):∃ h',runN T G (k+16) "law" [.p (.lst (aa ns))] []=UA (.p (.bl UC),h'):=by obtain ⟨pg,okp,rp⟩:=qE (G:=G) Lx.lw Lx.program Lx.calling ns hl 600;obtain ⟨asked,ha,hal,ra⟩:=vV (G:=G) Lx.lw ns hl 450;obtain ⟨mo,hmo,rmo⟩:=dG (G:=G) Lx.lw ns hl 440 13 (by decide);obtain ⟨v1,hv1,rv1⟩:=dG (G:=G) Lx.lw ns hl 441 5 (by decide);obtain ⟨e,R,es⟩:=Cz pg asked mo;have le:=R.le;have in1:runN T G (k+15) (.m "Tape" "__init__") [.o 0,.p (aQ pg),.p (.lst (aa asked)),.p (.int ((v1+1:Nat):Int)),.p (.int (mo:Int))] [.o "Tape" []]=UA (.p .non,[.o "Tape" ((Tp.new pg asked (v1+1) mo).fs 1),.l [St.zero.enc]]):=zL A.P (k+13) pg asked (v1+1) mo (by lia) [];have A0:TAt [.o "Tape" ((Tp.new pg asked (v1+1) mo).fs 1),.l [St.zero.enc]] 0 1 (Tp.new pg asked (v1+1) mo):=GK [] pg asked (v1+1) mo;have I0:TI (Tp.new pg asked (v1+1) mo) e (v1+1):=GJ okp ha R (by lia) (by lia) (by lia);obtain ⟨h1,r1,t1,b1,g1,I1,s1,f1⟩:=zQ A.P A.M (k+6) A0 I0;have b2:=vZ A.P A.R A.Wk.d A.C (k+3) g1.b I1;have o1:Ok 0 e (v1+1) t1 h1:=⟨r1,t1,g1.b,I1,.refl t1⟩;have b3:=JU (G:=G) (runN T G (k+15)) (.p (.lst (aa ns))) (.p (aQ t1.p)) (.o 0) [UB,UB,UB,UB,UB,UB] h1 I1.run (by lia);obtain ⟨h3,tm⟩:=J5 A k (.p (.lst (aa ns))) I1.run (by lia) o1;have tp1:t1.p=pg:=s1.p;rw[tp1] at b3 tm;exact ⟨[],C8 (k+1) (.p (.lst (aa ns))) (v1:Int) (mo:Int) ((v1+1:Nat):Int) (e:Int) (aQ pg) (.lst (aa asked)) (itE (en t1 e)) (.l (kd t1 e)) _ h1 h3 Lx.law (rp (k+7)) (ra (k+12)) (rmo (k+13)) (rv1 (k+13)) (by lia) in1 _ A0.ob (JJ _ _) b1 b2 b3 tm (by simpa using gw [] h3 (.bl UC))⟩
end
end BT
end
section
namespace BF
open PySem PySem.Spec PyProof.Rows L2 BS
variable {K:NV}
def qI (P:Ot) (w:OR) (K:NV) (mg:Str->Option N1) (x:Str) (z:BT.W):Prop:=∃ u v,mg x=UA u/\RelV v u/\∀ m H,RW P w K m H v z
theorem Ab (X:K.In h) (G:h.Ns Og mg) (a:OI K Og x=UA (UA (.int n t))):qI P w K mg x (.p (.int n)) :=
 ⟨_,.int n,Pr X G a,⟨t,rfl⟩,λ_ _=>.p (.int n)⟩
inductive cE:List Str->List N1->Prop where
 | nil:cE [] []
 | cons {x:Str}{xs:List Str}{t:Tok}{vs:List N1} (h:PyData.strOk x=UC) (r:cE xs vs):cE (x::xs) (.str x t::vs)
theorem cE.vals:∀ {xs:List Str}{vs:List N1},cE xs vs->ao (xs.map V.str) vs
 | _,_,.nil=>.nil| _,_,.cons _ r=>.cons ⟨_,rfl⟩ r.vals
theorem cE.rds {K:NV}:∀ {xs:List Str}{vs:List N1},cE xs vs->RDs K m H (xs.map V.str) (xs.map BT.D.str)
 | _,_,.nil=>.nil| _,_,.cons h r=>.cons (.str _ h) r.rds
theorem cE.len:∀ {xs:List Str}{vs:List N1},cE xs vs->vs.length=xs.length
 | _,_,.nil=>rfl
 | _,_,.cons _ r=>by simp[r.len]
theorem Ac (X:K.In h) (G:h.Ns Og mg) (a:OI K Og x=UA (UA (.ref f)))
 (l:K.lookup f=UA ⟨.type "tuple",UB,.seq its n,sl⟩) (hl:xs.length<=1000) (r:cE xs its.toList):qI P w K mg x (.p (.tup (xs.map BT.D.str))):=by
 refine ⟨_,.ref f,Pr X G a,rfl,λm H=>.p (.tup (.inr ⟨_,its,n,⟨l,rfl,rfl,?_,r.vals⟩,rfl⟩) r.rds)⟩;have:=r.len;have e:its.size=xs.length:=by rw[← this];simp
 rw[e];exact O0 (uU hl)
inductive eX (w:OR):List (Str×Int)->List Q7->Prop where
 | nil:eX w [] []
 | cons {x:Str}{n:Int}{kvs:List (Str×Int)}{t u:Tok}{es:List Q7} (r:eX w kvs es):eX w ((x,n)::kvs) (⟨PyData.keyHash w.params x,.str x t,.int n u⟩::es)
theorem eX.ex:∀ {kvs:List (Str×Int)}{es:List Q7},eX w kvs es->∃ vs:List (Key×N1),KV ((kvs.map λq=>(q.1,V.int q.2)).map λq=>((Sum.inr q.1:Key),q.2)) vs/\Pairs (au P w) es vs/\vs.map (·.1)=kvs.map (λq=>(Sum.inr q.1:Key))/\(∀ e∈es,∃ k,(au P w).is k e.key=UC/\e.hash=(au P w).hash k)
 | _,_,.nil=>⟨[],.nil,.nil,rfl,λe he=>nomatch he⟩
 | _,_,@eX.cons _ x n kvs t u es r=>by
  obtain ⟨vs,h1,h2,h3,h4⟩:=r.ex (P:=P);have is:(au P w).is (Sum.inr x) (.str x t)=UC:=by show RC x (.str x t)=UC;simp[RC]
  refine ⟨(Sum.inr x,.int n u)::vs,.cons ⟨rfl,u,rfl⟩ h1,.cons is rfl h2,by simp[h3],λe he=>?_⟩;rcases List.mem_cons.mp he with rfl|he
  exact ⟨Sum.inr x,is,rfl⟩;exact h4 e he
theorem wj {P:Ot}{w:OR}{h:Heap}{mg:Str->Option N1} (X:K.In h) (G:h.Ns Og mg) {x:Str}{f:Of}{es:Array Q7}{n:Nat}{kvs:List (Str×Int)} (a:OI K Og x=UA (UA (.ref f)))
 (l:K.lookup f=UA { cls:=.type "dict",data:=.dict es n }) (hf:(f==Py)=UD) (r:eX w kvs es.toList) (nd:(kvs.map (·.1)).Nodup):qI P w K mg x (.k (.t (kvs.map λq=>(q.1,BT.D.int q.2)))):=by
 obtain ⟨vs,h1,h2,h3,h4⟩:=r.ex (P:=P);refine ⟨_,.ref f,Pr X G a,rfl,λm H=>.k (es:=kvs.map λq=>(q.1,V.int q.2)) ⟨hf,vs,h1,λhh Kh=>⟨_,es,n,Kh _ _ l,⟨rfl,rfl,rfl⟩,rfl,λe he=>h4 e (by simpa using he),h2,?_⟩⟩ ?_⟩
 ·rw[h3];have e:(kvs.map λq=>(Sum.inr q.1:Key))=(kvs.map (·.1)).map Sum.inr:=by simp
  rw[e];exact List.pairwise_map.mpr (nd.imp λh z=>h (Sum.inr.inj z))
 ·clear r nd h1 h2 h3 h4 l
  induction kvs with
  | nil=>exact .nil| cons q kvs ih=>exact .cons (λ_ _=>.int _) ih
noncomputable def look {κ α:Type} [DecidableEq κ] (l:List (κ×α)) (x:κ):Option α:=match l with
 | []=>UB
 | (y,a)::r=>if y=x then UA a else look r x
theorem gG {κ α:Type} [DecidableEq κ] {Q:κ->α->Prop}:∀ {l:List (κ×α)} (_:∀ p∈l,Q p.1 p.2) {x:κ}{a:α},look l x=UA a->Q x a
 | [],_,_,_,e=>by cases e
 | (y,b)::r,h,x,a,e=>by
  rw[look] at e;split at e
  ·rename_i z;cases e;subst z;exact h (y,b) Oe
  exact gG (λp hp=>h p (Oa _ hp)) e
theorem i6 {K:NV}:∀ ns:List Int,RDs K m H (ns.map V.int) (BT.aa ns)
 | []=>.nil| n::r=>.cons (.int n) (i6 r)
theorem Ad (tb:TB K H) (hS:LL K H a (ns.map V.int)) (e:∃ h',g [.p (.lst (BT.aa ns))] []=UA (.p (.bl UC),h')):spF P w K g [.ref a] H (λv _=>v=.bl UC) λ_ _ _=>False:=by obtain ⟨h',e⟩:=e;refine ⟨[],_,[],_,h',⟨SQ,rfl,λi a xs z=>by simp at z,tb⟩,.cons (.p (.lst (hS.elim (λq=>.inl ⟨q,by simp⟩) .inr) (i6 ns))) .nil,e,λv H' m' _ _ r=>jD r⟩
end BF
end
section
namespace BG
open PySem PySem.Spec PySem.Calls PyProof.Rows L2 BS BF
variable {K:NV}{st:SB}
theorem C9 (H:∀ p∈K,h.get? p.1=UA p.2):K.In h:=by
 intro a o e;obtain ⟨p,hp,he⟩:∃ p∈K,p.1=a/\p.2=o:=by
  clear H
  induction K with
  | nil=>cases e
  | cons q r ih =>
   rw[OZ] at e;split at e
   ·rename_i c;cases e;exact ⟨q,Oe,(eq_of_beq c).symm,rfl⟩
   ·obtain ⟨p,hp,he⟩:=ih e;exact ⟨p,Oa _ hp,he⟩
 rw[← he.1,← he.2];exact H p hp
inductive J6 (K:NV) (x qual:Str) (st:SB) (f:Of):Prop where
 | mk (fd:Qh) (F:Fun K x qual st f fd) (kV doc pm:N1) (an:Option Of) (cdv ct:N1) (e:fd=Pf x qual (cj st) (aI st) (ak st) .none kV doc pm an cdv ct):J6 K x qual st f
theorem Ae (e:As K f=UA (sj x qual st)):J6 K x qual st f:=by
 unfold As at e;split at e
 ·rename_i oc od fd sl l;have e':=Ob e;unfold sj at e';obtain ⟨nm,ql,pa,bo,sc,gl,cl,de,kw,dc,pm,an,co,ct,bu⟩:=fd;simp only[FS.mk.injEq] at e';obtain ⟨rfl,rfl,rfl,rfl,rfl,rfl,rfl,rfl,rfl,hc⟩:=e';have F:=ER (K:=K) (x:=nm) (qual:=ql) (st:=st) (f:=f) (kV:=kw) (doc:=dc) (pm:=pm) (an:=an) (cdv:=co) (ct:=ct) l hc (by simp only[O3,l]);exact ⟨_,F,kw,dc,pm,an,co,ct,rfl⟩
 cases e
theorem nth {α:Type}{l:List α}{a:α} (i:Nat) (h:l[i]?=UA a):a∈l:=N9 h
noncomputable def lP (ns:List Str):Bool:=ns.all λn=>!(n.cps[0]?==UA 60)
theorem J7 (y:Str):(BT.bM y).cps[0]?=UA 60:=by show (((#[60]:Array Nat)++y.cps)++#[62])[0]?=UA 60;rw[← TF];simp
theorem Dc (h:BT.bM y=BT.bM z):y=z:=by
 have e:((#[60]:Array Nat)++y.cps)++#[62]=((#[60]:Array Nat)++z.cps)++#[62]:=congrArg Str.cps h;have e2:y.cps.toList=z.cps.toList:=by have:=congrArg Tz e;simpa using this
 cases y;cases z;exact congrArg Str.mk (Array.toList_inj.mp e2)
theorem lQ (h:lP ns=UC) (y:Str):ns.contains (BT.bM y)=UD:=by
 cases e:ns.contains (BT.bM y) with
 | false=>rfl
 | true =>
  have:=List.all_eq_true.mp h _ (List.contains_iff_mem.mp e);rw[J7] at this;cases this
theorem Af (h:lP fn.ns=UC):jY K q fd fn:=λy hy=>by rw[lQ h y] at hy;cases hy
section
variable {K:NV}
theorem oN (e:refOf o=UA f):o=UA (UA (.ref f)):=by unfold refOf at e;split at e;cases e;rfl;cases e
theorem Ag (X:K.In h) (G:h.Ns Og mg) (e:bw K (.fn x f st)=bx w (.fn x f st))
 (sc:cu fn.ns fn.ps (ak st)) (hb:∀ (kV doc pm:N1) (an:Option Of) (cdv ct:N1) (us:List N1),us.length=fn.ps.length->S9 (Pf x x (cj st) (aI st) (ak st) .none kV doc pm an cdv ct) ⟨us,[]⟩=pure (fn.ps.zip us))
 (ck:CSs (ak st) fn.ns fn.body (aI st)) (tg:∀ fd,OI K Og x=UA (UA (.ref f))->(∃ oc od sl,K.lookup f=UA ⟨oc,od,.func fd,sl⟩)->jY K x fd fn):Def K mg x fn:=by
 simp only[bw,bx,Ov.fn.injEq] at e;obtain ⟨fd,F,kV,doc,pm,an,cdv,ct,rfl⟩:=Ae e.2;refine ⟨f,_,st,Pr X G (oN e.1),F,sc,F.binds hb,ck,tg _ (oN e.1) ?_⟩;obtain ⟨oc,od,kV,doc,pm,an,cdv,ct,osl,e1,lk,_⟩:=F.ex;exact ⟨oc,od,osl,lk⟩
theorem Ah (e:bw K (.cls c C)=bx w (.cls c C)):jV K c C:=by simp only[bw,bx,Ov.b.injEq,Hv,NY,decide_eq_true_eq] at e;obtain ⟨⟨⟨⟨⟨h1,h2⟩,h3⟩,h4⟩,h5⟩,h6⟩:=e;refine ⟨h1,⟨h2,h3,h4,h5⟩,λf hf=>?_⟩;have hm:f∈attrs:=List.contains_iff_mem.mp hf;exact of_decide_eq_true (p:=OB K (.ref C) f=UA UB) (List.all_eq_true.mp h6 f hm)
theorem Dd (X:K.In h) (G:h.Ns Og mg) (ec:bw K (.cls c C)=bx w (.cls c C)) (em:bw K (.mk C)=bx w (.mk C)) (e:bw K (.me C m x qual f st)=bx w (.me C m x qual f st))
 (sc:cu fn.ns fn.ps (ak st)) (hb:∀ (kV doc pm:N1) (an:Option Of) (cdv ct:N1) (us:List N1),us.length=fn.ps.length->S9 (Pf x qual (cj st) (aI st) (ak st) .none kV doc pm an cdv ct) ⟨us,[]⟩=pure (fn.ps.zip us))
 (ck:CSs (ak st) fn.ns fn.body (aI st)) (tg:lP fn.ns=UC):zd K mg c m fn:=by
 have hC:=Ah ec;simp only[bw,bx,Ov.fn.injEq] at e;obtain ⟨e1,e2⟩:=e;obtain ⟨fd,F,kV,doc,pm,an,cdv,ct,rfl⟩:=Ae e2;have e1':meB K C m f=UC:=by
  cases q:meB K C m f with
  | true=>rfl| false=>rw[q] at e1;cases e1
 simp only[meB,NY,decide_eq_true_eq] at e1';simp only[bw,bx,Ov.b.injEq,mkB,NY] at em;refine ⟨C,f,_,x,qual,st,hC,Pr X G hC.cn,⟨e1'.1,e1'.2,F.kp⟩,λz=>?_,F,sc,F.binds hb,ck,Af tg⟩;subst z;exact ⟨em.1,e1'.1,e1'.2,em.2⟩
theorem none_of (X:K.In h) (G:h.Ns Og mg) (e:bw K (.no x)=bx w (.no x)):mg x=UB:=by simp only[bw,bx,Ov.b.injEq,decide_eq_true_eq] at e;exact PySem.W.mg_none_of X G e
theorem Ai (h:intOf v=UA x):∃ t,v=.int x t:=by cases v<;>simp[intOf] at h;exact ⟨_,by rw[h]⟩
theorem Aj (h:strOf v=UA x):∃ t,v=.str x t:=by cases v<;>simp[strOf] at h;exact ⟨_,by rw[h]⟩
theorem bQ (X:K.In h) (G:h.Ns Og mg) (e:bw K (.int x n)=bx w (.int x n)):qI P w K mg x (.p (.int n)):=by
 simp only[bw,bx,Ov.int.injEq] at e;split at e
 ·rename_i v hv;obtain ⟨t,rfl⟩:=Ai e;exact Ab X G hv
 cases e
theorem De (X:K.In h) (G:h.Ns Og mg) (e:bw K (.fv x f)=bx w (.fv x f)):qI P w K mg x (.c (.f x) []):=by simp only[bw,bx,Ov.b.injEq,NY,decide_eq_true_eq] at e;exact ⟨_,.ref f,Pr X G e.1,rfl,λm H=>.g e.1 e.2⟩
theorem uA:∀ {xs:List Str}{vs:List N1},xs.all PyData.strOk=UC->vs.map strOf=xs.map UA->cE xs vs
 | [],[],_,_=>.nil
 | [],_::_,_,h=>by simp at h
 | _::_,[],_,h=>by simp at h
 | x::xs,v::vs,k,h=>by simp only[Oi,Qv] at h;simp only[Te,NY] at k;obtain ⟨t,rfl⟩:=Aj h.1;exact .cons k.1 (uA k.2 h.2)
theorem uB:∀ {kvs:List (Str×Int)}{es:List Q7},es.map (λe=>(e.hash,strOf e.key,intOf e.val))=kvs.map (λq=>(PyData.keyHash w.params q.1,UA q.1,UA q.2))->eX w kvs es
 | [],[],_=>.nil
 | [],_::_,h=>by simp at h
 | _::_,[],h=>by simp at h
 | (x,n)::kvs,⟨ha,k,v⟩::es,h=>by simp only[Oi,Qv,SH] at h;obtain ⟨⟨rfl,h2,h3⟩,hr⟩:=h;obtain ⟨t,rfl⟩:=Aj h2;obtain ⟨u,rfl⟩:=Ai h3;exact .cons (uB hr)
theorem Ak (X:K.In h) (G:h.Ns Og mg) (e:bw K (.tup x f xs)=bx w (.tup x f xs)) (hl:xs.length<=1000) (hs:xs.all PyData.strOk=UC):qI P w K mg x (.p (.tup (xs.map BT.D.str))):=by simp only[bw,bx,Ov.seq.injEq] at e;obtain ⟨e1,e2,e3⟩:=e;obtain ⟨o,l,e4⟩:=Option.map_eq_some_iff.mp e2;rw[l] at e3;obtain ⟨cl,di,da,sl⟩:=o;simp only[shp,SH] at e4;obtain ⟨rfl,rfl,e5⟩:=e4;have:sl=#[]:=R6 e5;subst this;simp only[Pv,Dt] at e3;cases da<;>simp only[QE,reduceCtorEq] at e3;exact Ac X G (oN e1) l hl (uA hs e3)
theorem Al (X:K.In h) (G:h.Ns Og mg) {x:Str}{f:Of}{kvs:List (Str×Int)} (e:bw K (.dct x f kvs)=bx w (.dct x f kvs)) (hf:(f==Py)=UD) (nd:(kvs.map (·.1)).Nodup):qI P w K mg x (.k (.t (kvs.map λq=>(q.1,BT.D.int q.2)))):=by simp only[bw,bx,Ov.dct.injEq] at e;obtain ⟨e1,e2,e3⟩:=e;obtain ⟨o,l,e4⟩:=Option.map_eq_some_iff.mp e2;rw[l] at e3;obtain ⟨cl,di,da,sl⟩:=o;simp only[shp,SH] at e4;obtain ⟨rfl,rfl,e5⟩:=e4;have:sl=#[]:=R6 e5;subst this;simp only[Pv,Du] at e3;cases da<;>simp only[QE,reduceCtorEq] at e3;exact wj X G (oN e1) l hf (uB e3) nd
end
theorem wk {α:Type}{us:List α}{n:Nat} (h:us.length=n+1):∃ a r,us=a::r/\r.length=n:=by
 cases us with
 | nil=>simp at h| cons a r=>exact ⟨a,r,rfl,by simpa using h⟩
theorem len0 {α:Type}{us:List α} (h:us.length=0):us=[]:=Si h
theorem GU {α:Type}{us:List α} (h:us.length=1):∃ a0,us=[a0]:=by obtain ⟨a0,r,rfl,g⟩:=wk h;exact ⟨a0,by rw[len0 g]⟩
theorem Df {α:Type}{us:List α} (h:us.length=2):∃ a0 a1,us=[a0,a1]:=by obtain ⟨a0,r,rfl,g⟩:=wk h;obtain ⟨a1,rfl⟩:=GU g;exact ⟨a0,a1,rfl⟩
theorem Dg {α:Type}{us:List α} (h:us.length=3):∃ a0 a1 a2,us=[a0,a1,a2]:=by obtain ⟨a0,r,rfl,g⟩:=wk h;obtain ⟨a1,a2,rfl⟩:=Df g;exact ⟨a0,a1,a2,rfl⟩
theorem GV {α:Type}{us:List α} (h:us.length=4):∃ a0 a1 a2 a3,us=[a0,a1,a2,a3]:=by obtain ⟨a0,r,rfl,g⟩:=wk h;obtain ⟨a1,a2,a3,rfl⟩:=Dg g;exact ⟨a0,a1,a2,a3,rfl⟩
theorem J8 {α:Type}{us:List α} (h:us.length=5):∃ a0 a1 a2 a3 a4,us=[a0,a1,a2,a3,a4]:=by obtain ⟨a0,r,rfl,g⟩:=wk h;obtain ⟨a1,a2,a3,a4,rfl⟩:=GV g;exact ⟨a0,a1,a2,a3,a4,rfl⟩
theorem MR {α:Type}{us:List α} (h:us.length=6):∃ a0 a1 a2 a3 a4 a5,us=[a0,a1,a2,a3,a4,a5]:=by obtain ⟨a0,r,rfl,g⟩:=wk h;obtain ⟨a1,a2,a3,a4,a5,rfl⟩:=J8 g;exact ⟨a0,a1,a2,a3,a4,a5,rfl⟩
noncomputable abbrev BdT (x qual:Str) (st:SB) (fn:BT.Fn):Prop:=∀ (kV doc pm:N1) (an:Option Of) (cdv ct:N1) (us:List N1),us.length=fn.ps.length->S9 (Pf x qual (cj st) (aI st) (ak st) .none kV doc pm an cdv ct) ⟨us,[]⟩=pure (fn.ps.zip us)
structure CkB (x qual:Str) (s:SB) (f:BT.Fn):Prop where
 ck:CSs (ak s) f.ns f.body (aI s):=by repeat' (first|rfl|constructor|decide +kernel)
 sc:cu f.ns f.ps (ak s):=by constructor<;>first|rfl|decide +kernel
 bd:BdT x qual s f:=by intro _ _ _ _ _ _ us hl;first|(obtain ⟨a0,a1,rfl⟩:=Df hl;rfl)|(obtain ⟨a0,rfl⟩:=GU hl;rfl)|(obtain ⟨a0,a1,a2,rfl⟩:=Dg hl;rfl)|(obtain ⟨a0,a1,a2,a3,rfl⟩:=GV hl;rfl)|(obtain rfl:=len0 hl;rfl)|(obtain ⟨a0,a1,a2,a3,a4,rfl⟩:=J8 hl;rfl)|(obtain ⟨a0,a1,a2,a3,a4,a5,rfl⟩:=MR hl;rfl)
theorem dk {p:Prop} (h:p:=by decide +kernel):p:=h
theorem hn {w:OR}{qs:List Qy} (hq:∀ q∈qs,bw K q=bx w q) (i:Nat) {a:Qy} (h:qs[i]?=UA a):bw K a=bx w a:=hq _ (nth i h)
def nj (K:NV) (mg:Str->Option N1) (p:BT.FK×BT.Fn):Prop:=(∀ x,p.1=.f x->Def K mg x p.2)/\(∀ c m,p.1=.m c m->zd K mg c m p.2)/\∀ L,p.1=.l L->BT.lZ L=UA p.2/\∃ ns bt,p.2=⟨ns,ns,.ret bt⟩/\∀ y,ns.contains (BT.bM y)=UD
theorem dd (d:Def K mg x fn):nj K mg (.f x,fn):=⟨λy e=>by cases e;exact d,λc m e=>(by cases e),λL e=>by cases e⟩
theorem dm (d:zd K mg c m fn):nj K mg (.m c m,fn):=⟨λy e=>(by cases e),λc m e=>by cases e;exact d,λL e=>by cases e⟩
theorem dl (h:BT.lZ L=UA ⟨ns,ns,.ret bt⟩) (n:lP ns=UC):nj K mg (.l L,⟨ns,ns,.ret bt⟩):=⟨λy e=>(by cases e),λc m e=>(by cases e),λM e=>by cases e;exact ⟨h,ns,bt,rfl,lQ n⟩⟩
section
variable {K:NV}
theorem dd0 (X:K.In h) (G:h.Ns Og mg) (e:bw K (.fn x f st)=bx w (.fn x f st)) (c:CkB x x st fn) (tg:lP fn.ns=UC:=by decide +kernel):nj K mg (.f x,fn) :=
 dd (Ag X G e c.sc c.bd c.ck λ_ _ _=>Af tg)
theorem dm0 (X:K.In h) (G:h.Ns Og mg) (ec:bw K (.cls c C)=bx w (.cls c C)) (em:bw K (.mk C)=bx w (.mk C)) (e:bw K (.me C m x qual f st)=bx w (.me C m x qual f st)) (k:CkB x qual st fn) (tg:lP fn.ns=UC:=by decide +kernel):nj K mg (.m c m,fn) :=
 dm (Dd X G ec em e k.sc k.bd k.ck tg)
end
structure Dh (K:NV) (tl:List (Str×Of×Of)):Prop where
 all:∀ z∈BT.cQ,(∃ c P,(z,c,P)∈tl/\OS K z=UA (c,P))\/OS K z=UB
 hd:∀ q∈tl,QS K q.2.1 q.2.2=UC
theorem oO (e:bw K (.tab x c P)=bx w (.tab x c P)):OS K x=UA (c,P)/\QS K c P=UC:=by simp only[bw,bx,Ov.b.injEq,NY,decide_eq_true_eq] at e;exact e
theorem aS (e:bw K (.no x)=bx w (.no x)):OS K x=UB:=by simp only[bw,bx,Ov.b.injEq,decide_eq_true_eq] at e;unfold OS;rw[e]
theorem Am (h1:OI K Og x=UA (UA (.ref f))) (h2:K.lookup f=UA ⟨oc,od,.func fd,sl⟩) (h:OS K x=UA (c,P)):fd.code=.ref c:=by
 unfold OS at h;rw[h1] at h;simp only[h2] at h;split at h
 ·rename_i c' hc;split at h
  ·split at h;cases h;exact hc;cases h
  cases h
 cases h
theorem GW (e:bw K (.bm b)=bx w (.bm b)):∃ bm ob,OI K Og "__builtins__"=UA (UA (.ref bm))/\bm≠PL/\K.lookup bm=UA ob/\ob.cls=.type "module"/\ob.dict=UA PL/\ob.data=.plain:=by
 simp only[bw,bx,Ov.b.injEq,bmB,NY,decide_eq_true_eq] at e;obtain ⟨⟨e1,e2⟩,e3⟩:=e;split at e3
 ·rename_i d sl l;exact ⟨b,_,e1,e2,l,rfl,congrArg UA (eq_of_beq e3),rfl⟩
 cases e3
noncomputable def tabsOk (tl:List (Str×Of×Of)):Bool:=tl.all λp=>tl.all λq=>!(p.2.2==q.2.2)||p.1==q.1
theorem Di (hns:fn.ns=ns++[BT.bM x]) (h0:lP ns=UC) (mem:x∈BT.cQ) (hT:Dh K tl) (hk:tabsOk tl=UC) (hm:(x,c,P)∈tl) (et:bw K (.tab x c P)=bx w (.tab x c P)) (eb:bw K (.bm b)=bx w (.bm b)) :
 ∀ fd,OI K Og x=UA (UA (.ref f))->(∃ oc od sl,K.lookup f=UA ⟨oc,od,.func fd,sl⟩)->jY K x fd fn:=λfd h1 ⟨oc,od,sl,h2⟩ y hy=>by
 obtain ⟨t1,t2⟩:=oO et;have e:y=x:=by
  have m:=List.contains_iff_mem.mp hy;rw[hns] at m;rcases List.mem_append.mp m with m|m
  ·have:=lQ h0 y;rw[List.contains_iff_mem.mpr m] at this;cases this
  exact Dc (by simpa using m)
 subst e;refine ⟨rfl,mem,⟨c,P,t1,Am h1 h2 t1,t2,λz hz c2 e2=>?_⟩,GW eb⟩;rcases hT.all z hz with ⟨c3,P3,m3,e3⟩|e3
 ·rw[e2] at e3;cases e3;have:=List.all_eq_true.mp (List.all_eq_true.mp hk _ m3) _ hm;simp only[beq_self_eq_true,Bool.not_true,Bool.false_or] at this;exact eq_of_beq this
 rw[e2] at e3;cases e3
theorem sf (e:K.lookup b=UA o):b∈K.map (·.1):=List.mem_map.mpr ⟨(b,o),PySem.W.mem_of_lookupK e,rfl⟩
theorem wo 
 (KX:K.In s₁.heap) (hns:s₁.heap.Ns Og mg) (hb:s₁.heap.Ns PL mb) (hbb:∀ x:Str,x≠"__name__"->mb x=QX x) (hlim:s₁.heap.NoLimit) (hg:s₁.gens=#[])
 (ha:s₁.heap.get? a=UA { cls:=.type "list",data:=.seq vs.toArray }) (hi:Tv vs ns) (hl:ns.length<=sizeLine) (hr:bO k Us)
 (hT:Dh K tl) (hTs:∀ p∈tl,s₁.heap.get? p.2.2=UA (PY #[])) (hTk:∀ p∈tl,K.lookup p.2.2=UB)
 (F:∀ base:Heap,fD P w K mg base CX0 k fa fd [x] sp) (hbind:∀ (s:N4) (u:N1),K.In s.heap->BindsTo s fd ⟨[u],[]⟩ [(x,u)])
 (hsp:∀ H:Hp,TB K H->LL K H a (ns.map V.int)->sp [.ref a] H (λv _=>v=.bl UC) λ_ _ _=>False) :
 codeAny (Ow P w) Us (.call (.ref fa) ⟨[.ref a],[]⟩) (λr s'=>r=.ok (.ret (.bool UC))/\OldK s₁.heap s'.heap/\s'.os=s₁.os/\SM s'.gens) s₁:=by
 have rv:=jv hi;have lenV:=hi.length;have tne:∀ p∈tl,p.2.2≠a:=λp hp z=>by have:=hTs p hp;rw[z,ha] at this;cases this
 let so:HO:=.frz { cls:=.type "list",data:=.seq vs.toArray } (.lst (ns.map V.int))
 let H:Hp:=λb=>if ∃ p∈tl,p.2.2=b then UA (.tbl #[]) else if b=a/\K.lookup a=UB then UA so else UB
 have Ht:∀ p∈tl,H p.2.2=UA (.tbl #[]):=λp hp=>if_pos ⟨p,hp,rfl⟩;have Hcase:∀ b u,H b=UA u->(∃ p∈tl,p.2.2=b/\u=.tbl #[])\/(b=a/\K.lookup a=UB/\u=so):=λb u e=>by
  by_cases c1:∃ p∈tl,p.2.2=b
  ·have e':UA (HO.tbl #[])=UA u:=(if_pos c1).symm.trans e;obtain ⟨p,hp,h2⟩:=c1;exact .inl ⟨p,hp,h2,(Ob e').symm⟩
  ·have e':(if b=a/\K.lookup a=UB then UA so else UB)=UA u:=(if_neg c1).symm.trans e
   by_cases c2:b=a/\K.lookup a=UB
   ·rw[if_pos c2] at e';exact .inr ⟨c2.1,c2.2,(Ob e').symm⟩
   rw[if_neg c2] at e';cases e'
 have noA:∀ {b:Of}{o:Obj}{es:Array Q7}{ep:Nat},s₁.heap.get? b=UA o->o.data=.dict es ep->H b=UB:=λ{b o es ep} e d=>by
  cases q:H b with
  | none=>rfl
  | some u =>
   rcases Hcase b u q with ⟨p,hp,h2,_⟩|⟨h2,_⟩
   ·have z:=hTs p hp;rw[h2,e] at z;cases z;cases d
   ·rw[h2,ha] at e;cases e;have d':Data.seq vs.toArray _=Data.dict es ep:=d;cases d'
 have nsK:∀ {b:Of}{m:Str->Option N1},s₁.heap.Ns b m->(oS s₁.heap H).Ns b m:=λ{b m} ⟨o,es,ep,e,d,r⟩=>⟨o,es,ep,oU e (noA e d),d,r⟩;have hKb:K.In (oS s₁.heap H):=λb o e=>oU (KX b o e) (by
  cases q:H b with
  | none=>rfl
  | some u =>
   rcases Hcase b u q with ⟨p,hp,h2,_⟩|⟨h2,h3,_⟩
   rw[← h2,hTk p hp] at e;cases e
   ·rw[h2,h3] at e;cases e)
 have hM:Mod K mg (oS s₁.heap H):=⟨hKb,nsK hns,⟨mb,nsK hb,hbb⟩,let ⟨mc,h1,h2⟩:=hlim;⟨mc,nsK h1,h2⟩⟩;have hok:HOk P w H s₁.heap:=λb u e=>by
  rcases Hcase b u e with ⟨p,hp,h2,rfl⟩|⟨h2,_,rfl⟩
  subst h2;exact hTs p hp;subst h2;exact ⟨ha,by rw[Oh];exact hl,vs,_,rv,ha⟩
 have e0:kI P w K mg (oS s₁.heap H) Us [] s₁ H:=⟨rfl,hM,λb o e=>Au e,Nat.le_of_eq (uE _ _),trivial,λb hb=>absurd (show b∈([]:List Of) from hb) (by simp),hok,.of_eq hg⟩;have tb:TB K H:=λz hz c Pt e=>by
  rcases hT.all z hz with ⟨c3,P3,m3,e3⟩|e3
  ·rw[e] at e3;cases e3;exact ⟨#[],Ht _ m3,trivial,λpos v q=>by cases q⟩
  rw[e] at e3;cases e3
 have hS:LL K H a (ns.map V.int):=by
  cases hk:K.lookup a with
  | some o =>
   have e:=KX a o hk;rw[ha] at e;cases e;exact .inr ⟨vs,_,hk,by rw[lenV];exact hl,rv⟩
  | none =>
   refine .inl (.inr ⟨{ cls:=.type "list",data:=.seq vs.toArray },?_⟩);have e1:H a=(if a=a/\K.lookup a=UB then UA so else UB):=if_neg λ⟨p,hp,z⟩=>tne p hp z;rw[e1,if_pos ⟨rfl,hk⟩]
 refine codeAny_mono ((F _).run Us [] s₁ H ⟨[.ref a],[]⟩ [.ref a] [.ref a] _ _ hr e0 (hbind s₁ (.ref a) KX) (.cons rfl .nil) (hsp H tb hS)) λr s' h=>?_;cases r with
 | error e=>exact ON h
 | ok fl =>
  cases fl with
  | ret u =>
   obtain ⟨v,H',os,bare,un,hok',r',q⟩:=h;have q':v=.bl UC:=q;subst q';obtain rfl:u=Ut UC:=r';have kp:∀ b o,s₁.heap.get? b=UA o->(s'.heap.get? b=UA o)\/∃ p∈tl,p.2.2=b/\∃ more,s'.heap.get? b=UA (PY (#[]++more)):=λb o e=>by
    cases q:H b with
    | none=>exact .inl (un.keep b o e q (by intro z;exact absurd (show b∈([]:List Of) from z) (by simp)) (by simp))
    | some u =>
     rcases Hcase b u q with ⟨p,hp,h2,rfl⟩|⟨h2,h3,rfl⟩
     ·obtain ⟨more,z⟩:=un.tbls b _ q;exact .inr ⟨p,hp,h2,more,hok' b _ z⟩
     ·have z2:=un.frzs b _ _ q;obtain ⟨e1,_⟩:=hok b _ q;obtain ⟨e2,_⟩:=hok' b _ z2;rw[e] at e1;cases e1;exact .inl e2
   refine ⟨rfl,⟨λb o e=>?_,λb o e=>?_⟩,os,bare⟩
   ·rcases kp b o e with z|⟨p,hp,rfl,more,z⟩
    exact .inl z
    ·have e2:=hTs p hp;rw[e] at e2;cases e2;have tA:=(Tu KX (hT.hd p hp)).tab e;exact .inr (.inl ⟨tA.isCodeTable,rfl,#[],more,rfl,z⟩)
   ·rcases kp b o e with z|⟨p,hp,rfl,more,z⟩
    exact ⟨o,z⟩;exact ⟨_,z⟩
  | _=>exact ON h
theorem An {l:PySem.W.OpenLaw}{n k:Nat}{q:Ot}{loose:List Str}{XP:(Str->Option N1)->Heap->Prop}{d:DefRec}{as:List Of}{qs:List Qy}{ts:List Of}{tl:List (Str×Of×Of)}{T:BT.FK->Option BT.Fn}{G:Str->Option BT.W}{fn:BT.Fn}{x:Str}
 (hn:l.most=UA n) (hn2:n<=sizeLine) (hdf:d.params.defaults=[]) (hr:bO (2*k) Us) (hps:fn.ps=[x]) (hT:T (.f d.name)=UA fn) (hts:ts=tl.map (·.2.2)) (hto:tl.all (λp=>!as.contains p.2.2)=UC)
 (FT:∀ (w:OR) (K:NV),(∀ q∈qs,bw K q=bx w q)->Dh K tl)
 (F:∀ (P:Ot) (w:OR) (mg:Str->Option N1) (K:NV) (h:Heap),K.In h->h.Ns Og mg->(∀ q∈qs,bw K q=bx w q)->Txt P w K mg T G)
 (hrun:∀ ns:List Int,ns.length<=n->∃ h',BT.runN T G k (.f d.name) [.p (.lst (BT.aa ns))] []=UA (.p (.bl UC),h')) :
 PySem.W.WalkO q loose XP (sees as qs ts).says l.row.toRowW d [] (λf vs=>Uu f vs):=by
 refine Att.pA hn hdf λw s₀ s₁ mg mb fa o pm cd doc a vs ns Gr Y ho hd hcd hmg hobj hints hlen hg=>?_;obtain ⟨K,k0,k1,k2,k3⟩:=Y;have KX:=C9 k1;have X:=F l.prog w mg K s₁.heap KX Gr.T.g k2;obtain ⟨f,fd,st,h1,h2,h3,h4,h5,h6⟩:=(X.defs _ fn hT).ex;rw[hmg] at h1;cases h1;refine wo (sp:=spF l.prog w K (BT.runN T G k (.f d.name))) (x:=x) (k:=2*k) (fd:=fd) (tl:=tl) KX Gr.T.g Gr.T.b Gr.T.builtins Gr.T.nolimit hg hobj hints (OO hlen hn2) hr (FT w K k2) (λp hp=>k3 _ (by rw[hts];exact Ue hp)) (λp hp=>?_) (λbase=>?_) (λs u hK=>?_) (λH tb hS=>Ad tb hS (hrun ns hlen))
 ·cases e:K.lookup p.2.2 with
  | none=>rfl
  | some o =>
   have m:=sf e;rw[k0] at m;have:=List.all_eq_true.mp hto p hp;rw[List.contains_iff_mem.mpr m] at this;cases this
 ·have:=Gs (base:=base) X k (.f d.name) fn hT _ fd d.name d.name st h2 h3 h5 h6;rw[hps] at this;exact this
 ·have:=h4 s [u] hK (by rw[hps];rfl);rw[hps] at this;exact this
end BG
end
section
namespace BL
open PySem PySem.Spec PyProof.Rows L2 BS BF BG
theorem MS:CkB "is_whole" "is_whole" (top 10) BT.eU:={}
theorem MT:CkB "is_name" "is_name" (top 11) BT.fJ:={}
theorem MU:CkB "inner_sums" "inner_sums" (top 13) BT.bP:={}
theorem MV:CkB "begun" "begun" (top 22) BT.jc:={}
theorem MW:CkB "worth_in" "worth_in" (top 24) BT.eH:={}
theorem MX:CkB "laid_out" "laid_out" (top 25) BT.eB:={}
theorem MY:CkB "of_two" "of_two" (top 26) BT.gR:={}
theorem MZ:CkB "worth_of" "worth_of" (top 27) BT.bF:={}
theorem M0:CkB "reckoned" "reckoned" (top 28) BT.eN:={}
theorem M1:CkB "cell_by" "cell_by" (top 29) BT.fK:={}
theorem M3:CkB "is_over" "is_over" (top 30) BT.dO:={}
theorem M4:CkB "place_behind" "place_behind" (top 31) BT.bS:={}
theorem M5:CkB "with_worth" "with_worth" (top 32) BT.cT:={}
theorem M6:CkB "with_name" "with_name" (top 33) BT.dh:={}
theorem M7:CkB "brought" "brought" (top 34) BT.dP:={}
theorem M8:CkB "stepped" "stepped" (top 35) BT.fL:={}
theorem M9:CkB "open_in" "open_in" (top 37) BT.fQ:={}
theorem Na:CkB "depth" "depth" (top 38) BT.jg:={}
theorem GX:CkB "last_within" "last_within" (top 39) BT.aN:={}
theorem Nb:CkB "back_out" "back_out" (top 40) BT.bG:={}
theorem Nc:CkB "calls" "calls" (top 41) BT.jj:={}
theorem Nd:CkB "open_calls" "open_calls" (top 42) BT.cW:={}
theorem Nf:CkB "_law_cell" "_law_cell" (top 47) BT.c5:={}
theorem Ng:CkB "_law_drawn" "_law_drawn" (top 48) BT.dj:={}
theorem Nh:CkB "_law_sum" "_law_sum" (top 49) BT.bX:={}
theorem Ni:CkB "_law_row" "_law_row" (top 50) BT.fM:={}
theorem Nj:CkB "_law_program" "_law_program" (top 51) BT.aZ:={}
theorem Nk:CkB "_law_asked" "_law_asked" (top 52) BT.dw:={}
theorem Nl:CkB "_law_calling" "_law_calling" (top 53) BT.bH:={}
theorem Nn:CkB "law" "law" (top 54) BT.gF:={}
theorem GY:CkB "__init__" "Tape.__init__" (c9 45 0) BT.dB:={}
theorem GZ:CkB "at" "Tape.at" (c9 45 1) BT.fN:={}
theorem G0:CkB "end" "Tape.end" (c9 45 2) BT.eV:={}
theorem Dj:CkB "behind" "Tape.behind" (c9 45 10) BT.cC:={}
theorem Dl:CkB "is_last" "Tape.is_last" (c9 45 11) BT.bA:={}
theorem Dm:CkB "keep" "Tape.keep" (c9 45 12) BT.cD:={}
theorem Dn:CkB "reach" "Tape.reach" (c9 45 13) BT.cU:={}
theorem Do:CkB "has" "Tape.has" (c9 45 14) BT.eW:={}
theorem Dp:CkB "check" "Tape.check" (c9 45 15) BT.cV:={}
theorem Dq:CkB "readings" "Tape.readings" (c9 45 16) BT.bJ:={}
theorem Dr:CkB "last_to" "Tape.last_to" (c9 45 19) BT.bT:={}
theorem Ds:CkB "last_between" "Tape.last_between" (c9 45 20) BT.aR:={}
noncomputable def tab:List (BT.FK×BT.Fn):=[(.f "is_whole",BT.eU),(.f "is_name",BT.fJ),(.f "inner_sums",BT.bP),(.f "begun",BT.jc),(.f "worth_in",BT.eH),(.f "laid_out",BT.eB),(.f "of_two",BT.gR),(.f "worth_of",BT.bF),(.f "reckoned",BT.eN),(.f "cell_by",BT.fK),(.f "is_over",BT.dO),(.f "place_behind",BT.bS),(.f "with_worth",BT.cT),(.f "with_name",BT.dh),(.f "brought",BT.dP),(.f "stepped",BT.fL),(.f "open_in",BT.fQ),(.f "depth",BT.jg),(.f "last_within",BT.aN),(.f "back_out",BT.bG),(.f "calls",BT.jj),(.f "open_calls",BT.cW),(.f "_law_cell",BT.c5),(.f "_law_drawn",BT.dj),(.f "_law_sum",BT.bX),(.f "_law_row",BT.fM),(.f "_law_program",BT.aZ),(.f "_law_asked",BT.dw),(.f "_law_calling",BT.bH),(.f "law",BT.gF),(.m "Tape" "__init__",BT.dB),(.m "Tape" "at",BT.fN),(.m "Tape" "end",BT.eV),(.m "Tape" "behind",BT.cC),(.m "Tape" "is_last",BT.bA),(.m "Tape" "keep",BT.cD),(.m "Tape" "reach",BT.cU),(.m "Tape" "has",BT.eW),(.m "Tape" "check",BT.cV),(.m "Tape" "readings",BT.bJ),(.m "Tape" "last_to",BT.bT),(.m "Tape" "last_between",BT.aR),(.l 10,BT.sP)]
noncomputable def glo:List (Str×BT.W):=[("CELL_COUNT",.p (.int 4)),("WORTH_COUNT",.p (.int 10007)),("ROW",.p (.int 0)),("NAMES",.p (.int 1)),("CELLS",.p (.int 2)),("CALLS",.p (.int 3)),("ASKED",.p (.int 4)),("SAID",.p (.int 5)),("MOST_CALLS",.p (.int 6)),("MOST_MARKS",.p (.int 8)),("LETTERS",.p (.tup ((["a","b","c","d","e","f"]:List Str).map BT.D.str))),("open_in",.c (.f "open_in") []),("INNER_COUNTS",.k (.t (([("num",0),("name",0),("cell",1),("add",2),("sub",2),("mul",2),("less",2)]:List (Str×Int)).map λq=>(q.1,BT.D.int q.2))))]
noncomputable abbrev T:BT.FK->Option BT.Fn:=look tab
noncomputable abbrev G:Str->Option BT.W:=look glo
theorem prg:BT.Prg T G:=⟨rfl,rfl,rfl,rfl,rfl,rfl,rfl,rfl,rfl,rfl,rfl,rfl,rfl,rfl,rfl,rfl,rfl,rfl,rfl,rfl,rfl,rfl,rfl,rfl,rfl,rfl⟩
theorem tpp:BT.TpP T G:=⟨prg,rfl,rfl,rfl,rfl,rfl,rfl,rfl,rfl,rfl,rfl⟩
theorem run (ns:List Int) (h:ns.length<=1000):∃ h',BT.runN T G 40 "law" [.p (.lst (BT.aa ns))] []=UA (.p (.bl UC),h'):=BT.wg ⟨tpp,⟨rfl⟩,⟨rfl,rfl⟩,⟨rfl⟩,⟨⟨rfl,rfl⟩,rfl,rfl⟩,rfl,⟨rfl,rfl,rfl⟩⟩ ⟨⟨rfl,rfl,rfl,rfl,rfl⟩,rfl,rfl,rfl⟩ ns h 24
theorem J9 (w:OR) (K:NV) (hq:∀ q∈qys,bw K q=bx w q):Dh K tl:=by
 refine ⟨λz hz=>?_,λp hp=>?_⟩
 ·simp only[BT.cQ,PV,Pj,or_false] at hz;rcases hz with rfl|rfl|rfl|rfl|rfl|rfl|rfl|rfl|rfl|rfl|rfl|rfl|rfl|rfl|rfl
  exact .inr (aS (w:=w) (hn hq 63 rfl));exact .inr (aS (w:=w) (hn hq 64 rfl));exact .inr (aS (w:=w) (hn hq 65 rfl));exact .inr (aS (w:=w) (hn hq 66 rfl));exact .inr (aS (w:=w) (hn hq 67 rfl));exact .inr (aS (w:=w) (hn hq 68 rfl));exact .inr (aS (w:=w) (hn hq 69 rfl));exact .inr (aS (w:=w) (hn hq 70 rfl));exact .inr (aS (w:=w) (hn hq 71 rfl));exact .inr (aS (w:=w) (hn hq 72 rfl));exact .inl ⟨206,202,nth 0 rfl,(oO (w:=w) (hn hq 73 rfl)).1⟩;exact .inr (aS (w:=w) (hn hq 74 rfl));exact .inr (aS (w:=w) (hn hq 75 rfl));exact .inr (aS (w:=w) (hn hq 76 rfl));exact .inr (aS (w:=w) (hn hq 77 rfl))
 ·simp only[tl,PV,Pj,or_false] at hp;rcases hp with rfl
  exact (oO (w:=w) (hn hq 73 rfl)).2
theorem txt (P:Ot) (w:OR) (mg:Str->Option N1) (K:NV) (h:Heap) (X:K.In h) (Gh:h.Ns Og mg) (hq:∀ q∈qys,bw K q=bx w q):Txt P w K mg T G:=by
 have tbf:=J9 w K hq;have all:∀ p∈tab,nj K mg p:=by
  intro p hp;simp only[tab,PV,Pj,or_false] at hp;rcases hp with rfl|rfl|rfl|rfl|rfl|rfl|rfl|rfl|rfl|rfl|rfl|rfl|rfl|rfl|rfl|rfl|rfl|rfl|rfl|rfl|rfl|rfl|rfl|rfl|rfl|rfl|rfl|rfl|rfl|rfl|rfl|rfl|rfl|rfl|rfl|rfl|rfl|rfl|rfl|rfl|rfl|rfl|rfl
  exact dd0 X Gh (hn hq 0 rfl) MS;exact dd0 X Gh (hn hq 1 rfl) MT;exact dd0 X Gh (hn hq 2 rfl) MU;exact dd0 X Gh (hn hq 3 rfl) MV;exact dd0 X Gh (hn hq 4 rfl) MW;exact dd0 X Gh (hn hq 5 rfl) MX;exact dd0 X Gh (hn hq 6 rfl) MY;exact dd0 X Gh (hn hq 7 rfl) MZ;exact dd0 X Gh (hn hq 8 rfl) M0;exact dd0 X Gh (hn hq 9 rfl) M1;exact dd0 X Gh (hn hq 10 rfl) M3;exact dd0 X Gh (hn hq 11 rfl) M4;exact dd0 X Gh (hn hq 12 rfl) M5;exact dd0 X Gh (hn hq 13 rfl) M6;exact dd0 X Gh (hn hq 14 rfl) M7;exact dd0 X Gh (hn hq 15 rfl) M8;exact dd0 X Gh (hn hq 16 rfl) M9;exact dd0 X Gh (hn hq 17 rfl) Na;exact dd (Ag X Gh (hn hq 18 rfl) GX.sc GX.bd GX.ck (Di (f:=207) (ns:=BT.aN.ns.dropLast) dk dk dk tbf dk (nth 0 rfl) (hn hq 73 rfl) (hn hq 78 rfl)));exact dd0 X Gh (hn hq 19 rfl) Nb;exact dd0 X Gh (hn hq 20 rfl) Nc;exact dd0 X Gh (hn hq 21 rfl) Nd;exact dd0 X Gh (hn hq 22 rfl) Nf;exact dd0 X Gh (hn hq 23 rfl) Ng;exact dd0 X Gh (hn hq 24 rfl) Nh;exact dd0 X Gh (hn hq 25 rfl) Ni;exact dd0 X Gh (hn hq 26 rfl) Nj;exact dd0 X Gh (hn hq 27 rfl) Nk;exact dd0 X Gh (hn hq 28 rfl) Nl;exact dd0 X Gh (hn hq 29 rfl) Nn;exact dm0 X Gh (hn hq 80 rfl) (hn hq 81 rfl) (hn hq 82 rfl) GY;exact dm0 X Gh (hn hq 80 rfl) (hn hq 81 rfl) (hn hq 83 rfl) GZ;exact dm0 X Gh (hn hq 80 rfl) (hn hq 81 rfl) (hn hq 84 rfl) G0;exact dm0 X Gh (hn hq 80 rfl) (hn hq 81 rfl) (hn hq 85 rfl) Dj;exact dm0 X Gh (hn hq 80 rfl) (hn hq 81 rfl) (hn hq 86 rfl) Dl;exact dm0 X Gh (hn hq 80 rfl) (hn hq 81 rfl) (hn hq 87 rfl) Dm;exact dm0 X Gh (hn hq 80 rfl) (hn hq 81 rfl) (hn hq 88 rfl) Dn;exact dm0 X Gh (hn hq 80 rfl) (hn hq 81 rfl) (hn hq 89 rfl) Do;exact dm0 X Gh (hn hq 80 rfl) (hn hq 81 rfl) (hn hq 90 rfl) Dp;exact dm0 X Gh (hn hq 80 rfl) (hn hq 81 rfl) (hn hq 91 rfl) Dq;exact dm0 X Gh (hn hq 80 rfl) (hn hq 81 rfl) (hn hq 92 rfl) Dr;exact dm0 X Gh (hn hq 80 rfl) (hn hq 81 rfl) (hn hq 93 rfl) Ds;exact dl rfl (by decide +kernel)
 refine ⟨λx fn e=>?_,λc m fn e=>?_,λL fn e=>?_,λx z e=>?_,λx hx=>?_⟩;exact gG (Q:=λk fn=>∀ x,k=.f x->Def K mg x fn) (l:=tab) (λp hp=>(all p hp).1) e x rfl;exact gG (Q:=λk fn=>∀ c m,k=.m c m->zd K mg c m fn) (l:=tab) (λp hp=>(all p hp).2.1) e c m rfl;exact gG (Q:=λk fn=>∀ L,k=.l L->BT.lZ L=UA fn/\∃ ns bt,fn=⟨ns,ns,.ret bt⟩/\∀ y,ns.contains (BT.bM y)=UD) (l:=tab) (λp hp=>(all p hp).2.2) e L rfl
 ·refine gG (Q:=λx z=>qI P w K mg x z) (l:=glo) (λp hp=>?_) e;simp only[glo,PV,Pj,or_false] at hp;rcases hp with rfl|rfl|rfl|rfl|rfl|rfl|rfl|rfl|rfl|rfl|rfl|rfl|rfl
  exact bQ X Gh (hn hq 30 rfl);exact bQ X Gh (hn hq 31 rfl);exact bQ X Gh (hn hq 32 rfl);exact bQ X Gh (hn hq 33 rfl);exact bQ X Gh (hn hq 34 rfl);exact bQ X Gh (hn hq 35 rfl);exact bQ X Gh (hn hq 36 rfl);exact bQ X Gh (hn hq 37 rfl);exact bQ X Gh (hn hq 38 rfl);exact bQ X Gh (hn hq 39 rfl);exact Ak X Gh (hn hq 40 rfl) (by decide) (by decide +kernel);exact De X Gh (hn hq 79 rfl);exact Al X Gh (hn hq 41 rfl) (by decide) (by decide +kernel)
 ·simp only[FH,PV,Pj,or_false] at hx;rcases hx with rfl|rfl|rfl|rfl|rfl|rfl|rfl|rfl|rfl|rfl|rfl|rfl|rfl|rfl|rfl|rfl|rfl|rfl|rfl|rfl|rfl
  exact none_of X Gh (hn hq 42 rfl);exact none_of X Gh (hn hq 43 rfl);exact none_of X Gh (hn hq 44 rfl);exact none_of X Gh (hn hq 45 rfl);exact none_of X Gh (hn hq 46 rfl);exact none_of X Gh (hn hq 47 rfl);exact none_of X Gh (hn hq 48 rfl);exact none_of X Gh (hn hq 49 rfl);exact none_of X Gh (hn hq 50 rfl);exact none_of X Gh (hn hq 51 rfl);exact none_of X Gh (hn hq 52 rfl);exact none_of X Gh (hn hq 53 rfl);exact none_of X Gh (hn hq 54 rfl);exact none_of X Gh (hn hq 55 rfl);exact none_of X Gh (hn hq 56 rfl);exact none_of X Gh (hn hq 57 rfl);exact none_of X Gh (hn hq 58 rfl);exact none_of X Gh (hn hq 59 rfl);exact none_of X Gh (hn hq 60 rfl);exact none_of X Gh (hn hq 61 rfl);exact none_of X Gh (hn hq 62 rfl)
noncomputable abbrev lw:DefRec:=⟨"law",cj (top 54),aI (top 54),ak (top 54),Lf (top 54)⟩
theorem df:PySem.W.defOf qg "law"=UA (lw,[]):=by kernel_rfl
theorem th:pg.theDef "law"=UA (lw.params,lw.body,lw.scope):=by kernel_rfl
theorem walk:PySem.W.WalkO qg loo (PySem.W.XL qg []) (sees adr qys tas).says PySem.Challenge.rw_backtape_k33_whole_open.row.toRowW lw [] (λf vs=>Uu f vs) :=
 An (l:=PySem.Challenge.rw_backtape_k33_whole_open) (n:=63) (k:=40) (x:="_law_script") (d:=lw) (T:=T) (G:=G) (ts:=tas) (fn:=BT.gF) rfl (by decide) rfl ⟨rfl,by decide,by decide⟩ rfl rfl (tl:=tl) rfl (by decide +kernel) J9 txt λns hl=>run ns (by lia)
end BL
open PySem PySem.W PyProof.Rows
set_option maxRecDepth 100000 in
set_option maxHeartbeats 0 in
theorem PySem.Challenge.cw_backtape_k33_whole_open_holds : PySem.Challenge.rw_backtape_k33_whole_open.Holds := by
 w_on;refine PySem.W.holds_law (by decide +kernel) λsaid=>?_
 refine PySem.W.holds_open (q:=BL.qg) (loose:=BL.loo) (XP:=XL BL.qg []) (YP:=(BG.sees BL.adr BL.qys BL.tas).says) (d:=BL.lw) (kwd:=[]) BL.left (BG.sees BL.adr BL.qys BL.tas).of (BG.sees BL.adr BL.qys BL.tas).keeps (λs e=>xl_of s (Bool.and_eq_true_iff.mp e).1) XL.keeps BL.df BL.th (by kernel_rfl) (λs e=>recFacts_of (Bool.and_eq_true_iff.mp e).2) rfl (by first|assumption|decide +kernel) (by decide +kernel) ⟨rfl,rfl,rfl,rfl,rfl,by decide +kernel⟩ ?hw BL.walk
 (case hw=>w_witness2)
#print axioms PySem.Challenge.cw_backtape_k33_whole_open_holds
end
end

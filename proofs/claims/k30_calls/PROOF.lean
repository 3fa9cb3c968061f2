import PyProof.Rows.All
import Wide.All
import OpenK.AllK
import Wide.FinOn
import PyProof.EqAt
import PyProof.EqKinds
import PyProof.TupleCall
import Open.Tree
import Wide.Once
import KE.KLam
import KE.KNestM
import KE.KIsAll
import OpenK.KMore
import KE.KSortTup
import PyProof.Rows.SetFrom
import PySem.Syntax
import PySem.Builtin.Str.Common
import PyProof.SliceList
import PyProof.NeData
import PyProof.ExcAttrAll.ValueError
import PyProof.ZipIter
import KE.KRevIter
import KE.KItemsList
import PyProof.ListRange
import PyProof.EnumFor
import PyProof.EnumMake
import PyProof.EnumStmt
import PyProof.CompFree
import PyProof.PlainList
import KE.KTryDeep
import PyProof.FString
import PyProof.FitsInt
import PyProof.RulesAs
import PyProof.ExcBaseAll.ValueError
import Lean
import PySem.Challenge.RW_backtape_k30_calls
set_option autoImplicit true
set_option Elab.async false
set_option linter.all false
set_option maxRecDepth 100000
set_option maxHeartbeats 8000000
set_option genSizeOf false
set_option compiler.extract_closed false
set_option bootstrap.genMatcherCode false
noncomputable section
open PySem renaming Value->Z1,Addr->Z0,Str->ZZ,wpAny->ZY,sizeLine->ZX
open Option renaming some->XX,none->XY
open Bool renaming true->XZ,false->X0
open PySem.W renaming Frag->Rm,keepIn->Sd,findIn->Si,nsIn->Sq,mg_of->Su,tabIn->Sz,fnOf->SL,emptyDict->SR,kitOne->S7,callWith_K->Tj,instObj->TJ,kia_one->TV,hasDictIn->T5,tabObj->Ua,methodCall_KW->Uw,plainGet->UB,codeHd_of_K->UM,envX->UQ,codeIn->UV,codeHdIn->U7,cellsFrom_some->U9,kla_obj->Vg,hideAll->Vh,lookIn->Vp,plainGet_of->Vt,hideAll_get->Vu,callWith_K0->Vv,mroIn->Vy,plainOver->VN,methodObj->VO,isFn->VS,takerIn->V8,makesIn->V9,byRow2->Wj,absHeap->Wr,SharedT->Ws,recOk->Wt,excIn->Wu,xlAt->WG,of_hideAll->W6,codeRec_of->W7,specialIn->Xi,wideGood->Xm,handedIn->Xn,clsGoodW->Xo,openSeen->XC,takesIn->XM
open Bool renaming and_eq_true->Rn,false_ne_true->SZ,or_eq_true->T8,not_eq_true'->T9,or_false->Vf,not_true->WO,or_true->Xd
open PySem.Heap renaming get?_push_of_some->Ro,lt_size->RB,get?_push_size->RT,size_push->Ud,SameBut->Up,get?_update_other->Vm,MadeExcOf->VB,get?_update_self->Xa
open List renaming getElem?_append_left->Rp,size_toArray->Rr,getElem?_eq_getElem->Ru,getElem?_eq_none->Rz,mem_of_getElem?->RC,length_append->RI,mem_cons_of_mem->RJ,range->RK,mem_cons_self->RL,getElem?_append_right->RM,length_map->RN,replicate->RO,getElem?_map->RY,map_cons->RZ,length_cons->R6,append_nil->R8,mem_append_right->Sh,getElem?_set_ne->So,filterMap_cons->Ss,length_singleton->Sv,range'->Sy,not_mem_nil->SA,getElem?_set_self->SG,replicate_succ->SH,map_map->SI,mem_append_left->SM,getElem?_of_mem->SN,lookup_cons->SO,map_congr_left->SV,append_assoc->SW,mem_cons->SX,length_nil->SY,length_dropLast->S9,getElem?_replicate->Td,map_append->Tg,getD_eq_getElem?_getD->To,all_eq_true->Tt,singleton_append->Tv,length_filter_le->Tw,nil_append->TL,flatten_cons->TM,filter_append->TY,getLast?_eq_getElem?->Uc,filter_cons->Ui,lookup->Uj,getElem?_range->Uk,map_nil->Um,getElem?_take_of_lt->Uo,getElem?_dropLast->Ux,length_range->Uy,set_append_right->UD,length_replicate->UE,getElem_mem->UI,dropLast_concat_getLast->UN,any_cons->UO,range_succ->UR,of_mem_zip->US,length_set->UT,reverse_cons->U8,length->Vd,head_eq_of_cons_eq->Ve,reverse_singleton->Vk,range_succ_eq_map->Vl,drop_zero->VA,range'_succ->Wf,length_take->Wg,eq_nil_of_length_eq_zero->Wh,nodup_nil->WA,getElem?_eq_none_iff->WB,drop_eq_getElem_cons->WC,foldl->WH,sum_cons->WM,all_cons->WN,find?_cons_of_neg->WX,set_set->W8,getElem?_reverse->W9,range_eq_range'->Xj,reverse_append->Xp,mem_map_of_mem->Xq,length_reverse->Xr,drop_succ_cons->Xs,zip_cons_cons->XQ,mem_singleton->XR,length_range'->XS,contains_cons->XU
open Nat renaming le_refl->Rq,lt_or_ge->RP,lt_of_lt_of_le->Sb,le_trans->Sj,ne_of_lt->Sk,lt_irrefl->Sw,zero_le->SC,le_succ->S6,lt_succ_self->Tu,le_of_lt->TF,lt_trichotomy->TQ,mul_comm->Ur,ne_of_gt->UY,div_add_mod->Vw,div_le_div_right->Vz,mul_div_cancel->VX,lt_of_le_of_lt->VY,zero_add->Wd,lt_trans->We,not_lt_zero->Wx,mod_lt->WL
open PySem renaming Expr->Rt,Shared->Rv,wpAny_bind->Rx,mainGlobals->RE,Stmt->RU,model->RV,starEach->RX,Program->Se,sliceBounds->Sn,World->SB,Scope->SE,compareOp->SK,wpAny_Call_Name_kw->SQ,binaryOp->Tc,mem_of_lookup->Tf,FuncData->Tz,backTo->TH,Around->TR,wpAny_passesOwn->TU,builtinsNs->T6,wpAny_truthy_bool->Ue,wpAny_holding->Ug,call_meets->Uh,NameKind->Ut,sysModules->Uu,codeAny_mono->Uv,wpAny_loadPart'->UA,wpAny_newObj_type->UJ,keywordEach->UK,wpAny_execs_cons->UU,wpAny_execs_nil->UZ,swapsWith->U0,spliced->U1,rawInt->U3,codeAmong->U4,bootBuiltins->Vc,wpAny_call->Vn,behindInMarks->Vr,attributeBase->Vs,wpAny_pyReprObj_gives->VH,wpAny_isTrue_Compare1->VI,letOwnedTupleGo->VJ,importedModules->VL,sliceRange->VP,backToKw->VQ,assignEach->VR,Operator->VT,wpAny_pyIter_revIter->VU,Stmt->V0,sizeLine_eq->V6,excClassObj->V7,Builtin->Wb,getMethod->Wi,Arguments->Wp,getItem->Wq,Keyword->Wy,wpAny_typeOf->Wz,IsPart->WD,noFill_tuple_add->WE,bindArgs->WK,cellsFrom->WR,assign->WS,Within->WT,PassesOwn->WW,DictEntry->WZ,wpAny_newFunctionEnv_cells->W4,wpAny_binaryOp_repeat_ref->Xe,cLine->Xf,evalArgs_none->Xg,bltViewBooted->Xh,wpAny_getItem_list_slice->Xl,wpAny_standAt->Xv,wpAny_callSpecial?_slot->Xw,wpAny_Call_method0_late->Xx,seq_tuple_add->Xz,rangeSize_one->XA,evalPart_none->XD,compEnvC->XG,callerA->XH,call->XJ
open Option.some renaming inj->Ry,injEq->UP
open PySem.Str renaming ofString->RG,empty->VW,ofString_eq_toList->W5
open PyProof.Rows renaming callWith_type1->R0,slot_tuple_getitem->Tn,envOfC->Us,plainGoodE->V1,plainGoodD->V2,expectedOf->V3,AllBare->Wc,drecsOf->Wl,subscriptTail->Xy
open False renaming elim->Sa
open PySem.Value renaming ref->Sg,builtin->UL,str->U5,int->Vo,isStrOf->VM,none->VV,bool->XI
open PySem.Calls renaming spliced_cons->Sx,spliced_nil->Te,Name_function_global->UW,callWith_builtin->Vi,loadGlobal_global->WJ,evalArgs_plain->Xc,Constant_str->Xu
open PySem.NameKind renaming free->SD,cell->Vx
open PySem.Builtin.List renaming listTooLong->SS,listExtendWith->Uz,listLengthHint->VG,listSameRef->VZ,listItems->Wa
open Ne renaming symm->Ti
open PySem.F renaming plainAttrs_list->TN,args_tuple_add_2->UX,entry_tuple_add->U6,slot_tuple_add->Va,slot_dict_items->Wv
open PySem.Builtin.Slice renaming slicePlaces->TZ,sliceAdjust->UH,sliceApplied->VF
open PySem.Builtin.Tuple renaming tupleExact->T7,tupleTooMany->VD,tupleItemsOf->VE
open PySem.Builtin.Str renaming occurrences->Ub
open True renaming intro->Ul
open PySem.Obj renaming mapSeq->Uq
open Option renaming bind_some->UC,map_some->Vj,getD_some->V4,getD_none->XN
open PySem.PassesOwn renaming never->UF,looking->WU,leaving->WV
open List.cons renaming injEq->UG
open ForInStep renaming yield->Vb
open PySem.Around renaming frames_deeper->Vq,under->WQ
open Array renaming length_toList->VC,eq_empty_of_size_eq_zero->V5,toList->W0,getElem?_toList->W2
open PySem.Heap.IsSliceOf renaming new->Wm
open Classical renaming axiomOfChoice->Wo
open Prod.mk renaming injEq->Ww
open Char renaming toNat->WI
open PySem.IsRange renaming new->WY
open PySem.Code renaming isFrame->Xb
open PySem.AutoSeq1 renaming idx_int->Xk
section
namespace L2
open PySem PySem.Spec PyProof.Rows
def cE (s:V0):Wp:=match s with
 | .FunctionDef _ a _ _ _ _ _ _ _ _=>a| _=>{ posonlyargs:=[],args:=[],vararg:=XY,kwonlyargs:=[],kw_defaults:=[],kwarg:=XY,defaults:=[] }
def aq (s:V0):List V0:=match s with
 | .FunctionDef _ _ b _ _ _ _ _ _ _=>b| _=>[]
def aa (s:V0):SE:=match s with
 | .FunctionDef _ _ _ _ _ _ sc _ _ _=>sc| _=>{ kind:=.function,names:=[],isGenerator:=X0,isCoroutine:=X0 }
end L2
end
section
namespace BR
open PySem PySem.W PyProof.Rows
noncomputable def qQ:List Obj->BT->Nat->Option (BT×Nat)
 | [],T,n=>XX (T,n)
 | o::r,T,n=>match ((T.ins n o).get n).isSome with
  | true=>qQ r (T.ins n o) (n+1)| false=>XY
theorem oJ (life:Life):∀ {l:List Obj}{T T':BT}{n n':Nat},qQ l T n=XX (T',n')->(Wr T' n' life).objs.toList=(Wr T n life).objs.toList++l
 | [],T,T',n,n',h=>by cases h;simp
 | o::r,T,T',n,n',h=>by
  unfold qQ at h;cases g:((T.ins n o).get n).isSome with
  | false=>rw[g] at h;cases h
  | true =>
   rw[g] at h;rw[oJ life h,absHeap_ins g];show ((Wr T n life).objs.push o).toList++r=_;simp
noncomputable def toT (s:Rv):Option Ws:=match qQ s.heap.objs.toList .nil 0 with
 | some (T,n)=>XX ⟨T,n,s.heap.life,s.gens,s.drawn,s.toks,s.os⟩| none=>XY
theorem CU (h:toT s=XX t):t.abs=s:=by
 unfold toT at h;cases e:qQ s.heap.objs.toList .nil 0 with
 | none=>rw[e] at h;cases h
 | some r =>
  obtain ⟨T,n⟩:=r;rw[e] at h;cases h;have:=oJ s.heap.life e;obtain ⟨⟨objs,life⟩,g,d,k,o⟩:=s;show Shared.mk (Wr T n life) g d k o=Shared.mk ⟨objs,life⟩ g d k o;have e2:(Wr T n life).objs.toList=objs.toList:=by rw[this];simp[Wr,BT.list]
  have e3:(Wr T n life).objs=objs:=Array.toList_inj.mp e2;have e4:Wr T n life=⟨objs,life⟩:=by show Heap.mk _ _=Heap.mk _ _;exact congrArg (Heap.mk · life) e3
  rw[e4]
noncomputable def lS (tb:String->Option Wb) (p:Se) (w:SB) (n₀:Nat) (ann:Option Z1):Nat->Ws->Thread->Option Ws
 | 0,_,_=>XY
 | n+1,s,t=>match through t with
  | true=>XX s
  | false=>match stepOk n₀ ann t with
   | false=>XY
   | true=>match stepT (denote tb) p w s t with
    | some (s',t')=>lS tb p w n₀ ann n s' t'| none=>XY
section
variable {tb:String->Option Wb}{p:Se}{w:SB}{n₀:Nat}{ann:Option Z1}
theorem oK:∀ {n:Nat}{s s':Ws}{t:Thread},lS tb p w n₀ ann n s t=XX s'->topRun tb p w n₀ ann n s.abs t=XX s'.abs
 | 0,_,_,_,h=>by cases h
 | n+1,s,s',t,h=>by
  unfold lS at h;unfold topRun;cases he:through t with
  | true=>rw[he] at h;cases h;rfl
  | false =>
   rw[he] at h;cases hk:stepOk n₀ ann t with
   | false=>rw[hk] at h;cases h
   | true =>
    rw[hk] at h;cases hs:stepT (denote tb) p w s t with
    | none=>rw[hs] at h;cases h| some r=>obtain ⟨s₂,t₂⟩:=r;rw[hs] at h;dsimp only;rw[stepT_spec hs];exact oK h
end
noncomputable def mz (tb:String->Option Wb) (p:Se) (w:SB) (N:Nat) (s₀:Rv):Option Ws :=
 match s₀.heap.isNs RE&&s₀.gens.size==0 with
 | true=>(toT s₀).bind λt₀=>(lS tb p w s₀.heap.objs.size (s₀.heap.nsMap RE "__annotations__") N t₀ (topStub p)).bind λt₁ =>
  match staticsOk (VL p.main.body) s₀.heap t₁.abs.heap&&namesBound p t₁.abs.heap&&gensDone t₁.abs&&laidKept s₀.heap t₁.abs.heap with
   | true=>XX t₁| false=>XY
 | false=>XY
theorem tQ (h:mz tb p w N s₀=XX t):topFrom tb p w N s₀=XX t.abs:=by
 unfold mz at h;unfold topFrom;cases e:(s₀.heap.isNs RE&&s₀.gens.size==0) with
 | false=>rw[e] at h;cases h
 | true =>
  rw[e] at h;obtain ⟨t₀,h0,h⟩:=Option.bind_eq_some_iff.mp h;obtain ⟨t₁,h1,h⟩:=Option.bind_eq_some_iff.mp h;have h2:=oK h1;rw[CU h0] at h2;dsimp only;rw[h2];show (match _ with|true=>XX t₁.abs|false=>XY)=_;cases e2:(staticsOk (VL p.main.body) s₀.heap t₁.abs.heap&&namesBound p t₁.abs.heap&&gensDone t₁.abs&&laidKept s₀.heap t₁.abs.heap) with
  | false=>rw[e2] at h;cases h| true=>rw[e2] at h;cases h;rfl
noncomputable def i7 (tb:String->Option Wb) (p:Se) (w:SB) (N:Nat):Option Ws:=(fencedOpening tb p w N).bind (mz tb p w N)
theorem CV {tb:String->Option Wb}{p:Se}{w:SB}{N:Nat}{α:Type}{f:Rv->α}{x:α} (h:(i7 tb p w N).map (λt=>f t.abs)=XX x):(openEnds tb p w N).map f=XX x:=by obtain ⟨t,ht,e⟩:=Option.map_eq_some_iff.mp h;obtain ⟨s₀,h0,h1⟩:=Option.bind_eq_some_iff.mp ht;unfold openEnds;rw[h0];show (topFrom tb p w N s₀).map f=XX x;rw[tQ h1];exact congrArg XX e
theorem yU {α β γ δ:Type}{o:Option α}{f:α->β×γ}{g:α->δ}{x:β}{y:γ}{z:δ} (h1:o.map (λt=>(f t).1)=XX x) (h2:o.map (λt=>(f t).2)=XX y) (h3:o.map g=XX z):o.map (λt=>(f t,g t))=XX ((x,y),z):=by
 cases o with
 | none=>cases h2
 | some t =>
  have e1:(f t).1=x:=Ry h1;have e2:(f t).2=y:=Ry h2;have e3:g t=z:=Ry h3;show XX (f t,g t)=_;rw[← e1,← e2,← e3]
theorem good (q:Se) (loose:List ZZ):openGood q loose=(V3 q,Xh,XZ,XZ,PySem.pinGoodD (Wl q),V1 q (PySem.W.looseW q loose),V2 q loose,Xm q,Xo q loose):=rfl
def LA (tb:String->Option Wb) (p q:Se) (loose mods:List ZZ) (Xt:Rv->Bool) (g0:Bool) (N:Nat) (w:SB):Prop :=
 (i7 tb p w N).map (λt=>(XC q loose mods Xt g0 t.abs).1)=XX (V3 q)
def LB (tb:String->Option Wb) (p q:Se) (loose mods:List ZZ) (Xt:Rv->Bool) (g0:Bool) (N:Nat) (w:SB):Prop :=
 (i7 tb p w N).map (λt=>(XC q loose mods Xt g0 t.abs).2)=XX (Xh,XZ,XZ,PySem.pinGoodD (Wl q),V1 q (PySem.W.looseW q loose),V2 q loose,Xm q,Xo q loose)
def LO (tb:String->Option Wb) (p:Se) (N:Nat) {α:Type} (Yf:Rv->α) (Ya:SB->α) (w:SB):Prop:=(i7 tb p w N).map (λt=>Yf t.abs)=XX (Ya w)
theorem CW {tb:String->Option Wb}{p q:Se}{loose mods:List ZZ}{Xt:Rv->Bool}{g0:Bool}{N:Nat}{α:Type}{Yf:Rv->α}{Ya:SB->α}{w:SB} (h1:LA tb p q loose mods Xt g0 N w) (h2:LB tb p q loose mods Xt g0 N w) (h3:LO tb p N Yf Ya w) :
 (openEnds tb p w N).map (λs=>(XC q loose mods Xt g0 s,Yf s))=XX (openGood q loose,Ya w):=by
 rw[good];have h:=yU (f:=λt:Ws=>XC q loose mods Xt g0 t.abs) (g:=λt:Ws=>Yf t.abs) h1 h2 h3;exact CV (f:=λs=>(XC q loose mods Xt g0 s,Yf s)) h
end BR
end
section
namespace BG
open PySem PySem.Spec PySem.Calls PyProof.Rows L2
structure FS where
 name:ZZ
 qual:ZZ
 params:Wp
 body:FuncBody
 scope:SE
 globals:Z0
 closure:List (ZZ×Z0)
 defaults:Z1
 builtins:Z0
 code:Bool
noncomputable def CY (K:Rm) (f:Z0):Option FS:=match K.lookup f with
 | some ⟨_,_,.func fd,_⟩=>XX ⟨fd.name,fd.qualname,fd.params,fd.body,fd.scope,fd.globals,fd.closure,fd.defaults,fd.builtins,UV K fd.code fd.qualname⟩| _=>XY
noncomputable def u9 (x qual:ZZ) (st:V0):FS:=⟨x,qual,cE st,.stmts (aq st),aa st,RE,[],.none,T6,XZ⟩
noncomputable def strOf:Z1->Option ZZ
 | .str x _=>XX x| _=>XY
noncomputable def intOf:Z1->Option Int
 | .int i _=>XX i| _=>XY
noncomputable def refOf:Option (Option Z1)->Option Z0
 | some (XX (.ref a))=>XX a| _=>XY
inductive Qy where
 | fn (x:ZZ) (f:Z0) (st:V0)|int (x:ZZ) (n:Int)|tup (x:ZZ) (f:Z0) (xs:List ZZ)|dct (x:ZZ) (f:Z0) (kvs:List (ZZ×Int))|no (x:ZZ)|cls (c:ZZ) (C:Z0)|me (C:Z0) (m x qual:ZZ) (f:Z0) (st:V0)|mk (C:Z0)
 | tab (x:ZZ) (c P:Z0)|bm (b:Z0)|fv (x:ZZ) (f:Z0)|exc (D:Z0) (xs:List (ZZ×Z0))
inductive Ov where
 | fn (a:Option Z0) (o:Option FS)|int (n:Option Int)|seq (a:Option Z0) (c:Option (Z1×Option Z0×Nat)) (xs:Option (List (Option ZZ)))|dct (a:Option Z0) (c:Option (Z1×Option Z0×Nat)) (xs:Option (List (Int×Option ZZ×Option Int)))|b (x:Bool)
noncomputable def shp (o:Obj):Z1×Option Z0×Nat:=(o.cls,o.dict,o.slots.size)
noncomputable def F6 (o:Obj):Option (List (Option ZZ)):=match o.data with
 | .seq its _=>XX (its.toList.map strOf)| _=>XY
noncomputable def F7 (o:Obj):Option (List (Int×Option ZZ×Option Int)):=match o.data with
 | .dict es _=>XX (es.toList.map λe=>(e.hash,strOf e.key,intOf e.val))| _=>XY
noncomputable def attrs:List ZZ:=["program","asked","gap","most","kept","farthest","front","now","origins","branches","tape","named"]
noncomputable def Ks (K:Rm) (c:ZZ) (C:Z0):Bool:=decide (Sq K RE c=XX (XX (.ref C)))&&UB K C VW&&T5 K C&&VN K C&&decide (Si K (.ref C) "__setattr__"=XX (XX (.builtin "object.__setattr__"))) &&
 attrs.all λf=>decide (Si K (.ref C) f=XX XY)
noncomputable def meB (K:Rm) (C:Z0) (m:ZZ) (f:Z0):Bool:=decide (Si K (.ref C) m=XX (XX (.ref f)))&&VS K (.ref f)
noncomputable def mkB (K:Rm) (C:Z0):Bool:=V9 K C&&Sd K (.ref C)
noncomputable def bmB (K:Rm) (b:Z0):Bool:=decide (Sq K RE "__builtins__"=XX (XX (.ref b)))&&decide (b≠T6)&&(match K.lookup b with
 | some ⟨.type "module",XX d,.plain,_⟩=>d==T6
 | _=>X0)
noncomputable def Oj (K:Rm) (C D:Z0):Bool:=match K.lookup C with
 | some ⟨_,_,.cls cd,_⟩=>cd.mro.contains (.ref D)| _=>X0
noncomputable def CZ (K:Rm) (c:ZZ) (C:Z0):Bool:=decide (Sq K RE c=XX (XX (.ref C)))&&Wu K C [.type "ValueError",.type "Exception",.type "BaseException",.type "object"] "ValueError.__new__"
noncomputable def GN (K:Rm) (D:Z0) (xs:List (ZZ×Z0)) (c:ZZ) (C:Z0):Bool:=CZ K c C&&Oj K C D&&decide (Si K (.ref C) "__getattribute__"=XX (XX (.builtin "BaseException.__getattribute__")))&&decide (Si K (.ref C) "__getattr__"=XX XY) &&
 decide (Vy K C (.type "BaseException")=XX XZ)&&T5 K C&&decide (Si K (.ref C) "__class__"=XX (XX (.builtin "object.__class__")))&&decide (Xi K (.builtin "object.__class__") "__get__"=XX (XX (.builtin "getset_descriptor.__get__"))) &&
 decide (XM K (.builtin "object.__class__")=XX XZ)&&decide (Vy K C (.type "object")=XX XZ)&&decide (S7 K (.ref C) (.type "ValueError")=XX XZ)&&xs.all λq=>decide (S7 K (.ref C) (.ref q.2)=XX (q.1==c))
noncomputable def Ku (K:Rm) (D:Z0) (xs:List (ZZ×Z0)):Bool:=CZ K "TapeError" D&&xs.all λq=>GN K D xs q.1 q.2
noncomputable def aS (K:Rm):Qy->Ov
 | .fn x f _=>.fn (refOf (Sq K RE x)) (CY K f)| .int x _=>.int (match Sq K RE x with|some (XX v)=>intOf v|_=>XY)| .tup x f _=>.seq (refOf (Sq K RE x)) ((K.lookup f).map shp) ((K.lookup f).bind F6)| .dct x f _=>.dct (refOf (Sq K RE x)) ((K.lookup f).map shp) ((K.lookup f).bind F7)| .no x=>.b (decide (Sq K RE x=XX XY))| .cls c C=>.b (Ks K c C)| .me C m _ _ f _=>.fn (if meB K C m f then XX f else XY) (CY K f)| .mk C=>.b (mkB K C)| .tab x c P=>.b (decide (Sz K x=XX (c,P))&&U7 K c P)| .bm b=>.b (bmB K b)| .fv x f=>.b (decide (Sq K RE x=XX (XX (.ref f)))&&Sd K (.ref f))| .exc D xs=>.b (Ku K D xs)
noncomputable def aT (w:SB):Qy->Ov
 | .fn x f st=>.fn (XX f) (XX (u9 x x st))| .int _ n=>.int (XX n)| .tup _ f xs=>.seq (XX f) (XX (.type "tuple",XY,0)) (XX (xs.map XX))| .dct _ f kvs=>.dct (XX f) (XX (.type "dict",XY,0)) (XX (kvs.map λq=>(PyData.keyHash w.params q.1,XX q.1,XX q.2)))| .no _=>.b XZ| .cls _ _=>.b XZ| .me _ _ x qual f st=>.fn (XX f) (XX (u9 x qual st))| .mk _=>.b XZ| .tab _ _ _=>.b XZ| .bm _=>.b XZ| .fv _ _=>.b XZ| .exc _ _=>.b XZ
noncomputable def KOf (as:List Z0) (h:Heap):Rm:=as.map λa=>(a,(h.get? a).getD default)
noncomputable def sees (as:List Z0) (qs:List Qy) (ts:List Z0):PySem.W.Hook where
 α:=Bool×List Ov×List (Option Obj)
 obs:=λs=>(as.all λa=>(s.heap.get? a).isSome,qs.map (aS (KOf as s.heap)),ts.map s.heap.get?)
 val:=λw=>(XZ,qs.map (aT w),ts.map λ_=>XX (Ua #[]))
 says:=λw h=>∃ K:Rm,K.map (·.1)=as/\(∀ p∈K,h.get? p.1=XX p.2)/\(∀ q∈qs,aS K q=aT w q)/\∀ P∈ts,h.get? P=XX (Ua #[])
 of:=λw s e=>by have e1:=congrArg Prod.fst e;have e2:=congrArg (λp=>p.2.1) e;have e3:=congrArg (λp=>p.2.2) e;refine ⟨KOf as s.heap,by simp[KOf,Function.comp_def],λp hp=>?_,λq hq=>List.map_inj_left.mp e2 q hq,λP hP=>List.map_inj_left.mp e3 P hP⟩;obtain ⟨a,ha,rfl⟩:=List.mem_map.mp hp;have h1:=List.all_eq_true.mp e1 a ha;obtain ⟨o,ho⟩:=Option.isSome_iff_exists.mp h1;show s.heap.get? a=XX ((s.heap.get? a).getD default);rw[ho];rfl
 keeps:=λw h h' ⟨K,m,n,k,t⟩ hk=>⟨K,m,λp hp=>hk _ _ (n p hp),k,λP hP=>hk _ _ (t P hP)⟩
end BG
end
section
namespace BL
open PySem PySem.Spec PyProof.Rows L2 BG
noncomputable abbrev pg:Se:=PySem.Challenge.pw_backtape_k30_calls
noncomputable def qg:Se:=PySem.W.view pg [0,2,3,4,5,6,8,9,10,11,12,13,14,15,17,18,19,20,21,22,23,24,25,26,27,28,29,30,31,32,33,34,35,36,37,39,40,41,42,43,44,45,46,47,48,50,51,53,54,55,56,57,58,59,60,61,62,63,64,65,66,67,68]
noncomputable abbrev loo:List ZZ:=["INNER_COUNTS"]
noncomputable def top (i:Nat):V0:=pg.main.body.getD i (.Pass ⟨0,0,0,0⟩)
noncomputable def Kv:V0->List V0
 | .ClassDef _ _ _ b _ _ _ _ _ _ _=>b| _=>[]
noncomputable def c7 (i j:Nat):V0:=(Kv (top i)).getD j (.Pass ⟨0,0,0,0⟩)
noncomputable def Ol:V0->Pos
 | .FunctionDef _ _ _ _ _ _ _ _ _ p=>p| _=>⟨0,0,0,0⟩
noncomputable abbrev adr:List Z0:=[3,4,30,31,43,44,55,56,67,68,79,80,83,84,90,91,97,98,111,112,118,119,132,133,139,140,146,147,153,154,160,161,167,168,174,175,181,182,188,189,195,196,202,203,209,210,216,217,223,224,230,231,237,238,244,245,251,252,258,259,265,266,272,273,279,280,293,294,300,301,307,308,361,362,368,369,375,376,382,383,389,390,396,397,403,404,417,418,424,425,431,432,434,435,445,446,452,453,459,460,466,467,471,472,476,477,483,484,490,491,497,498,504,505,511,512,518,519,525,526,532,533,539,540,544,545]
noncomputable def qys:List Qy:=[.fn "is_whole" 91 (top 12),
 .fn "is_name" 98 (top 13),
 .fn "inner_sums" 112 (top 15),
 .fn "begun" 119 (top 24),
 .fn "worth_in" 133 (top 26),
 .fn "laid_out" 140 (top 27),
 .fn "of_two" 147 (top 28),
 .fn "worth_of" 154 (top 29),
 .fn "reckoned" 161 (top 30),
 .fn "cell_by" 168 (top 31),
 .fn "is_over" 175 (top 32),
 .fn "place_behind" 182 (top 33),
 .fn "with_worth" 189 (top 34),
 .fn "with_name" 196 (top 35),
 .fn "brought" 203 (top 36),
 .fn "stepped" 210 (top 37),
 .fn "open_in" 217 (top 39),
 .fn "depth" 224 (top 40),
 .fn "next_within" 231 (top 41),
 .fn "last_within" 238 (top 42),
 .fn "over" 245 (top 43),
 .fn "out" 252 (top 44),
 .fn "back_over" 259 (top 45),
 .fn "back_out" 266 (top 46),
 .fn "calls" 273 (top 47),
 .fn "open_calls" 280 (top 48),
 .fn "_law_cell" 446 (top 53),
 .fn "_law_drawn" 453 (top 54),
 .fn "_law_sum" 460 (top 55),
 .fn "_law_row" 467 (top 56),
 .fn "_law_program" 472 (top 57),
 .fn "_law_asked" 477 (top 58),
 .fn "_law_worth" 484 (top 59),
 .fn "_law_is_over" 491 (top 60),
 .fn "_law_write" 498 (top 61),
 .fn "_law_put" 505 (top 62),
 .fn "_law_step" 512 (top 63),
 .fn "_law_states" 519 (top 64),
 .fn "_law_refused" 526 (top 65),
 .fn "_law_calling" 533 (top 66),
 .fn "law" 545 (top 68),
 .int "CELL_COUNT" 4,
 .int "WORTH_COUNT" 10007,
 .int "ROW" 0,
 .int "NAMES" 1,
 .int "CELLS" 2,
 .int "CALLS" 3,
 .int "ASKED" 4,
 .int "SAID" 5,
 .int "MOST_CALLS" 6,
 .int "MOST_MARKS" 8,
 .tup "LETTERS" 83 ["a","b","c","d","e","f"],
 .dct "INNER_COUNTS" 84 [("num",0),("name",0),("cell",1),("add",2),("sub",2),("mul",2),("less",2)],
 .no "len",
 .no "abs",
 .no "int",
 .no "list",
 .no "tuple",
 .no "isinstance",
 .no "str",
 .no "bool",
 .no "range",
 .no "reversed",
 .no "enumerate",
 .no "zip",
 .no "min",
 .no "max",
 .no "sorted",
 .no "sum",
 .no "all",
 .no "any",
 .no "set",
 .no "ValueError",
 .no "worths_of",
 .no "last_change",
 .no "next_change",
 .no "moments_so",
 .no "last_so",
 .no "next_so",
 .no "visits",
 .no "last_visit",
 .no "when_said",
 .tab "next_within" 230 226,
 .tab "last_within" 237 233,
 .no "first_other",
 .no "writer_of",
 .no "judged",
 .no "remade",
 .bm 4,
 .fv "open_in" 217,
 .cls "Tape" 435,
 .mk 435,
 .me 435 "__init__" "__init__" "Tape.__init__" 294 (c7 51 0),
 .me 435 "at" "at" "Tape.at" 301 (c7 51 1),
 .me 435 "end" "end" "Tape.end" 308 (c7 51 2),
 .me 435 "behind" "behind" "Tape.behind" 362 (c7 51 10),
 .me 435 "is_last" "is_last" "Tape.is_last" 369 (c7 51 11),
 .me 435 "keep" "keep" "Tape.keep" 376 (c7 51 12),
 .me 435 "reach" "reach" "Tape.reach" 383 (c7 51 13),
 .me 435 "has" "has" "Tape.has" 390 (c7 51 14),
 .me 435 "check" "check" "Tape.check" 397 (c7 51 15),
 .me 435 "readings" "readings" "Tape.readings" 404 (c7 51 16),
 .me 435 "first_from" "first_from" "Tape.first_from" 418 (c7 51 18),
 .me 435 "last_to" "last_to" "Tape.last_to" 425 (c7 51 19),
 .me 435 "last_between" "last_between" "Tape.last_between" 432 (c7 51 20),
 .fn "_law_told" 540 (top 67),
 .exc 31 [("NoMoment",44),("NoRun",56),("NoThing",68),("NoText",80)]]
noncomputable abbrev tl:List (ZZ×Z0×Z0):=[("next_within",230,226),("last_within",237,233)]
noncomputable abbrev tas:List Z0:=[226,233]
abbrev LA:SB->Prop:=BR.LA treeTable pg qg loo (VL pg.main.body) (λs=>WG qg [] s&&Wt [] s) XZ 7300
theorem la0 (w:SB):LA (w.withFollow "special-get-raises" X0):=by unfold LA BR.LA;kernel_rfl
theorem la1 (w:SB):LA (w.withFollow "special-get-raises" XZ):=by unfold LA BR.LA;kernel_rfl
abbrev LB:SB->Prop:=BR.LB treeTable pg qg loo (VL pg.main.body) (λs=>WG qg [] s&&Wt [] s) XZ 7300
theorem lb0 (w:SB):LB (w.withFollow "special-get-raises" X0):=by unfold LB BR.LB;kernel_rfl
theorem lb1 (w:SB):LB (w.withFollow "special-get-raises" XZ):=by unfold LB BR.LB;kernel_rfl
abbrev LO:SB->Prop:=BR.LO treeTable pg 7300 (sees adr qys tas).obs (sees adr qys tas).val
theorem lo0 (w:SB):LO (w.withFollow "special-get-raises" X0):=by unfold LO BR.LO;kernel_rfl
theorem lo1 (w:SB):LO (w.withFollow "special-get-raises" XZ):=by unfold LO BR.LO;kernel_rfl
theorem left:PySem.W.LeftO pg qg loo (λs=>WG qg [] s&&Wt [] s) (sees adr qys tas).obs (sees adr qys tas).val 7300:=λw=>BR.CW (Wj (P:=LA) "special-get-raises" la0 la1 w) (Wj (P:=LB) "special-get-raises" lb0 lb1 w) (Wj (P:=LO) "special-get-raises" lo0 lo1 w)
end BL
end
section
namespace L2
open PySem PySem.Spec PyProof.Rows
noncomputable abbrev Key:=Sum Int ZZ
noncomputable def mC:Key->Z1->Bool
 | .inl k,v=>Value.isInt k v| .inr x,v=>VM x v
noncomputable def Om (w:SB):Key->Int
 | .inl k=>hashInt k| .inr x=>hashStr w x
theorem bf:∀ {k:Key}{v:Z1},mC k v=XZ->(∃ i t,k=Sum.inl i/\v=Vo i t)\/(∃ x t,k=Sum.inr x/\v=U5 x t)
 | .inl i,v,h=>by obtain ⟨t,e⟩:=Value.isInt_shape (k:=i) (v:=v) h;exact .inl ⟨i,t,rfl,e⟩
 | .inr x,v,h=>by obtain ⟨t,e⟩:=Value.isStrOf_shape (x:=x) (v:=v) h;exact .inr ⟨x,t,rfl,e⟩
theorem w9 (i:Int) (t:Tok):mC (.inl i) (.int i t)=XZ:=by simp[mC,Value.isInt]
theorem xg (x:ZZ) (t:Tok):mC (.inr x) (.str x t)=XZ:=by simp[mC,VM]
theorem GO (a b:Int):decide ((Sum.inl a:Key)=Sum.inl b)=(a==b):=by
 by_cases e:a=b
 subst e;simp
 ·have h:¬ (Sum.inl a:Key)=Sum.inl b:=λq=>e (Sum.inl.inj q);rw[decide_eq_false h];exact (beq_eq_false_iff_ne.mpr e).symm
theorem GP (a b:ZZ):decide ((Sum.inr a:Key)=Sum.inr b)=decide (a=b):=by
 by_cases e:a=b
 subst e;simp
 ·have h:¬ (Sum.inr a:Key)=Sum.inr b:=λq=>e (Sum.inr.inj q);rw[decide_eq_false h,decide_eq_false e]
theorem GQ (a:Int) (b:ZZ):decide ((Sum.inl a:Key)=Sum.inr b)=X0:=decide_eq_false (λq=>nomatch q)
theorem GR (a:ZZ) (b:Int):decide ((Sum.inr a:Key)=Sum.inl b)=X0:=decide_eq_false (λq=>nomatch q)
noncomputable def aU (prog:Se) (w:SB):PySem.KeyKind prog w Key where
 is:=mC
 hash:=Om w
 inj:=λv a b ha hb=>by
  rcases bf ha with ⟨i,t,rfl,rfl⟩|⟨x,t,rfl,rfl⟩
  ·rcases bf hb with ⟨j,u,rfl,e⟩|⟨y,u,rfl,e⟩
   ·injection e with e1 _;rw[e1]
   exact nomatch e
  ·rcases bf hb with ⟨j,u,rfl,e⟩|⟨y,u,rfl,e⟩
   exact nomatch e
   ·injection e with e1 _;rw[e1]
 byValue:=λk v h=>by rcases bf h with ⟨i,t,rfl,rfl⟩|⟨x,t,rfl,rfl⟩<;>rfl
 pyHash:=λhv h=>by
  rcases bf hv with ⟨i,t,rfl,rfl⟩|⟨x,t,rfl,rfl⟩
  exact wpAny_pyHash_int h;exact wpAny_pyHash_str h
 eqBool:=λhu hv h=>by
  rcases bf hu with ⟨i,t,rfl,rfl⟩|⟨x,t,rfl,rfl⟩
  ·rcases bf hv with ⟨j,u,rfl,rfl⟩|⟨y,u,rfl,rfl⟩
   rw[GO] at h;exact wpAny_eqBool_int h;rw[GQ] at h;exact SeqAt.EqAt.int_str i t y u _ _ _ _ h
  ·rcases bf hv with ⟨j,u,rfl,rfl⟩|⟨y,u,rfl,rfl⟩
   rw[GR] at h;exact SeqAt.EqAt.str_int x t j u _ _ _ _ h;rw[GP] at h;exact wpAny_eqBool_str h
 «strs»:=λk x t v h=>by
  rcases bf h with ⟨i,u,rfl,e⟩|⟨y,u,rfl,e⟩
  exact nomatch e
  ·injection e with e1 _
   subst e1;cases v<;>rfl
theorem qR (prog:Se) (w:SB) (i:Int) (t:Tok):(aU prog w).is (.inl i) (.int i t)=XZ:=w9 i t
theorem fH (prog:Se) (w:SB) (x:ZZ) (t:Tok):(aU prog w).is (.inr x) (.str x t)=XZ:=xg x t
end L2
namespace L2
open PySem PySem.Spec PyProof.Rows
inductive V where
 | non|bl (b:Bool)|int (i:Int)|str (x:ZZ)|byt (b:Array UInt8)|flt (b:UInt64)|ref (a:Z0)|ty (n:String)
 deriving DecidableEq
noncomputable def RelV:V->Z1->Prop
 | .non,u=>u=VV| .bl b,u=>u=XI b| .int i,u=>∃ t,u=Vo i t| .str x,u=>∃ t,u=U5 x t| .byt b,u=>∃ t,u=Value.bytes b t| .flt b,u=>∃ t,u=Value.float b t| .ref a,u=>u=Sg a| .ty n,u=>u=Value.type n
abbrev av:List V->List Z1->Prop:=Paired RelV
theorem av.length (r:av xs us):xs.length=us.length:=Paired.length r
theorem av.get:∀ {xs:List V}{us:List Z1}{i:Nat}{x:V},av xs us->xs[i]?=XX x->∃ u,us[i]?=XX u/\RelV x u
 | _,_,_,_,.nil,e=>by simp at e
 | _,_,0,_,.cons r _,e=>by simp at e;subst e;exact ⟨_,rfl,r⟩
 | _,_,i+1,x,.cons _ t,e=>by obtain ⟨u,h1,h2⟩:=av.get (i:=i) (x:=x) t (by simpa using e);exact ⟨u,by simpa using h1,h2⟩
theorem av.set (r:RelV x u):∀ {xs:List V}{us:List Z1} (i:Nat),av xs us->av (xs.set i x) (us.set i u)
 | _,_,_,.nil=>.nil| _,_,0,.cons _ t=>.cons r t| _,_,i+1,.cons q t=>.cons q (av.set r i t)
theorem av.append:∀ {xs ys:List V}{us ws:List Z1},av xs us->av ys ws->av (xs++ys) (us++ws)
 | _,_,_,_,.nil,s=>s| _,_,_,_,.cons r t,s=>.cons r (av.append t s)
theorem av.take:∀ {xs:List V}{us:List Z1} (n:Nat),av xs us->av (xs.take n) (us.take n)
 | _,_,0,_=>.nil| _,_,_+1,.nil=>.nil| _,_,n+1,.cons r t=>.cons r (av.take n t)
theorem av.drop:∀ {xs:List V}{us:List Z1} (n:Nat),av xs us->av (xs.drop n) (us.drop n)
 | _,_,0,r=>r| _,_,_+1,.nil=>.nil| _,_,n+1,.cons _ t=>av.drop n t
noncomputable def nU:Option V->Option Z1->Prop
 | some v,XX u=>RelV v u| none,XY=>True| _,_=>False
noncomputable def KV {κ:Type}:List (κ×V)->List (κ×Z1)->Prop:=Paired λ(p:κ×V) (q:κ×Z1)=>p.1=q.1/\RelV p.2 q.2
noncomputable def kV:Key->V
 | .inl i=>.int i| .inr x=>.str x
inductive HO where
 | lst (xs:List V)
 | tup (xs:List V)
 | dK (kvs:List (Key×V))|dT (kvs:List (List Key×V))
 | set (S:Int->Bool) (n:Nat)
 | ins (C dx:Z0) (fs:List (ZZ×V))
 | own (x:Z0)
 | xd (fs:List (ZZ×V))
 | met (f x:Z0)
 | rng (lo hi:Int)
 | frz (o:Obj) (u:HO)
 | tbl (ps:Array Z1)
 | ext (φ:Heap->Prop)
noncomputable abbrev Hp:=Z0->Option HO
noncomputable def upd (H:Hp) (a:Z0) (o:HO):Hp:=λb=>if b=a then XX o else H b
theorem aG:upd H a o a=XX o:=by unfold upd;rw[if_pos rfl]
theorem au (h:b≠a):upd H a o b=H b:=by unfold upd;rw[if_neg h]
theorem aE {H:Hp}{a b:Z0}{o:HO} (h:H a=XX o) (h':H b=XY):a≠b:=by intro e;subst e;rw[h] at h';cases h'
section
variable (P:Se) (w:SB)
noncomputable def cy (H:Hp) (h:Heap) (a:Z0):HO->Prop
 | .lst xs=>xs.length<=ZX/\∃ (its:List Z1) (n:Nat),av xs its/\h.get? a=XX { cls:=.type "list",data:=.seq its.toArray n }| .tup xs=>xs.length<=ZX/\∃ its:List Z1,av xs its/\IsTup h a its.toArray| .dK kvs=>kvs.length<=ZX/\(a==Uu)=X0/\∃ vs,KV kvs vs/\h.DictOf (aU P w) a vs
 | .dT kvs=>kvs.length<=ZX/\(a==Uu)=X0/\∃ xs:List (List Key×Z0×Z1),
  Paired (λ(p:List Key×V) (q:List Key×Z0×Z1)=>p.1=q.1/\H q.2.1=XX (.tup (p.1.map kV))/\RelV p.2 q.2.2) kvs xs ∧
  ∃ o es ep,h.get? a=XX o/\o.ExactDict/\o.data=.dict es ep/\es.toList=xs.map (entryOfKey (tupleKind (aU P w)))/\(xs.map (·.1)).Nodup
 | .set S n=>h.SetOf (intKind P w) a S n| .ins C dx fs=>H dx=XX (.own a)/\fs.length<=1000/\dx≠a/\h.get? a=XX (TJ C dx) ∧
  ∃ mA,h.Ns1 dx mA/\(∀ f,nU (fs.lookup f) (mA f))/\WT mA (fs.map (·.1))
 | .own _=>∃ o,h.get? a=XX o| .xd fs=>∃ mA,h.Ns1 a mA/\∀ f,nU (fs.lookup f) (mA f)| .rng lo hi=>∃ t u v,h.get? a=XX { cls:=.type "range",data:=.fields #[.int lo t,.int hi u,.int 1 v] }| .frz o u=>h.get? a=XX o/\cy H h a u| .tbl ps=>h.get? a=XX { cls:=.none,data:=.fields ps }| .met f x=>h.get? a=XX (VO (.ref f) (.ref x))| .ext φ=>φ h/\(∃ o,h.get? a=XX o)/\∀ h1 h2:Heap,φ h1->(∀ o,h1.get? a=XX o->h2.get? a=XX o)->φ h2
def HOk (H:Hp) (h:Heap):Prop:=∀ a o,H a=XX o->cy P w H h a o
end
section
theorem cy.lt (x:cy P w H h a o):a < h.objs.size:=by
 cases o with
 | lst xs=>obtain ⟨_,_,_,_,e⟩:=x;exact RB e| tup xs=>obtain ⟨_,_,_,p⟩:=x;exact p.lt| set S n=>obtain ⟨o,_,_,_,e,_⟩:=x;exact RB e| ins C dx fs=>obtain ⟨_,_,_,e,_⟩:=x;exact RB e| own y=>obtain ⟨_,e⟩:=x;exact RB e| xd fs=>obtain ⟨_,⟨_,_,_,e,_⟩,_⟩:=x;exact RB e| rng lo hi=>obtain ⟨_,_,_,e⟩:=x;exact RB e| frz ob u=>obtain ⟨e,_⟩:=x;exact RB e| tbl ps=>exact RB (show h.get? a=XX _ from x)| met f y=>exact RB (show h.get? a=XX _ from x)| ext φ=>obtain ⟨_,⟨_,e⟩,_⟩:=x;exact RB e| _=>obtain ⟨_,_,_,_,o,_,_,e,_⟩:=x;exact RB e
theorem Paired.Kw:∀ {l₁:List α}{l₂:List β},Paired F l₁ l₂->(∀ a b,F a b->G a b)->Paired G l₁ l₂
 | _,_,.nil,_=>.nil| _,_,.cons r t,f=>.cons (f _ _ r) (Paired.Kw t f)
theorem cy.stay (x:cy P w H h a o) (k:∀ b u,(b=a\/H b=XX (.own a))->h.get? b=XX u->h'.get? b=XX u)
 (ho:∀ b,H b=XX (.own a)->H' b=XX (.own a)) (ht:∀ b xs,H b=XX (.tup xs)->H' b=XX (.tup xs)):cy P w H' h' a o:=by
 induction o with
 | lst xs=>obtain ⟨z,its,n,r,e⟩:=x;exact ⟨z,its,n,r,k _ _ (.inl rfl) e⟩| tup xs=>obtain ⟨z,its,r,ob,e,c⟩:=x;exact ⟨z,its,r,ob,k _ _ (.inl rfl) e,c⟩| dK kvs=>obtain ⟨z,y,vs,r,ob,es,ep,e,c⟩:=x;exact ⟨z,y,vs,r,ob,es,ep,k _ _ (.inl rfl) e,c⟩
 | dT kvs =>
  obtain ⟨z,y,xs,r,ob,es,ep,e,c⟩:=x;exact ⟨z,y,xs,Paired.Kw r λp q z=>⟨z.1,ht _ _ z.2.1,z.2.2⟩,ob,es,ep,k _ _ (.inl rfl) e,c⟩
 | set S n=>obtain ⟨ob,es,ep,t,e,c⟩:=x;exact ⟨ob,es,ep,t,k _ _ (.inl rfl) e,c⟩
 | ins C dx fs =>
  obtain ⟨d,z,ne,e,mA,⟨od,es,ep,e2,c⟩,r⟩:=x;exact ⟨ho _ d,z,ne,k _ _ (.inl rfl) e,mA,⟨od,es,ep,k _ _ (.inr d) e2,c⟩,r⟩
 | own y=>obtain ⟨ob,e⟩:=x;exact ⟨ob,k _ _ (.inl rfl) e⟩| xd fs=>obtain ⟨mA,⟨od,es,ep,e,c⟩,r⟩:=x;exact ⟨mA,⟨od,es,ep,k _ _ (.inl rfl) e,c⟩,r⟩| rng lo hi=>obtain ⟨t,u,v,e⟩:=x;exact ⟨t,u,v,k _ _ (.inl rfl) e⟩| frz ob u ih=>obtain ⟨e,q⟩:=x;exact ⟨k _ _ (.inl rfl) e,ih q⟩
 | tbl ps =>
  have e:h.get? a=XX { cls:=.none,data:=.fields ps }:=x;show h'.get? a=XX { cls:=.none,data:=.fields ps };exact k a _ (.inl rfl) e
 | met f y =>
  have e:h.get? a=XX (VO (.ref f) (.ref y)):=x;show h'.get? a=XX (VO (.ref f) (.ref y));exact k a _ (.inl rfl) e
 | ext φ=>obtain ⟨p,⟨o,e⟩,st⟩:=x;exact ⟨st _ _ p λo q=>k _ _ (.inl rfl) q,⟨o,k _ _ (.inl rfl) e⟩,st⟩
theorem HOk.lt (x:HOk P w H h) (e:H a=XX o):a < h.objs.size:=(x a o e).lt
theorem HOk.fresh (x:HOk P w H h) (e:h.objs.size<=a):H a=XY:=by
 cases q:H a with
 | none=>rfl| some u=>exact absurd (Sb (x.lt q) e) (Sw _)
theorem HOk.kept (x:HOk P w H h) (k:∀ b u,h.get? b=XX u->h'.get? b=XX u):HOk P w H h':=λa o e =>
 (x a o e).stay (λb u _ q=>k b u q) (λ_ q=>q) λ_ _ q=>q
theorem HOk.laid (x:HOk P w H h) (k:∀ b u,h.get? b=XX u->h'.get? b=XX u) (hp:h.objs.size<=a) (new:cy P w (upd H a o) h' a o):HOk P w (upd H a o) h':=λb u e=>by
 have hn:=x.fresh hp
 by_cases hb:b=a
 subst hb;rw[aG] at e;cases e;exact new
 ·rw[au hb] at e;exact (x b u e).stay (λc v _ q=>k c v q) (λc q=>by rw[au (aE q hn)];exact q) λc xs q=>by rw[au (aE q hn)];exact q
end
def Rd (H:Hp) (a:Z0) (u:HO):Prop:=H a=XX u\/∃ o,H a=XX (.frz o u)
theorem Rd.ok (r:Rd H a u) (x:HOk P w H h):cy P w H h a u:=by
 rcases r with r|⟨o,r⟩
 exact x a u r
 ·obtain ⟨_,q⟩:=x a _ r;exact q
noncomputable def Mut:Option HO->Prop
 | some (.lst _)=>True| some (.dK _)=>True| some (.dT _)=>True| some (.set _ _)=>True| some (.ins _ _ _)=>True| some (.ext _)=>True| _=>False
section
theorem HOk.write (ok:HOk P w H h) (mu:Mut (H x)) (he:e=x\/H e=XX (.own x)) (k:∀ b u,b≠e->h.get? b=XX u->h'.get? b=XX u) (heo:∃ u,h'.get? e=XX u)
 (new:cy P w (upd H x o') h' x o'):HOk P w (upd H x o') h':=λb u q=>by
 have nown:∀ c y,H c=XX (.own y)->c≠x:=λc y r z=>by subst z;rw[r] at mu;exact mu
 have ntup:∀ c xs,H c=XX (.tup xs)->c≠x:=λc xs r z=>by subst z;rw[r] at mu;exact mu
 by_cases hb:b=x
 subst hb;rw[aG] at q;cases q;exact new
 ·rw[au hb] at q
  by_cases hbe:b=e
  ·have q':H b=XX (.own x):=by
    rcases he with z|z
    exact absurd (hbe.trans z) hb;rw[hbe];exact z
   rw[q] at q';cases q';obtain ⟨v,hv⟩:=heo;exact ⟨v,by rw[hbe];exact hv⟩
  ·refine (ok b u q).stay (λc v hc r=>k c v ?_ r) (λc r=>by rw[au (nown c b r)];exact r) λc xs r=>by rw[au (ntup c xs r)];exact r
   rcases hc with rfl|hc
   exact hbe
   ·rintro rfl
    rcases he with z|z
    exact nown c b hc z;rw[hc] at z;cases z;exact hb rfl
end
structure Un (fs ex:List Z0) (H H':Hp) (h h':Heap):Prop where
 keep:∀ b o,h.get? b=XX o->H b=XY->b∉fs->b∉ex->h'.get? b=XX o
 slot:∀ b o,h.get? b=XX o->H b=XY->b∈fs->b∉ex->∃ sl,h'.get? b=XX { o with slots:=sl }
 free:∀ b o,h.get? b=XX o->H b=XY->b∉ex->H' b=XY
 there:∀ b o,h.get? b=XX o->b∉ex->∃ o',h'.get? b=XX o'
 tups:∀ b xs,H b=XX (.tup xs)->H' b=XX (.tup xs)
 frzs:∀ b o u,H b=XX (.frz o u)->H' b=XX (.frz o u)
 tbls:∀ b ps,H b=XX (.tbl ps)->∃ more,H' b=XX (.tbl (ps++more))
section
theorem Un.any (u:Un fs ex H H1 h h1) (q:h.get? b=XX ob) (n:H b=XY) (hx:b∉ex):∃ sl,h1.get? b=XX { ob with slots:=sl }:=by
 by_cases hb:b∈fs
 exact u.slot b ob q n hb hx;exact ⟨ob.slots,u.keep b ob q n hb hx⟩
theorem Un.kept (k:∀ b u,h.get? b=XX u->h'.get? b=XX u):Un fs ex H H h h' :=
 ⟨λb ob q _ _ _=>k b ob q,λb ob q _ _ _=>⟨ob.slots,k b ob q⟩,λ_ _ _ n _=>n,λb ob q _=>⟨ob,k b ob q⟩,λ_ _ q=>q,λ_ _ _ q=>q,λ_ ps q=>⟨#[],by rw[q];simp⟩⟩
theorem Un.refl:Un fs ex H H h h:=Un.kept λ_ _ q=>q
theorem Un.laid (k:∀ b u,h.get? b=XX u->h'.get? b=XX u) (hp:h.objs.size<=a) (hn:H a=XY):Un fs ex H (upd H a o) h h' where
 keep:=λb u q _ _ _=>k b u q
 slot:=λb u q _ _ _=>⟨u.slots,k b u q⟩
 free:=λb u q n _=>by rw[au (Sk (Sb (RB q) hp))];exact n
 there:=λb u q _=>⟨u,k b u q⟩
 tups:=λb xs q=>by rw[au (aE q hn)];exact q
 frzs:=λb u xs q=>by rw[au (aE q hn)];exact q
 tbls:=λb ps q=>⟨#[],by rw[au (aE q hn),q];simp⟩
theorem Un.write (mu:Mut (H x)) (he:e=x\/H e=XX (.own x)) (k:∀ b u,b≠e->h.get? b=XX u->h'.get? b=XX u) (heo:∃ u,h'.get? e=XX u):Un fs ex H (upd H x o) h h':=by
 have hx:∀ b,H b=XY->b≠x:=λb n z=>by subst z;rw[n] at mu;exact mu
 have hb:∀ b,H b=XY->b≠e:=λb n z=>by
  subst z;rcases he with r|r
  exact hx b n r;rw[n] at r;cases r
 have hm:∀ b u,H b=XX u->¬ Mut (XX u)->b≠x:=λb u q nm z=>by subst z;rw[q] at mu;exact nm mu
 refine ⟨λb u q n _ _=>k b u (hb b n) q,λb u q n _ _=>⟨u.slots,k b u (hb b n) q⟩,λb u q n _=>by rw[au (hx b n)];exact n,λb u q _=>?_,
  λb xs q=>by rw[au (hm b _ q λz=>z)];exact q,λb u xs q=>by rw[au (hm b _ q λz=>z)];exact q,λb ps q=>⟨#[],by rw[au (hm b _ q λz=>z),q];simp⟩⟩
 by_cases hbe:b=e
 subst hbe;exact heo;exact ⟨u,k b u hbe q⟩
end
noncomputable def trk (h:Heap) (H:Hp):List Z0:=(RK h.objs.size).filter λa=>(H a).isSome
noncomputable def qS (h:Heap) (H:Hp):Heap:=Vh h (trk h H)
theorem xh (h:Heap) (H:Hp):(qS h H).objs.size=h.objs.size:=PySem.W.hideAll_size _ _
theorem qT (e:h.get? b=XX o) (n:H b=XY):(qS h H).get? b=XX o :=
 Vu _ e λhm=>by have q:(H b).isSome=XZ:=(List.mem_filter.mp hm).2;rw[n] at q;simp at q
theorem C1 (e:(qS h H).get? b=XX o):h.get? b=XX o/\H b=XY:=by
 have e':h.get? b=XX o:=W6 (trk h H) e;refine ⟨e',?_⟩;cases q:H b with
 | none=>rfl
 | some x =>
  have hm:b∈trk h H:=List.mem_filter.mpr ⟨List.mem_range.mpr (RB e'),by simp[q]⟩;have z:(qS h H).get? b=XY:=PySem.W.hideAll_none (trk h H) hm;rw[z] at e;cases e
noncomputable def C2 (g h:Heap) (L:Z0):List (Z0×Obj):=(RK h.objs.size).filterMap λa=>if a=L\/(g.get? a).isSome=XZ then XY else (h.get? a).map λo=>(a,o)
noncomputable def rest (g h:Heap) (L d:Z0):List (Z0×Obj):=(C2 g h L).filter λp=>decide (p.1≠d)
end L2
namespace L2
open PySem PySem.Spec PyProof.Rows
structure Mod (K:Rm) (mg:ZZ->Option Z1) (base:Heap):Prop where
 kin:K.In base
 glob:base.Ns RE mg
 blt:∃ mb,base.Ns T6 mb/\∀ x:ZZ,x≠"__name__"->mb x=Vc x
 nolimit:base.NoLimit
structure Cx where
 prog:Se
 w:SB
 K:Rm
 mg:ZZ->Option Z1
 base:Heap
 A:TR
 N:List ZZ
 s₀:Rv
 H₀:Hp
 env:Env
 outer:List Env
 stack:List Env
 ex:List Z0
 fn:ZZ->Bool
 calm:Bool
 pn:List (Z0×Obj)
 xe:Z1->Rv->Prop
noncomputable def frs (l:List Env):List Z0:=l.filterMap (·.frame)
noncomputable abbrev Cx.fs (X:Cx):List Z0:=frs X.outer
def Vis (sc:SE) (x:ZZ):Prop:=sc.names.lookup x=XX .local\/sc.names.lookup x=XX .cell\/sc.names.lookup x=XX .free
def Loc (sc:SE) (x:ZZ):Prop:=sc.names.lookup x=XX .local\/sc.names.lookup x=XX .cell
def Look (env:Env) (h:Heap) (m:ZZ->Option Z1) (x:ZZ) (u:Z1):Prop :=
 (env.kindOf x=XX .local/\m x=XX u)\/((env.kindOf x=XX .cell\/env.kindOf x=XX .free)/\∃ c,env.cells.lookup x=XX c/\h.IsCell c (XX u))
structure Cx.Ok (X:Cx):Prop where
 mod:Mod X.K X.mg X.base
 kind:X.env.scope.kind=.function
 glob:X.env.globals=RE
 blt:X.env.builtins=T6
 above:X.s₀.heap.objs.size<=X.env.locals
 inj:∀ x y c,X.env.cells.lookup x=XX c->X.env.cells.lookup y=XX c->x=y
 has:∀ x,(X.env.kindOf x=XX .cell\/X.env.kindOf x=XX .free)->∃ c,X.env.cells.lookup x=XX c
 cab:∀ x c,X.fn x=XZ->X.env.cells.lookup x=XX c->X.s₀.heap.objs.size<=c
 hd:X.calm=XZ->X.A.handled=XY
 frames:X.A.frames=XX X.stack
 stk:X.stack=X.outer\/(X.stack=X.env::X.outer/\X.env.frame=XX X.env.locals)
 exf:∀ b∈X.ex,b≠X.env.locals/\∀ x c,X.env.cells.lookup x=XX c->c≠b
 bs:∀ b o,X.base.get? b=XX o->X.s₀.heap.get? b=XX o/\X.H₀ b=XY
 bsz:X.base.objs.size<=X.s₀.heap.objs.size
 noex:∀ b o,X.base.get? b=XX o->b∉X.ex
 exfs:∀ b∈X.ex,b∉X.fs
 gc:X.s₀.heap.FunFrames X.base X.outer
 frf:∀ b∈X.fs,X.H₀ b=XY
structure Inv (X:Cx) (zt:List (Z0×Obj)) (σ:List (Option V)) (H:Hp) (s:Rv):Prop where
 ok:X.Ok
 os:s.os=X.s₀.os
 bare:Wc s.gens
 base:Un X.fs X.ex X.H₀ H X.s₀.heap s.heap
 loc:∃ m,s.heap.Ns X.env.locals m/\∀ (i:Nat) (x:ZZ) (v:V),X.N[i]?=XX x->σ[i]?=XX (XX v)->Vis X.env.scope x->∃ u,RelV v u/\Look X.env s.heap m x u
 cell:∀ x c,X.env.cells.lookup x=XX c->∃ v,s.heap.IsCell c v
 free:H X.env.locals=XY
 freeC:∀ x c,X.env.cells.lookup x=XX c->H c=XY
 pin:∀ p∈X.pn++zt,s.heap.get? p.1=XX p.2/\H p.1=XY/\p.1≠X.env.locals/\p.1∉X.fs/\∀ v,p.2.data≠.cell v
 hok:HOk X.prog X.w H s.heap
 len:σ.length=X.N.length
section
variable {X:Cx}{zt:List (Z0×Obj)}{σ:List (Option V)}{H H':Hp}{s:Rv}{h':Heap}
theorem Cx.Ok.On (ok:X.Ok) (e:X.base.get? b=XX o):b∉X.fs:=λhb=>by have:=(ok.gc.mem hb).1;rw[e] at this;cases this
theorem Inv.bs (I:Inv X zt σ H s):∀ b o,X.base.get? b=XX o->s.heap.get? b=XX o/\H b=XY:=λb o e =>
 ⟨I.base.keep b o (I.ok.bs b o e).1 (I.ok.bs b o e).2 (I.ok.On e) (I.ok.noex b o e),I.base.free b o (I.ok.bs b o e).1 (I.ok.bs b o e).2 (I.ok.noex b o e)⟩
theorem Inv.bk (I:Inv X zt σ H s):∀ b o,X.base.get? b=XX o->s.heap.get? b=XX o:=λb o e=>(I.bs b o e).1
theorem Inv.mod (I:Inv X zt σ H s):Mod X.K X.mg X.base:=I.ok.mod
theorem Inv.kIn (I:Inv X zt σ H s):X.K.In s.heap:=I.ok.mod.kin.keeps I.bk
theorem Inv.lt (I:Inv X zt σ H s):X.env.locals < s.heap.objs.size:=let ⟨_,hn,_⟩:=I.loc;hn.lt
theorem Inv.sz (I:Inv X zt σ H s):X.s₀.heap.objs.size<=s.heap.objs.size:=Sj I.ok.above (TF I.lt)
theorem Inv.Oo (I:Inv X zt σ H s) (h:s.heap.objs.size<=a):a∉X.fs:=λhb=>by obtain ⟨_,o,ho,_⟩:=I.ok.gc.mem hb;exact absurd (Sb (RB ho) (Sj I.sz h)) (Sw _)
theorem Inv.cne (I:Inv X zt σ H s):∀ x c,X.env.cells.lookup x=XX c->c≠X.env.locals:=λx c e z=>by obtain ⟨v,o,ho,hd⟩:=I.cell x c e;obtain ⟨m,⟨o',es,ep,ho',hd',_⟩,_⟩:=I.loc;rw[z,ho'] at ho;cases ho;rw[hd'] at hd;cases hd
theorem Inv.gc (I:Inv X zt σ H s):s.heap.FunFrames X.base X.outer:=by
 have all:∀ (l:List Env),(∀ b∈frs l,b∈X.fs)->X.s₀.heap.FunFrames X.base l->s.heap.FunFrames X.base l:=by
  intro l
  induction l with
  | nil=>intro _ _;trivial
  | cons env r ih =>
   intro hs hl;obtain ⟨hk,⟨L,o,hf,hn,ho,hd⟩,hr⟩:=hl;have hL:L∈X.fs:=hs L (by unfold frs;rw[Ss,hf];exact RL);obtain ⟨sl,e⟩:=I.base.slot L o ho (I.ok.frf L hL) hL λz=>I.ok.exfs L z hL;exact ⟨hk,⟨L,_,hf,hn,e,hd⟩,ih (λb hb=>hs b (by unfold frs;rw[Ss,hf];exact RJ _ hb)) hr⟩
 exact all X.outer (λ_ hb=>hb) I.ok.gc
theorem Inv.stack (I:Inv X zt σ H s):s.heap.FunFrames X.base X.stack:=by
 rcases I.ok.stk with e|⟨e,hf⟩
 rw[e];exact I.gc
 ·rw[e];obtain ⟨m,hn,_⟩:=I.loc;refine .cons (by rw[I.ok.kind];decide) hf hn ?_ I.gc;exact Heap.get?_none_of_le (Sj I.ok.bsz I.ok.above)
theorem Inv.iF (I:Inv X zt σ H s):∀ b∈frs X.stack,b∈X.env.locals::X.fs:=λb hb=>by
 rcases I.ok.stk with e|⟨e,hf⟩
 rw[e] at hb;exact RJ _ hb
 ·rw[e] at hb;unfold frs at hb;rw[Ss,hf] at hb;exact hb
theorem Inv.lT (I:Inv X zt σ H s):∀ b∈frs X.stack,H b=XY:=λb hb=>by
 rcases List.mem_cons.mp (I.iF b hb) with e|hb
 rw[e];exact I.free
 ·obtain ⟨_,o,ho,_⟩:=I.ok.gc.mem hb;exact I.base.free b o ho (I.ok.frf b hb) λz=>I.ok.exfs b z hb
theorem Inv.step {g':Array GenState}{t':Nat}{d':Drawn}{ch:List Z0} (I:Inv X zt σ H s)
 (hch:∀ b∈ch,(b∈X.ex\/X.s₀.heap.objs.size<=b)/\b≠X.env.locals/\(∀ x c,X.env.cells.lookup x=XX c->c≠b)/\∀ p∈X.pn++zt,p.1≠b)
 (keep:∀ b o,b≠X.env.locals->b∉X.fs->b∉ch->s.heap.get? b=XX o->H b=XY->h'.get? b=XX o)
 (slot:∀ b o,b≠X.env.locals->b∈X.fs->b∉ch->s.heap.get? b=XX o->H b=XY->∃ sl,h'.get? b=XX { o with slots:=sl }) (free:∀ b o,b∉ch->s.heap.get? b=XX o->H b=XY->H' b=XY)
 (there:∀ b o,b∉ch->s.heap.get? b=XX o->∃ o',h'.get? b=XX o')
 (tups:∀ b xs,H b=XX (.tup xs)->H' b=XX (.tup xs)) (frzs:∀ b o u,H b=XX (.frz o u)->H' b=XX (.frz o u)) (tbls:∀ b ps,H b=XX (.tbl ps)->∃ more,H' b=XX (.tbl (ps++more)))
 (ns:∀ m,s.heap.Ns X.env.locals m->h'.Ns X.env.locals m) (hok:HOk X.prog X.w H' h') (hg:Wc g') :
 Inv X zt σ H' { s with heap:=h',gens:=g',drawn:=d',toks:=t' }:=by
 have neL:∀ b o,X.s₀.heap.get? b=XX o->b≠X.env.locals:=λb o e=>Sk (Sb (RB e) I.ok.above);have neC:∀ b o,X.s₀.heap.get? b=XX o->b∉X.ex->b∉ch:=λb o e hx hb=>by
  rcases (hch b hb).1 with z|z
  exact hx z;exact absurd (Sb (RB e) z) (Sw _)
 have cellK:∀ x c,X.env.cells.lookup x=XX c->∀ v,s.heap.IsCell c v->h'.IsCell c v:=λx c e v ⟨o,ho,hd⟩=>by
  have nch:c∉ch:=λz=>(hch c z).2.2.1 x c e rfl
  by_cases hc:c∈X.fs
  ·obtain ⟨sl,q⟩:=slot c o (I.cne x c e) hc nch ho (I.freeC x c e);exact ⟨_,q,hd⟩
  exact ⟨o,keep c o (I.cne x c e) hc nch ho (I.freeC x c e),hd⟩
 refine ⟨I.ok,I.os,hg,⟨λb o e n hb hx=>?_,λb o e n hb hx=>?_,λb o e n hx=>?_,λb o e hx=>?_,λb xs e=>tups b xs (I.base.tups b xs e),λb o xs e=>frzs b o xs (I.base.frzs b o xs e),λb ps e=>?_⟩,?_,λx c e=>?_,?_,λx c e=>?_,λp hp=>?_,hok,I.len⟩;exact keep b o (neL b o e) hb (neC b o e hx) (I.base.keep b o e n hb hx) (I.base.free b o e n hx)
 ·obtain ⟨sl,e1⟩:=I.base.slot b o e n hb hx;obtain ⟨sl',e2⟩:=slot b _ (neL b o e) hb (neC b o e hx) e1 (I.base.free b o e n hx);exact ⟨sl',e2⟩
 ·obtain ⟨o',e1⟩:=I.base.there b o e hx;exact free b o' (neC b o e hx) e1 (I.base.free b o e n hx)
 ·obtain ⟨o',e1⟩:=I.base.there b o e hx;exact there b o' (neC b o e hx) e1
 ·obtain ⟨m1,e1⟩:=I.base.tbls b ps e;obtain ⟨m2,e2⟩:=tbls b _ e1;exact ⟨m1++m2,by rw[e2,Array.append_assoc]⟩
 ·obtain ⟨m,hn,hl⟩:=I.loc;refine ⟨m,ns m hn,λi x v e1 e2 e3=>?_⟩;obtain ⟨u,r,l⟩:=hl i x v e1 e2 e3;refine ⟨u,r,?_⟩;rcases l with l|⟨k,c,e,z⟩
  exact .inl l;exact .inr ⟨k,c,e,cellK x c e _ z⟩
 ·obtain ⟨v,z⟩:=I.cell x c e;exact ⟨v,cellK x c e v z⟩
 ·obtain ⟨m,⟨o,_,_,ho,_⟩,_⟩:=I.loc;exact free _ o (λz=>(hch _ z).2.1 rfl) ho I.free
 ·obtain ⟨v,o,ho,hd⟩:=I.cell x c e;exact free c o (λz=>(hch c z).2.2.1 x c e rfl) ho (I.freeC x c e)
 ·obtain ⟨e,n,ne,nf,d⟩:=I.pin p hp;have nch:p.1∉ch:=λz=>(hch p.1 z).2.2.2 p hp rfl;exact ⟨keep p.1 p.2 ne nf nch e n,free p.1 p.2 nch e n,ne,nf,d⟩
theorem Inv.un {t':Nat} (I:Inv X zt σ H s) (u:Un X.fs [] H H' s.heap h') (hok:HOk X.prog X.w H' h'):Inv X zt σ H' { s with heap:=h',toks:=t' }:=by
 obtain ⟨m,⟨o,es,ep,ho,r⟩,_⟩:=id I.loc;obtain ⟨sl,hL⟩:=u.any ho I.free (by simp);exact I.step (g':=s.gens) (d':=s.drawn) (ch:=[]) (λ_ z=>nomatch z) (λb o _ hb _ e n=>u.keep b o e n hb (by simp)) (λb o _ hb _ e n=>u.slot b o e n hb (by simp)) (λb o _ e n=>u.free b o e n (by simp)) (λb o _ e=>u.there b o e (by simp)) u.tups u.frzs u.tbls (λm' hm=>by obtain ⟨o',es',ep',ho',r'⟩:=hm;rw[ho] at ho';cases ho';exact ⟨_,es',ep',hL,r'⟩) hok I.bare
theorem Inv.call {g':Array GenState}{t':Nat}{d':Drawn}{ch:List Z0} (I:Inv X zt σ H s) (u:Un (frs X.stack) ch H H' s.heap h') (hok:HOk X.prog X.w H' h') (hg:Wc g')
 (hch:∀ b∈ch,(b∈X.ex\/X.s₀.heap.objs.size<=b)/\b≠X.env.locals/\(∀ x c,X.env.cells.lookup x=XX c->c≠b)/\∀ p∈X.pn++zt,p.1≠b) :
 Inv X zt σ H' { s with heap:=h',gens:=g',drawn:=d',toks:=t' }:=by
 obtain ⟨m,⟨o,es,ep,ho,r⟩,_⟩:=id I.loc;obtain ⟨sl,hL⟩:=u.any ho I.free λz=>(hch _ z).2.1 rfl;exact I.step (ch:=ch) hch (λb o hL hb hc e n=>u.keep b o e n (λz=>(List.mem_cons.mp (I.iF b z)).elim hL hb) hc) (λb o _ _ hc e n=>u.any e n hc) (λb o hc e n=>u.free b o e n hc) (λb o hc e=>u.there b o e hc) u.tups u.frzs u.tbls (λm' hm=>by obtain ⟨o',es',ep',ho',r'⟩:=hm;rw[ho] at ho';cases ho';exact ⟨_,es',ep',hL,r'⟩) hok hg
theorem Inv.turned {t':Nat}{it:Z0} (I:Inv X zt σ H s) (k:∀ b o,b≠it->s.heap.get? b=XX o->h'.get? b=XX o) (hn:H it=XY) (hL:it≠X.env.locals)
 (h1:it∈X.ex\/X.s₀.heap.objs.size<=it) (h2:∀ x c,X.env.cells.lookup x=XX c->c≠it) (h3:∀ p∈X.pn++zt,p.1≠it):Inv X zt σ H { s with heap:=h',toks:=t' }:=by
 have nit:∀ b u,H b=XX u->b≠it:=λb u e z=>by rw[z,hn] at e;cases e
 refine I.step (g':=s.gens) (d':=s.drawn) (ch:=[it]) (λb hb=>?_) (λb o _ _ hc e _=>k b o (λz=>hc (by simp[z])) e) (λb o _ _ hc e _=>⟨o.slots,k b o (λz=>hc (by simp[z])) e⟩) (λ_ _ _ _ n=>n)
  (λb o hc e=>⟨o,k b o (λz=>hc (by simp[z])) e⟩) (λ_ _ e=>e) (λ_ _ _ e=>e) (λb ps e=>⟨#[],by rw[e];simp⟩) (λm hm=>?_) (λb u e=>?_) I.bare
 ·have e:b=it:=by simpa using hb
  subst e;exact ⟨h1,hL,h2,h3⟩
 ·obtain ⟨o,es,ep,ho,r⟩:=hm;exact ⟨o,es,ep,k _ o (Ti hL) ho,r⟩
 ·refine (I.hok b u e).stay (λc v hc q=>k c v ?_ q) (λ_ q=>q) λ_ _ q=>q;rcases hc with z|z
  rw[z];exact nit b u e;exact nit c _ z
theorem Inv.tok (I:Inv X zt σ H s) (t:Nat):Inv X zt σ H { s with toks:=t }:=I.un (h':=s.heap) (t':=t) Un.refl I.hok
theorem Inv.kept (I:Inv X zt σ H s) (k:∀ b u,s.heap.get? b=XX u->h'.get? b=XX u):Inv X zt σ H { s with heap:=h',toks:=t' }:=I.un (Un.kept k) (I.hok.kept k)
theorem Inv.laid (I:Inv X zt σ H s) (k:∀ b u,s.heap.get? b=XX u->h'.get? b=XX u) (hp:s.heap.objs.size<=a) (new:cy X.prog X.w (upd H a o) h' a o) :
 Inv X zt σ (upd H a o) { s with heap:=h',toks:=t' }:=I.un (Un.laid k hp (I.hok.fresh hp)) (I.hok.laid k hp new)
theorem Inv.write (I:Inv X zt σ H s) (mu:Mut (H x)) (he:e=x\/H e=XX (.own x)) (k:∀ b u,b≠e->s.heap.get? b=XX u->h'.get? b=XX u) (heo:∃ u,h'.get? e=XX u)
 (new:cy X.prog X.w (upd H x o) h' x o):Inv X zt σ (upd H x o) { s with heap:=h',toks:=t' }:=I.un (Un.write mu he k heo) (I.hok.write mu he k heo new)
theorem Inv.lU (I:Inv X zt σ H s) (h:∀ p∈pins',s.heap.get? p.1=XX p.2/\H p.1=XY/\p.1≠X.env.locals/\p.1∉X.fs/\∀ v,p.2.data≠.cell v):Inv X pins' σ H s :=
 ⟨I.ok,I.os,I.bare,I.base,I.loc,I.cell,I.free,I.freeC,λp hp=>(List.mem_append.mp hp).elim (λz=>I.pin p (SM _ z)) (h p),I.hok,I.len⟩
theorem qU {N:List ZZ} (hN:N.Nodup) {i j:Nat}{x:ZZ} (a:N[i]?=XX x) (b:N[j]?=XX x):i=j:=by obtain ⟨h1,e1⟩:=List.getElem?_eq_some_iff.mp a;obtain ⟨h2,e2⟩:=List.getElem?_eq_some_iff.mp b;exact (List.getElem_inj hN).mp (e1.trans e2.symm)
theorem kL {M:Model}{A:TR}{E:Z1->Rv->Prop}{i:Nat}{x:ZZ}{v:V}{u:Z1}{Q:Unit->Rv->Prop} (I:Inv X zt σ H s) (hN:X.N.Nodup) (hi:X.N[i]?=XX x) (hx:Loc X.env.scope x) (r:RelV v u)
 (h:∀ s',Inv X zt (σ.set i (XX v)) H s'->(∃ a,Up a s.heap s'.heap/\(a=X.env.locals\/X.env.cells.lookup x=XX a))->Q () s') (hf:X.fn x=XZ\/X.env.scope.names.lookup x=XX .local:=by first|exact .inl rfl|exact .inr rfl|assumption):ZY M A (storeName X.env x u) Q E s:=by
 obtain ⟨m,hn,hl⟩:=id I.loc;have hcls:(X.env.scope.kind==.class||(X.env.scope.kind==.module&&X.env.locals != X.env.globals))=X0:=by rw[I.ok.kind];rfl
 have hiσ:i < σ.length:=by rw[I.len];exact (List.getElem?_eq_some_iff.mp hi).1
 have cne:=I.cne;have tracked:∀ {a:Z0}{h':Heap},(∃ o,s.heap.get? a=XX o/\H a=XY)->Up a s.heap h'->HOk X.prog X.w H h':=λ{a h'} ha hs b ob e=>by
  obtain ⟨_,_,hfree⟩:=ha;refine (I.hok b ob e).stay (λc w' hc q=>(hs.2 c ?_).trans q) (λ_ q=>q) λ_ _ q=>q
  rintro rfl
  rcases hc with rfl|hc
  rw[hfree] at e;cases e;rw[hfree] at hc;cases hc
 rcases hx with hk|hk
 ·refine wpAny_storeName_local hk hn (λh' hn' hs=>?_) hcls;obtain ⟨oL,_,_,hoL,_⟩:=id hn;refine h _ ⟨I.ok,I.os,I.bare,⟨λb o e n hb hx=>?_,λb o e n hb hx=>?_,I.base.free,λb o e hx=>?_,I.base.tups,I.base.frzs,I.base.tbls⟩,⟨_,hn',λj y v' e1 e2 e3=>?_⟩,λy c e=>?_,I.free,I.freeC,λp hp=>?_,tracked ⟨oL,hoL,I.free⟩ hs,by simpa using I.len⟩ ⟨_,hs,.inl rfl⟩;exact (hs.2 b (Sk (Sb (RB e) I.ok.above))).trans (I.base.keep b o e n hb hx)
  ·obtain ⟨sl,e1⟩:=I.base.slot b o e n hb hx;exact ⟨sl,(hs.2 b (Sk (Sb (RB e) I.ok.above))).trans e1⟩
  ·obtain ⟨o',e1⟩:=I.base.there b o e hx;exact ⟨o',(hs.2 b (Sk (Sb (RB e) I.ok.above))).trans e1⟩
  ·by_cases hj:j=i
   ·subst hj;rw[hi] at e1;cases e1;rw[SG hiσ] at e2;cases e2;exact ⟨u,r,.inl ⟨hk,by simp⟩⟩
   ·rw[So (Ti hj)] at e2;obtain ⟨u',r',q⟩:=hl j y v' e1 e2 e3;refine ⟨u',r',?_⟩;rcases q with ⟨k,e⟩|⟨k,c,e,z⟩
    ·refine .inl ⟨k,?_⟩;have:y≠x:=λe=>hj (qU hN e1 (e ▸ hi));simp[this,e]
    exact .inr ⟨k,c,e,z.sameBut hs (cne y c e)⟩
  ·obtain ⟨w',z⟩:=I.cell y c e;exact ⟨w',z.sameBut hs (cne y c e)⟩
  ·obtain ⟨e,n,ne,nf,d⟩:=I.pin p hp;exact ⟨(hs.2 p.1 ne).trans e,n,ne,nf,d⟩
 ·have hfn:X.fn x=XZ:=by
   rcases hf with z|z
   exact z;rw[z] at hk;cases hk
  obtain ⟨c,hc⟩:=I.ok.has x (.inl hk);obtain ⟨w',z⟩:=I.cell x c hc;refine wpAny_storeName_cell I.ok.kind hk hc z (λh' hc' hs=>?_);obtain ⟨oc,hoc,hocd⟩:=id z;refine h { s with heap:=h' } ⟨I.ok,I.os,I.bare,⟨λb o e n hb hx=>?_,λb o e n hb hx=>?_,I.base.free,λb o e hx=>?_,I.base.tups,I.base.frzs,I.base.tbls⟩,⟨m,hn.sameBut hs (Ti (cne x c hc)),λj y v' e1 e2 e3=>?_⟩,λy c' e=>?_,I.free,I.freeC,λp hp=>?_,tracked ⟨oc,hoc,I.freeC x c hc⟩ hs,by simpa using I.len⟩ ⟨c,hs,.inr hc⟩;exact (hs.2 b (Sk (Sb (RB e) (I.ok.cab x c hfn hc)))).trans (I.base.keep b o e n hb hx)
  ·obtain ⟨sl,e1⟩:=I.base.slot b o e n hb hx;exact ⟨sl,(hs.2 b (Sk (Sb (RB e) (I.ok.cab x c hfn hc)))).trans e1⟩
  ·obtain ⟨o',e1⟩:=I.base.there b o e hx;exact ⟨o',(hs.2 b (Sk (Sb (RB e) (I.ok.cab x c hfn hc)))).trans e1⟩
  ·by_cases hj:j=i
   ·subst hj;rw[hi] at e1;cases e1;rw[SG hiσ] at e2;cases e2;exact ⟨u,r,.inr ⟨.inl hk,c,hc,hc'⟩⟩
   ·rw[So (Ti hj)] at e2;obtain ⟨u',r',q⟩:=hl j y v' e1 e2 e3;refine ⟨u',r',?_⟩;rcases q with q|⟨k,c',e,z'⟩
    exact .inl q
    ·refine .inr ⟨k,c',e,z'.sameBut hs ?_⟩
     rintro rfl
     exact hj (qU hN e1 (I.ok.inj _ _ _ e hc ▸ hi))
  ·by_cases hcc:c'=c
   subst hcc;exact ⟨_,hc'⟩
   ·obtain ⟨w2,z2⟩:=I.cell y c' e;exact ⟨w2,z2.sameBut hs hcc⟩
  ·obtain ⟨e,n,ne,nf,d⟩:=I.pin p hp;refine ⟨(hs.2 p.1 ?_).trans e,n,ne,nf,d⟩;intro q;rw[q,hoc] at e;have q':oc=p.2:=Ry e;exact d w' (by rw[← q'];exact hocd)
theorem mD {E:Z1->Rv->Prop} (I:Inv X zt σ H s) (hN:X.N.Nodup) (hi:X.N[i]?=XX x) (hx:Loc X.env.scope x) (r:RelV v u)
 (h:∀ s',Inv X zt (σ.set i (XX v)) H s'->Q () s') (hf:X.fn x=XZ\/X.env.scope.names.lookup x=XX .local:=by first|exact .inl rfl|exact .inr rfl|assumption):ZY M A (storeName X.env x u) Q E s :=
 kL I hN hi hx r (λs' I' _=>h s' I') hf
theorem Inv.yV (I:Inv X zt σ H s) (ho:s'.os=s.os) (u:Un (frs X.stack) ch H H' s.heap s'.heap) (hok:HOk X.prog X.w H' s'.heap) (hg:Wc s'.gens)
 (hch:∀ b∈ch,(b∈X.ex\/X.s₀.heap.objs.size<=b)/\b≠X.env.locals/\(∀ x c,X.env.cells.lookup x=XX c->c≠b)/\∀ p∈X.pn++zt,p.1≠b):Inv X zt σ H' s':=by
 obtain ⟨h',g',d',t',o'⟩:=s';have e:o'=s.os:=ho;subst e;exact I.call (g':=g') (t':=t') (d':=d') u hok hg hch
end
abbrev XK:=Z1->Option Z0->Hp->Prop
noncomputable abbrev St:=List (Option V)
abbrev VK:=V->Hp->Prop
abbrev TE:=St->Hp->VK->Prop
abbrev TT:=St->Hp->(Bool->Hp->Prop)->Prop
abbrev TA:=St->Hp->(List V->Hp->Prop)->Prop
structure Ends where
 nx:St->Hp->Prop
 rt:VK
 bk:St->Hp->Prop:=λ_ _=>False
 ct:St->Hp->Prop:=λ_ _=>False
abbrev TS:=Ends->St->Hp->Prop
inductive EP (X:Cx) (zt:List (Z0×Obj)) (σ:St) (Q:VK) (u:Z1) (s':Rv):Prop where
 | mk (v:V) (H':Hp) (I:Inv X zt σ H' s') (r:RelV v u) (q:Q v H'):EP X zt σ Q u s'
inductive TP (X:Cx) (zt:List (Z0×Obj)) (σ:St) (Q:Bool->Hp->Prop) (b:Bool) (s':Rv):Prop where
 | mk (H':Hp) (I:Inv X zt σ H' s') (q:Q b H'):TP X zt σ Q b s'
inductive AP (X:Cx) (zt:List (Z0×Obj)) (σ:St) (Q:List V->Hp->Prop) (us:List Z1) (s':Rv):Prop where
 | mk (vs:List V) (H':Hp) (I:Inv X zt σ H' s') (r:av vs us) (q:Q vs H'):AP X zt σ Q us s'
def SP (X:Cx) (zt:List (Z0×Obj)) (D:Ends) (f:Flow) (s':Rv):Prop :=
 match f with
 | .next=>∃ σ' H',Inv X zt σ' H' s'/\D.nx σ' H'| .brk=>∃ σ' H',Inv X zt σ' H' s'/\D.bk σ' H'| .cont=>∃ σ' H',Inv X zt σ' H' s'/\D.ct σ' H'| .ret u=>∃ v σ' H',Inv X zt σ' H' s'/\RelV v u/\D.rt v H'
def PE (X:Cx) (e:Expr) (t:TE):Prop :=
 ∀ (zt:List (Z0×Obj)) (s:Rv) (σ:St) (H:Hp) (Q:VK),Inv X zt σ H s->t σ H Q->ZY (RV X.prog X.w) X.A (eval e X.env) (EP X zt σ Q) X.xe s
def PT (X:Cx) (e:Expr) (t:TT):Prop :=
 ∀ (zt:List (Z0×Obj)) (s:Rv) (σ:St) (H:Hp) (Q:Bool->Hp->Prop),Inv X zt σ H s->t σ H Q->ZY (RV X.prog X.w) X.A (isTrue e X.env (eval e X.env)) (TP X zt σ Q) X.xe s
def PW (X:Cx) (e:Expr) (t:TT):Prop :=
 ∀ (whole:Sem Z1) (zt:List (Z0×Obj)) (s:Rv) (σ:St) (H:Hp) (Q:Bool->Hp->Prop),Inv X zt σ H s->t σ H Q->ZY (RV X.prog X.w) X.A (isTrue e X.env whole) (TP X zt σ Q) X.xe s
theorem PW.pt (h:PW X e t):PT X e t:=h _
def PA (X:Cx) (es:List Expr) (t:TA):Prop :=
 ∀ (pos:Pos) (zt:List (Z0×Obj)) (s:Rv) (σ:St) (H:Hp) (Q:List V->Hp->Prop),Inv X zt σ H s->t σ H Q->ZY (RV X.prog X.w) X.A (U1 (TH pos (RX es X.env))) (AP X zt σ Q) X.xe s
def PS (X:Cx) (st:V0) (t:TS):Prop :=
 ∀ (zt:List (Z0×Obj)) (s:Rv) (σ:St) (H:Hp) (D:Ends),Inv X zt σ H s->t D σ H->ZY (RV X.prog X.w) X.A (exec st X.env) (SP X zt D) X.xe s
def PSs (X:Cx) (st:List V0) (t:TS):Prop :=
 ∀ (zt:List (Z0×Obj)) (s:Rv) (σ:St) (H:Hp) (D:Ends),Inv X zt σ H s->t D σ H->ZY (RV X.prog X.w) X.A (execs st X.env) (SP X zt D) X.xe s
theorem thn {α:Type}{t:Sem α}{Q Q':α->Rv->Prop}{E:Z1->Rv->Prop} (h:ZY M A t Q E s) (hQ:∀ a s,Q a s->Q' a s):ZY M A t Q' E s:=wpAny_mono h hQ λ_ _ x=>x
end L2
namespace L2
open PySem PySem.Spec PyProof.Rows
section
theorem bin {a b:Expr}{ta tb:TE} (ha:PE X a ta) (hb:PE X b tb) {zt:List (Z0×Obj)}{s:Rv}{σ:St}{H:Hp}{R:V->V->Hp->Prop} (I:Inv X zt σ H s) (h:ta σ H λx H1=>tb σ H1 λy H2=>R x y H2)
 {α:Type}{Q:α->Rv->Prop}{f:Z1->Z1->Sem α}
 (hf:∀ v u s2 x y H2,Inv X zt σ H2 s2->RelV x v->RelV y u->R x y H2->ZY (RV X.prog X.w) X.A (f v u) Q X.xe s2) :
 ZY (RV X.prog X.w) X.A (eval a X.env) (λv s₁=>ZY (RV X.prog X.w) X.A (eval b X.env) (λu s₂=>ZY (RV X.prog X.w) X.A (f v u) Q X.xe s₂) X.xe s₁) X.xe s:=by
 refine thn (ha zt s σ H _ I h) λv s1 zq=>?_;obtain ⟨x,H1,I1,r1,q1⟩:=zq;refine thn (hb zt s1 σ H1 _ I1 q1) λu s2 zq=>?_;obtain ⟨y,H2,I2,r2,q2⟩:=zq;exact hf v u s2 x y H2 I2 r1 r2 q2
def Oq (i:Nat):TE:=fun σ H Q=>∃ v,σ[i]?=XX (XX v)/\Q v H
def tC (v:V):TE:=λ_ H Q=>Q v H
theorem tR (hN:X.N[i]?=XX x) (hv:Vis X.env.scope x) (hd:(x==("__debug__":ZZ))=X0:=by decide) (hcd:(x==("__classdict__":ZZ))=X0:=by decide):PE X (.Name x pos) (Oq i):=by
 intro zt s σ H Q I h;obtain ⟨v,e,h⟩:=h;obtain ⟨m,hn,hl⟩:=I.loc;obtain ⟨u,r,l⟩:=hl i x v hN e hv;have fin:EP X zt σ Q u s:=⟨v,H,I,r,h⟩;rcases l with ⟨hk,hm⟩|⟨hk,c,hc,hcell⟩
 exact wpAny_Name (wpAny_loadName_local I.ok.kind hk hn hm fin) hd
 ·rcases hk with hk|hk
  exact wpAny_Name (wpAny_loadName_cell I.ok.kind hk hc hcell fin) hd;exact wpAny_Name (wpAny_loadName_free I.ok.kind hk hc hcell fin hcd) hd
theorem tS {i j pos}:PE X (.Constant (.int i) j pos) (tC (.int i)):=λ_ _ _ H _ I h=>wpAny_Constant_int ⟨.int i,H,I.tok _,⟨_,rfl⟩,h⟩
theorem Kx {b j pos}:PE X (.Constant (.bool b) j pos) (tC (.bl b)):=λ_ _ _ H _ I h=>Constant_bool ⟨.bl b,H,I,rfl,h⟩
theorem GS {j pos}:PE X (.Constant .none j pos) (tC .non):=λ_ _ _ H _ I h=>Constant_none ⟨.non,H,I,rfl,h⟩
theorem GT {x j pos}:PE X (.Constant (.str x) j pos) (tC (.str x)):=λ_ _ _ H _ I h=>Xu ⟨.str x,H,I.tok _,⟨_,rfl⟩,h⟩
def Gl (X:Cx) (x:ZZ):Prop:=X.env.kindOf x=XX .globalImplicit
theorem fJ {E:Z1->Rv->Prop} (I:Inv X zt σ H s) (hg:Gl X x) (hm:X.mg x=XX u) (h:Q u s)
 (hd:(x==("__debug__":ZZ))=X0:=by decide):ZY (RV X.prog X.w) X.A (eval (.Name x pos) X.env) Q E s :=
 UW I.ok.kind hg (WJ (by rw[I.ok.glob];exact I.mod.glob.keeps I.bk) hm h) hd
theorem dI {E:Z1->Rv->Prop} (I:Inv X zt σ H s) (hg:Gl X x) (hm:X.mg x=XY) (hv:Vc x=XX u) (h:Q u s)
 (hn:x≠"__name__":=by decide) (hd:(x==("__debug__":ZZ))=X0:=by decide):ZY (RV X.prog X.w) X.A (eval (.Name x pos) X.env) Q E s:=by
 obtain ⟨mb,h1,h2⟩:=I.mod.blt;exact UW I.ok.kind hg (Calls.loadGlobal_builtin (by rw[I.ok.glob];exact I.mod.glob.keeps I.bk) hm (by rw[I.ok.blt];exact h1.keeps I.bk) ((h2 x hn).trans hv) h) hd
theorem pK (hg:Gl X x) (hm:X.mg x=XX u) (r:RelV v u) (hd:(x==("__debug__":ZZ))=X0:=by decide):PE X (.Name x pos) (tC v) :=
 λ_ _ _ H _ I h=>fJ I hg hm ⟨v,H,I,r,h⟩ hd
theorem i8 (hg:Gl X x) (hm:X.mg x=XY) (hv:Vc x=XX u) (r:RelV v u) (hn:x≠"__name__":=by decide) (hd:(x==("__debug__":ZZ))=X0:=by decide):PE X (.Name x pos) (tC v) :=
 λ_ _ _ H _ I h=>dI I hg hm hv ⟨v,H,I,r,h⟩ hn hd
def PC (X:Cx) (op:CmpOp) (a b:Expr) (t:TE):Prop :=
 ∀ (zt:List (Z0×Obj)) (s:Rv) (σ:St) (H:Hp) (Q:VK),Inv X zt σ H s->t σ H Q →
  ZY (RV X.prog X.w) X.A (eval a X.env) (λv s₁=>ZY (RV X.prog X.w) X.A (eval b X.env) (λu s₂=>ZY (RV X.prog X.w) X.A (SK op v u) (EP X zt σ Q) X.xe s₂) X.xe s₁) X.xe s
def tB (t:TE):TT:=fun σ H Q=>t σ H λx H1=>∃ c,x=.bl c/\Q c H1
theorem Os (h:PC X op a b t) (h1:Vr op b=X0:=by first|exact nobehind _ (by decide) (by decide)|rfl):PT X (.Compare a [op] [b] pos) (tB t):=by intro zt s σ H Q I hw;refine VI (thn (h zt s σ H _ I hw) λv s1 h1=>thn h1 λu s2 h2=>thn h2 λc s3 ⟨x,H1,I1,r1,q1⟩=>?_) h1;obtain ⟨d,rfl,q⟩:=q1;cases r1;exact Ue ⟨H1,I1,q⟩
theorem GU (h:PE X e t) (he:∀ whole,isTrue e X.env whole=(do let v ← whole;standAt e.pos;holding [v] (truthy v)):=by intro _;rfl):PT X e (tB t):=by intro zt s σ H Q I hw;refine isTrue_plain (thn (h zt s σ H _ I hw) λv s1 ⟨x,H1,I1,r1,q1⟩=>?_) (he _);obtain ⟨d,rfl,q⟩:=q1;cases r1;exact Ue ⟨H1,I1,q⟩
variable {rest:List Expr}
def Kz (t u:TT):TT:=fun σ H Q=>t σ H λc H1=>if c=XZ then u σ H1 Q else Q X0 H1
def tOr (t u:TT):TT:=fun σ H Q=>t σ H λc H1=>if c=XZ then Q XZ H1 else u σ H1 Q
def KA (t:TT):TT:=fun σ H Q=>t σ H λc H1=>Q (!c) H1
theorem C3 (ha:PT X a tA):PW X (.BoolOp .And [a] pos) tA:=by
 intro wh zt s σ H Q I h;refine isTrue_and (thn (ha zt s σ H Q I h) λc s1 e=>?_);cases c with
 | true=>exact isTrue_and_nil e| false=>exact e
theorem GV (ha:PT X a tA):PW X (.BoolOp .Or [a] pos) tA:=by
 intro wh zt s σ H Q I h;refine isTrue_or (thn (ha zt s σ H Q I h) λc s1 e=>?_);cases c with
 | false=>exact isTrue_or_nil e| true=>exact e
theorem yW (ha:PT X a tA) (hb:PW X (.BoolOp .And (b::rest) pos) tB'):PW X (.BoolOp .And (a::b::rest) pos) (Kz tA tB'):=by
 intro wh zt s σ H Q I h;refine isTrue_and (thn (ha zt s σ H _ I h) λc s1 zq=>?_);obtain ⟨H1,I1,q1⟩:=zq;cases c with
 | true=>exact hb wh zt s1 σ H1 Q I1 q1| false=>exact ⟨H1,I1,q1⟩
theorem F8 (ha:PT X a tA) (hb:PW X (.BoolOp .Or (b::rest) pos) tB'):PW X (.BoolOp .Or (a::b::rest) pos) (tOr tA tB'):=by
 intro wh zt s σ H Q I h;refine isTrue_or (thn (ha zt s σ H _ I h) λc s1 zq=>?_);obtain ⟨H1,I1,q1⟩:=zq;cases c with
 | true=>exact ⟨H1,I1,q1⟩| false=>exact hb wh zt s1 σ H1 Q I1 q1
theorem GW (ha:PT X a tA):PT X (.UnaryOp .Not a pos) (KA tA):=by intro zt s σ H Q I h;exact isTrue_not (thn (ha zt s σ H (λc H1=>Q (!c) H1) I h) λc s' z=>by obtain ⟨H1,I1,q⟩:=z;exact ⟨H1,I1,q⟩)
def F9 (ta tb:TE):TE:=fun σ H Q=>ta σ H λx H1=>∃ c,x=.bl c/\if c=XZ then tb σ H1 Q else Q (.bl X0) H1
def KB (ta tb:TE):TE:=fun σ H Q=>ta σ H λx H1=>∃ c,x=.bl c/\if c=XZ then Q (.bl XZ) H1 else tb σ H1 Q
def Ga (ta:TE):TE:=fun σ H Q=>ta σ H λx H1=>∃ c,x=.bl c/\Q (.bl (!c)) H1
theorem yX {op} (h:PE X a t):PE X (.BoolOp op [a] pos) t:=λzt s σ H Q I hw=>BoolOp_one (h zt s σ H Q I hw)
theorem yY (ha:PE X a ta) (hb:PE X (.BoolOp .And (b::rest) pos) tb):PE X (.BoolOp .And (a::b::rest) pos) (F9 ta tb):=by
 intro zt s σ H Q I h;refine BoolOp_and (thn (ha zt s σ H _ I h) λv s1 zq=>?_);obtain ⟨x,H1,I1,r1,q1⟩:=zq;obtain ⟨c,rfl,q1⟩:=q1;cases r1;refine Ue ?_;cases c with
 | true=>exact hb zt s1 σ H1 Q I1 q1| false=>exact ⟨.bl X0,H1,I1,rfl,q1⟩
theorem Gb (ha:PE X a ta) (hb:PE X (.BoolOp .Or (b::rest) pos) tb):PE X (.BoolOp .Or (a::b::rest) pos) (KB ta tb):=by
 intro zt s σ H Q I h;refine BoolOp_or (thn (ha zt s σ H _ I h) λv s1 zq=>?_);obtain ⟨x,H1,I1,r1,q1⟩:=zq;obtain ⟨c,rfl,q1⟩:=q1;cases r1;refine Ue ?_;cases c with
 | false=>exact hb zt s1 σ H1 Q I1 q1| true=>exact ⟨.bl XZ,H1,I1,rfl,q1⟩
theorem GX (ha:PE X a ta):PE X (.UnaryOp .Not a pos) (Ga ta):=by intro zt s σ H Q I h;refine UnaryOp_ (thn (ha zt s σ H _ I h) λv s1 zq=>?_);obtain ⟨x,H1,I1,r1,q1⟩:=zq;obtain ⟨c,rfl,q1⟩:=q1;cases r1;exact not_of (Ue ⟨.bl (!c),H1,I1,rfl,q1⟩)
def tIf (t:TT) (ta tb:TE):TE:=fun σ H Q=>t σ H λc H1=>if c=XZ then ta σ H1 Q else tb σ H1 Q
theorem yZ (hc:PT X c tA) (ha:PE X a ta) (hb:PE X b tb):PE X (.IfExp c a b pos) (tIf tA ta tb):=by
 intro zt s σ H Q I h;refine wpAny_IfExp (thn (hc zt s σ H _ I h) λd s1 zq=>?_);obtain ⟨H1,I1,q1⟩:=zq;cases d with
 | true=>exact ha zt s1 σ H1 Q I1 q1| false=>exact hb zt s1 σ H1 Q I1 q1
end
end L2
namespace L2
open PySem PySem.Spec PyProof.Rows
def SqL (K:Rm) (H:Hp) (a:Z0) (xs:List V):Prop :=
 Rd H a (.lst xs) ∨
  ∃ (o:Obj) (its:Array Z1) (n:Nat),K.lookup a=XX o/\o.cls=.type "list"/\o.dict=XY/\o.data=.seq its n/\its.size<=ZX/\av xs its.toList
def SqT (K:Rm) (H:Hp) (a:Z0) (xs:List V):Prop :=
 Rd H a (.tup xs) ∨
  ∃ (o:Obj) (its:Array Z1) (n:Nat),K.lookup a=XX o/\o.cls=.type "tuple"/\o.data=.seq its n/\its.size<=ZX/\av xs its.toList
noncomputable def Ot:Z1->Option V
 | .none=>XX .non| .bool b=>XX (.bl b)| .int i _=>XX (.int i)| .str x _=>XX (.str x)| .bytes b _=>XX (.byt b)| .float b _=>XX (.flt b)| .ref a=>XX (.ref a)| .type n=>XX (.ty n)| _=>XY
theorem RelV.abs (r:RelV x u):Ot u=XX x:=by
 cases x with
 | non=>cases r;rfl| bl _=>cases r;rfl| ref _=>cases r;rfl| ty _=>cases r;rfl| _=>obtain ⟨t,rfl⟩:=r;rfl
theorem RelV.inj (r:RelV x u) (q:RelV y u):x=y:=Ry (r.abs.symm.trans q.abs)
theorem av.inj:∀ {xs ys:List V}{us:List Z1},av xs us->av ys us->xs=ys
 | _,_,_,.nil,.nil=>rfl
 | _,_,_,.cons r t,.cons r' t'=>by rw[r.inj r',av.inj t t']
section
theorem Inv.list (I:Inv X zt σ H s) (h:SqL X.K H a xs):∃ its:List Z1,av xs its/\PlainL s.heap a its.toArray/\xs.length<=ZX:=by
 rcases h with h|⟨o,its,n,hk,hc,hd,hs,hz,r⟩
 ·obtain ⟨z,its,n,r,e⟩:=h.ok I.hok;exact ⟨its,r,⟨_,n,e,rfl,rfl,rfl⟩,z⟩
 ·refine ⟨its.toList,r,⟨o,n,I.kIn a o hk,hc,hd,by simpa using hs⟩,?_⟩;have e:=r.length;simp only[VC] at e;lia
theorem Inv.tuple (I:Inv X zt σ H s) (h:SqT X.K H a xs):∃ its:List Z1,av xs its/\IsTup s.heap a its.toArray/\xs.length<=ZX:=by
 rcases h with h|⟨o,its,n,hk,hc,hs,hz,r⟩
 ·obtain ⟨z,its,r,p⟩:=h.ok I.hok;exact ⟨its,r,p,z⟩
 ·refine ⟨its.toList,r,⟨o,I.kIn a o hk,hc,n,by simpa using hs⟩,?_⟩;have e:=r.length;simp only[VC] at e;lia
theorem Inv.qV (I:Inv X zt σ H s) (h:SqL X.K H a xs) (h':SqL X.K H a ys):xs=ys:=by
 obtain ⟨its,r,⟨o,n,e,_,_,d⟩,_⟩:=I.list h;obtain ⟨its',r',⟨o',n',e',_,_,d'⟩,_⟩:=I.list h';rw[e] at e';cases e';rw[d] at d'
 injection d' with d1 _
 have:its=its':=by simpa using congrArg W0 d1
 subst this;exact r.inj r'
theorem Inv.xj (I:Inv X zt σ H s) (h:SqT X.K H a xs) (h':SqT X.K H a ys):xs=ys:=by
 obtain ⟨its,r,⟨o,e,_,n,d⟩,_⟩:=I.tuple h;obtain ⟨its',r',⟨o',e',_,n',d'⟩,_⟩:=I.tuple h';rw[e] at e';cases e';rw[d] at d'
 injection d' with d1 _
 have:its=its':=by simpa using congrArg W0 d1
 subst this;exact r.inj r'
end
noncomputable abbrev Cx.nV (X:Cx) (E:Z1->Rv->Prop):Cx:={ X with xe:=E }
noncomputable abbrev Cx.nox (X:Cx):Cx:=X.nV λ_ _=>False
theorem Cx.Ok.nV {X:Cx} (ok:X.Ok) (E:Z1->Rv->Prop):(X.nV E).Ok :=
 ⟨ok.mod,ok.kind,ok.glob,ok.blt,ok.above,ok.inj,ok.has,ok.cab,ok.hd,ok.frames,ok.stk,ok.exf,ok.bs,ok.bsz,ok.noex,ok.exfs,ok.gc,ok.frf⟩
theorem Cx.Ok.iG {X:Cx}{E:Z1->Rv->Prop} (ok:(X.nV E).Ok):X.Ok :=
 ⟨ok.mod,ok.kind,ok.glob,ok.blt,ok.above,ok.inj,ok.has,ok.cab,ok.hd,ok.frames,ok.stk,ok.exf,ok.bs,ok.bsz,ok.noex,ok.exfs,ok.gc,ok.frf⟩
section
variable {E:Z1->Rv->Prop}
theorem Inv.nV (I:Inv X zt σ H s) (E:Z1->Rv->Prop):Inv (X.nV E) zt σ H s:=⟨I.ok.nV E,I.os,I.bare,I.base,I.loc,I.cell,I.free,I.freeC,I.pin,I.hok,I.len⟩
theorem Inv.iG (I:Inv (X.nV E) zt σ H s):Inv X zt σ H s:=⟨I.ok.iG,I.os,I.bare,I.base,I.loc,I.cell,I.free,I.freeC,I.pin,I.hok,I.len⟩
theorem SP.iG {D:Ends} (h:SP (X.nV E) zt D f s'):SP X zt D f s':=by
 cases f with
 | ret u=>obtain ⟨v,σ',H',I,r,q⟩:=h;exact ⟨v,σ',H',I.iG,r,q⟩| _=>obtain ⟨σ',H',I,q⟩:=h;exact ⟨σ',H',I.iG,q⟩
theorem PSs.nox {st:List V0} (h:PSs X.nox st t):PSs X st t:=λzt s σ H D I hw =>
 wpAny_mono (h zt s σ H D (I.nV _) hw) (λ_ _ q=>q.iG) λ_ _ z=>Sa z
end
section
variable {st:V0}{rest:List V0}
def KC:TS:=λD σ H=>D.nx σ H
def KG (t u:TS):TS:=λD σ H=>t { D with nx:=u D } σ H
theorem C4:PSs X [] KC:=λ_ _ σ H _ I h=>UZ ⟨σ,H,I,h⟩
theorem qW (h1:PS X st t) (h2:PSs X rest u):PSs X (st::rest) (KG t u):=by
 intro zt s σ H D I h;refine UU (thn (h1 zt s σ H { D with nx:=u D } I h) λf s1 q=>?_);cases f with
 | next =>
  obtain ⟨σ',H',I',q⟩:=q;exact h2 zt s1 σ' H' D I' q
 | _=>exact q
theorem lV (h1:PS X st t):PSs X [st] t:=by
 intro zt s σ H D I h;refine UU (thn (h1 zt s σ H D I h) λf s1 q=>?_);cases f with
 | next=>exact UZ q| _=>exact q
def GY:TS:=λD σ H=>D.bk σ H
def KH:TS:=λD σ H=>D.ct σ H
theorem y9:PS X (.Break pos) GY:=λ_ _ σ H _ I h=>wpAny_Break ⟨σ,H,I,h⟩
theorem qX:PS X (.Continue pos) KH:=λ_ _ σ H _ I h=>wpAny_Continue ⟨σ,H,I,h⟩
theorem Inv.quiet (I:Inv X zt σ H s):interactive X.env=X0:=by simp[interactive,I.ok.kind]
def KI (te:TE):TS:=λD σ H=>te σ H λ_ H1=>D.nx σ H1
theorem C6 (he:PE X e te) (hs:U0 e XY pos.line X.env=pure X0:=by rfl):PS X (.Expr e pos) (KI te):=by intro zt s σ H D I h;exact wpAny_Expr_any (thn (he zt s σ H _ I h) λv s1 ⟨x,H1,I1,r1,q1⟩=>⟨σ,H1,I1,q1⟩) I.quiet hs
def Ou (te:TE):TS:=λD σ H=>te σ H D.rt
theorem tT (he:PE X e te):PS X (.Return (XX e) pos) (Ou te):=by intro zt s σ H D I h;exact wpAny_Return_some (thn (he zt s σ H _ I h) λv s1 ⟨x,H1,I1,r1,q1⟩=>⟨x,σ,H1,I1,r1,q1⟩)
def Ow (c:TT) (t u:TS):TS:=λD σ H=>c σ H λb H1=>if b=XZ then t D σ H1 else u D σ H1
theorem KJ (hc:PT X c tc) (ha:PSs X a t) (hb:PSs X b u):PS X (.If c a b pos) (Ow tc t u):=by
 intro zt s σ H D I h;refine wpAny_If (thn (hc zt s σ H _ I h) λd s1 zq=>?_);obtain ⟨H1,I1,q1⟩:=zq;cases d with
 | true=>exact ha zt s1 σ H1 D I1 q1| false=>exact hb zt s1 σ H1 D I1 q1
end
abbrev TG:=V->St->Hp->(St->Hp->Prop)->Prop
abbrev TGs:=List V->St->Hp->(St->Hp->Prop)->Prop
def PG (X:Cx) (target:Expr) (t:TG):Prop :=
 ∀ (zt:List (Z0×Obj)) (s:Rv) (σ:St) (H:Hp) (v:V) (u:Z1) (Q:St->Hp->Prop),Inv X zt σ H s->RelV v u->t v σ H Q →
  ZY (RV X.prog X.w) X.A (WS target X.env u) (λ_ s'=>∃ σ' H',Inv X zt σ' H' s'/\Q σ' H') X.xe s
def PGs (X:Cx) (ts:List Expr) (t:TGs):Prop :=
 ∀ (zt:List (Z0×Obj)) (s:Rv) (σ:St) (H:Hp) (vs:List V) (us:List Z1) (Q:St->Hp->Prop),Inv X zt σ H s->av vs us->t vs σ H Q →
  ZY (RV X.prog X.w) X.A (assignInOrder ((VR ts X.env).map (·.2)) us) (λ_ s'=>∃ σ' H',Inv X zt σ' H' s'/\Q σ' H') X.xe s
abbrev KM:=V->V->V->Hp->(Hp->Prop)->Prop
def GZ (X:Cx) (t:KM):Prop :=
 ∀ (zt:List (Z0×Obj)) (s:Rv) (σ:St) (H:Hp) (o i v:V) (ov iv u:Z1) (Q:Hp->Prop),Inv X zt σ H s->RelV o ov->RelV i iv->RelV v u->t o i v H Q →
  ZY (RV X.prog X.w) X.A (setItem ov iv u) (λ_ s'=>∃ H',Inv X zt σ H' s'/\Q H') X.xe s
abbrev TIp:=V->V->Hp->VK->Prop
def PIp (X:Cx) (op:VT) (t:TIp):Prop :=
 ∀ (zt:List (Z0×Obj)) (s:Rv) (σ:St) (H:Hp) (x y:V) (v u:Z1) (Q:VK),Inv X zt σ H s->RelV x v->RelV y u->t x y H Q →
  ZY (RV X.prog X.w) X.A (inplaceOp op v u) (EP X zt σ Q) X.xe s
section
def qY (i:Nat):TG:=λv σ H Q=>Q (σ.set i (XX v)) H
theorem pL (hN:X.N.Nodup) (hi:X.N[i]?=XX x) (hx:Loc X.env.scope x) (hf:X.fn x=XZ\/X.env.scope.names.lookup x=XX .local:=by first|exact .inl rfl|exact .inr rfl|assumption):PG X (.Name x pos) (qY i):=by intro zt s σ H v u Q I r h;exact wpAny_assign_Name (mD I hN hi hx r (λs' I'=>⟨_,H,I',h⟩) hf)
def G0:TGs:=λvs σ H Q=>vs=[]/\Q σ H
def Gc (t:TG) (u:TGs):TGs:=λvs σ H Q=>∃ v r,vs=v::r/\t v σ H fun σ' H'=>u r σ' H' Q
theorem C7:PGs X [] G0:=by intro zt s σ H vs us Q I r h;obtain ⟨e,h⟩:=h;subst e;cases r;exact assignInOrder_nil ⟨σ,H,I,h⟩
theorem qZ (h1:PG X e t) (h2:PGs X es u)
 (hs:(VR (e::es) X.env).map (·.2)=WS e X.env::(VR es X.env).map (·.2):=by rfl):PGs X (e::es) (Gc t u):=by
 intro zt s σ H vs us Q I r h;obtain ⟨v,vr,e1,h⟩:=h;subst e1;cases r with
 | cons r rr =>
  rw[hs];refine assignInOrder_cons (thn (h1 zt s σ H _ _ _ I r h) λ_ s1 zq=>?_);obtain ⟨σ1,H1,I1,q1⟩:=zq;exact h2 zt s1 σ1 H1 _ _ Q I1 rr q1
def Ox (K:Rm) (n:Nat) (t:TGs):TG:=λv σ H Q=>∃ a xs,v=.ref a/\SqT K H a xs/\xs.length=n/\t xs σ H Q
theorem G1 (hc:X.calm=XZ) (h:PGs X es t)
 (hn:(VR es X.env).length=n:=by rfl) (hst:(VR es X.env).findIdx? (·.1)=XY:=by rfl):PG X (.Tuple es k pos) (Ox X.K n t):=by
 intro zt s σ H v u Q I r hw;obtain ⟨a,xs,e1,hq,hl,hw⟩:=hw;subst e1;cases r;obtain ⟨its,rv,ht,hz⟩:=I.tuple hq;refine assign_Tuple_tuple (I.ok.hd hc) ht (by simp[hn,← hl,rv.length]) hst λh' hx=>?_;have I1:Inv X zt σ H { s with heap:=h' }:=I.kept (t':=s.toks) λb o e=>hx b o (Sk (RB e)) e;exact h zt _ σ H xs _ Q I1 (by simpa using rv) hw
def G4 (to ti:TE) (t:KM):TG:=λv σ H Q=>to σ H λo H1=>ti σ H1 λi H2=>t o i v H2 λH3=>Q σ H3
theorem za (ho:PE X o to) (hi:PE X i ti) (hs:GZ X t)
 (ha:∀ v,WS (.Subscript o i pos) X.env v=(do
  let ov ← holding [v] (eval o X.env)
  let iv ← holding [v,ov] (eval i X.env)
  standAt pos
  holding [v,ov,iv] (setItem ov iv v)
  release [v,ov,iv] []):=by intro _;rfl):PG X (.Subscript o i pos) (G4 to ti t):=by
 intro zt s σ H v u Q I r h;rw[ha];refine Rx (Ug (thn (ho zt s σ H _ I h) λov s1 zq=>?_));obtain ⟨x,H1,I1,r1,q1⟩:=zq;refine Rx (Ug (thn (hi zt s1 σ H1 _ I1 q1) λiv s2 zq=>?_));obtain ⟨y,H2,I2,r2,q2⟩:=zq;refine Rx (Xv (Rx (Ug (thn (hs zt s2 σ H2 x y v ov iv u _ I2 r1 r2 r q2) λ_ s3 zq=>?_))));obtain ⟨H3,I3,q3⟩:=zq;exact wpAny_release ⟨σ,H3,I3,q3⟩
def xm (te:TE) (g:TG):TS:=λD σ H=>te σ H λx H1=>g x σ H1 D.nx
theorem zb (he:PE X e te) (hg:PG X tg g) (hs:swapsWithSole [tg] e pos.line X.env=pure X0:=by rfl) (hw:swappedStores [tg] e X.env=pure XY:=by rfl)
 (h1:(VR [tg] X.env).map (·.2)=[WS tg X.env]:=by rfl):PS X (.Assign [tg] e pos) (xm te g):=by
 intro zt s σ H D I h;refine wpAny_Assign_stores (thn (he zt s σ H _ I h) λv s1 ⟨x,H1,I1,r1,q1⟩=>?_) hs hw;rw[h1];exact thn (hg zt s1 σ H1 x v _ I1 r1 q1) λ_ s2 q=>q
theorem tU (hN:X.N.Nodup) (hi:X.N[i]?=XX x) (hx:Loc X.env.scope x) (he:PE X e te) (hs:U0 e (XX (.Name x pos')) pos.line X.env=pure X0:=by rfl) (hf:X.fn x=XZ\/X.env.scope.names.lookup x=XX .local:=by first|exact .inl rfl|exact .inr rfl|assumption) :
 PS X (.Assign [.Name x pos'] e pos) (xm te (qY i)):=by
 intro zt s σ H D I h;refine wpAny_Assign_Name (thn (he zt s σ H _ I h) λv s1 ⟨y,H1,I1,r1,q1⟩=>?_) hs;exact mD I1 hN hi hx r1 (λs2 I2=>⟨_,H1,I2,q1⟩) hf
def KN (i:Nat) (te:TE) (ti:TIp):TS:=λD σ H=>∃ x,σ[i]?=XX (XX x)/\te σ H λy H1=>ti x y H1 λz H2=>D.nx (σ.set i (XX z)) H2
theorem G5 (hN:X.N.Nodup) (hi:X.N[i]?=XX x) (hx:Loc X.env.scope x) (he:PE X e te) (ho:PIp X op ti) (hf:X.fn x=XZ\/X.env.scope.names.lookup x=XX .local:=by first|exact .inl rfl|exact .inr rfl|assumption) :
 PS X (.AugAssign (.Name x pos') op e pos) (KN i te ti):=by
 intro zt s σ H D I h;obtain ⟨v,e1,h⟩:=h;obtain ⟨m,hn,hl⟩:=I.loc;have vis:Vis X.env.scope x:=by rcases hx with k|k;exact .inl k;exact .inr (.inl k)
 obtain ⟨u,r,l⟩:=hl i x v hi e1 vis;refine wpAny_AugAssign_Name ?_;have go:ZY (RV X.prog X.w) X.A (eval e X.env) (λw s₂=>ZY (RV X.prog X.w) X.A (inplaceOp op u w) (λr s₃=>ZY (RV X.prog X.w) X.A (storeName X.env x r) (λ_=>SP X zt D .next) X.xe s₃) X.xe s₂) X.xe s:=by refine thn (he zt s σ H _ I h) λw s1 zq=>?_;obtain ⟨y,H1,I1,r1,q1⟩:=zq;refine thn (ho zt s1 σ H1 v y u w _ I1 r r1 q1) λz s2 zq=>?_;obtain ⟨zv,H2,I2,r2,q2⟩:=zq;exact mD I2 hN hi hx r2 (λs3 I3=>⟨_,H2,I3,q2⟩) hf
 rcases l with ⟨hk,hm⟩|⟨hk,c,hc,hcell⟩
 exact wpAny_loadName_local I.ok.kind hk hn hm go
 ·rcases hk with hk|hk
  exact wpAny_loadName_cell I.ok.kind hk hc hcell go
  ·rcases hx with k|k
   ·have:X.env.scope.names.lookup x=XX .free:=hk;rw[k] at this;cases this
   ·have:X.env.scope.names.lookup x=XX .free:=hk;rw[k] at this;cases this
end
section
def zc (c:TT) (tb:TS):TS:=λD σ H=>∃ W:Nat->St->Hp->Prop,(∃ m,W m σ H)/\∀ m σ H,W m σ H →
 c σ H λb H1=>if b=XZ then ∃ N:St->Hp->Prop,(∀ σ' H',N σ' H'->∃ m',m' < m/\W m' σ' H')/\tb { D with nx:=N,ct:=N,bk:=D.nx } σ H1 else D.nx σ H1
theorem zd (hp:WW (RV X.prog X.w) X.A X.env X.xe) (hc:PT X c tc) (hb:PSs X body tb):PS X (.While c body [] pos) (zc tc tb):=by
 intro zt s σ H D I h;obtain ⟨W,⟨m0,w0⟩,turn⟩:=h;refine wpAny_While (codeAny_whileLoop (λn s'=>∃ σ' H',Inv X zt σ' H' s'/\W n σ' H') ?_ m0 ⟨σ,H,I,w0⟩)
 rintro n s1 ⟨σ1,H1,I1,w1⟩
 refine TU hp (thn (hc zt s1 σ1 H1 _ I1 (turn n σ1 H1 w1)) λb s2 zq=>?_);obtain ⟨H2,I2,q2⟩:=zq;cases b with
 | true =>
  obtain ⟨N,hN,q2⟩:=q2;rw[if_pos rfl];refine TU hp (thn (hb zt s2 σ1 H2 _ I2 q2) λf s3 q3=>?_);cases f with
  | next =>
   obtain ⟨σ3,H3,I3,n3⟩:=q3;obtain ⟨m',hm,w3⟩:=hN σ3 H3 n3;exact ⟨m',hm,σ3,H3,I3,w3⟩
  | cont =>
   obtain ⟨σ3,H3,I3,n3⟩:=q3;obtain ⟨m',hm,w3⟩:=hN σ3 H3 n3;exact ⟨m',hm,σ3,H3,I3,w3⟩
  | _=>exact q3
 | false =>
  rw[if_neg SZ];exact UZ ⟨σ1,H2,I2,q2⟩
end
structure It where
 go:Nat->Hp->Prop
 yld:Nat->Hp->V->Hp->Prop
 stop:Nat->Hp->Prop
def nW (X:Cx) (zt:List (Z0×Obj)) (H:Hp) (b:Z0):Prop :=
 H b=XY/\b≠X.env.locals/\b∉X.fs/\(b∈X.ex\/X.s₀.heap.objs.size<=b)/\(∀ x c,X.env.cells.lookup x=XX c->c≠b)/\∀ p∈X.pn++zt,p.1≠b
theorem Inv.C8 (I:Inv X zt σ H s) (hb:s.heap.objs.size<=b) (hn:H' b=XY):nW X zt H' b:=by
 refine ⟨hn,UY (Sb I.lt hb),I.Oo hb,.inr (Sj I.sz hb),λx c e z=>?_,λp hp z=>?_⟩
 ·obtain ⟨v,q⟩:=I.cell x c e;exact absurd (Sb q.lt (by rw[z];exact hb)) (Sw _)
 exact absurd (Sb (RB (I.pin p hp).1) (by rw[z];exact hb)) (Sw _)
structure Turn (P:Se) (w:SB) (K:Rm) (tg:Expr) (J:It) (fp:List Z0) (it:Z0) (tn:Nat->Heap->Prop):Prop where
 mem:it∈fp
 obj:∀ i h,tn i h->∀ b∈fp,∃ o,h.get? b=XX o/\∀ v,o.data≠.cell v
 keep:∀ i h h',tn i h->(∀ b∈fp,∀ o,h.get? b=XX o->h'.get? b=XX o)->tn i h'
 item:∀ (X:Cx),X.prog=P->X.w=w->X.K=K->X.calm=XZ->∀ (i:Nat) (zt:List (Z0×Obj)) (s:Rv) (σ:St) (H:Hp) (E:Z1->Rv->Prop),Inv X zt σ H s->(∀ b∈fp,nW X zt H b)->tn i s.heap->J.go i H →
  ZY (RV P w) X.A (pyNext (.ref it)) (λr s1=>∃ u,r=XX u ∧
   ZY (RV P w) X.A (VJ tg (.ref it) u) (λ_ s2=>∃ x H',Inv X zt σ H' s2/\RelV x u/\J.yld i H x H'/\tn (i+1) s2.heap/\∀ b∈fp,H' b=XY) E s1) E s
 done:∀ (X:Cx),X.prog=P->X.w=w->X.K=K->X.calm=XZ->∀ (i:Nat) (zt:List (Z0×Obj)) (s:Rv) (σ:St) (H:Hp) (E:Z1->Rv->Prop),Inv X zt σ H s->(∀ b∈fp,nW X zt H b)->tn i s.heap->J.stop i H →
  ZY (RV P w) X.A (pyNext (.ref it)) (λr s1=>r=XY/\Inv X zt σ H s1) E s
 self:∀ (A:TR) (i:Nat) (s:Rv) (Q:Z1->Rv->Prop) (E:Z1->Rv->Prop),tn i s.heap->Q (.ref it) s->ZY (RV P w) A (pyIter (.ref it)) Q E s
abbrev TI:=St->Hp->(It->Hp->Prop)->Prop
def PIE (X:Cx) (zt:List (Z0×Obj)) (σ:St) (tg:Expr) (R:It->Hp->Prop) (itv:Z1) (s2:Rv):Prop :=
 ∃ (it:Z0) (fp:List Z0) (tn:Nat->Heap->Prop) (J:It) (H':Hp),itv=.ref it/\Inv X zt σ H' s2/\Turn X.prog X.w X.K tg J fp it tn/\tn 0 s2.heap/\(∀ b∈fp,nW X zt H' b)/\R J H'
def PI (X:Cx) (tg iter:Expr) (wi:TI):Prop :=
 ∀ (zt:List (Z0×Obj)) (s:Rv) (σ:St) (H:Hp) (R:It->Hp->Prop),Inv X zt σ H s->wi σ H R →
  ZY (RV X.prog X.w) X.A (eval iter X.env) (λv s1=>ZY (RV X.prog X.w) X.A (pyIter v) (PIE X zt σ tg R) X.xe s1) X.xe s
theorem vc {E:Z1->Rv->Prop} (ho:s.heap.get? it=XX o) (hc:o.cls=.type n) (hd:o.data=.fields vs)
 (hn:["enumerate","zip","dict_itemiterator","dict_reverseitemiterator","odict_iterator","itertools.zip_longest","itertools.pairwise"].contains n=X0) (hQ:Q () s):ZY M A (VJ tg (.ref it) u) Q E s:=by
 unfold VJ;cases tg<;>first
  | exact wpAny_pure hQ
  | (cases u<;>first
   | exact wpAny_pure hQ
   | (refine Rx (wpAny_load ho ?_)
      rw[hc,hd];show ZY M A (if (["enumerate","zip","dict_itemiterator","dict_reverseitemiterator","odict_iterator","itertools.zip_longest","itertools.pairwise"].contains n&&vs[0]?==XX (U3 _))=XZ then _ else _) Q E s;rw[if_neg (by intro h;rw[hn,Bool.false_and] at h;cases h)];exact wpAny_pure hQ))
noncomputable def Itl (K:Rm) (a:Z0):It :=
 ⟨λi H=>∃ xs x,SqL K H a xs/\xs[i]?=XX x,λi H x H'=>H'=H/\∀ xs,SqL K H a xs->xs[i]?=XX x,λi H=>∃ xs,SqL K H a xs/\xs.length<=i⟩
noncomputable def Itt (K:Rm) (a:Z0):It :=
 ⟨λi H=>∃ xs x,SqT K H a xs/\xs[i]?=XX x,λi H x H'=>H'=H/\∀ xs,SqT K H a xs->xs[i]?=XX x,λi H=>∃ xs,SqT K H a xs/\xs.length<=i⟩
noncomputable def Itr (lo:Int) (n:Nat):It:=⟨λi _=>i < n,λi H x H'=>H'=H/\x=.int (lo+i),λi _=>n<=i⟩
theorem xo {K:Rm} (a it:Z0):Turn P w K tg (Itl K a) [it] it (λi h=>h.IsListIter it a i) where
 mem:=by simp
 obj:=λi h st b hb=>by
  have e:b=it:=by simpa using hb
  subst e;obtain ⟨o,e,c,d⟩:=st;exact ⟨o,e,λv z=>by rw[d] at z;cases z⟩
 keep:=λi h h' st k=>st.at λo e=>k it (by simp) o e
 item:=by intro X hP hw hK hc i zt s σ H E I hf st hg;subst hP hw hK;obtain ⟨xs,x,hq,hx⟩:=hg;obtain ⟨its,rv,p,hz⟩:=I.list hq;obtain ⟨u,hu,ru⟩:=rv.get hx;obtain ⟨f0,f1,f2,f3,f4,f5⟩:=hf it (by simp);refine wpAny_pyNext_list_item st p.isList (x:=u) (by simpa using hu) λh' st' sb=>?_;have I1:Inv X zt σ H { s with heap:=h' }:=I.turned (t':=s.toks) (λb o hb e=>(sb.2 b hb).trans e) f0 f1 f3 f4 f5;obtain ⟨o,e,c,d⟩:=id st';exact ⟨u,rfl,vc (s:={ s with heap:=h' }) e c d (by decide) ⟨x,H,I1,ru,⟨rfl,λys hy=>by rw[I.qV hy hq];exact hx⟩,st',λb hb=>(hf b hb).1⟩⟩
 done:=by intro X hP hw hK hc i zt s σ H E I hf st hg;subst hP hw hK;obtain ⟨xs,hq,hx⟩:=hg;obtain ⟨its,rv,p,hz⟩:=I.list hq;obtain ⟨f0,f1,f2,f3,f4,f5⟩:=hf it (by simp);have hl:=rv.length;exact wpAny_pyNext_list_end (I.ok.hd hc) st p.isList (by simp;lia) λh' eb=>⟨rfl,I.turned (t':=s.toks) (λb o hb e=>eb b o hb e) f0 f1 f3 f4 f5⟩
 self:=λ_ _ _ _ _ st h=>wpAny_pyIter_listiter st h
theorem tV {K:Rm} (a it:Z0):Turn P w K tg (Itt K a) [it] it (λi h=>h.IsTupleIter it a i) where
 mem:=by simp
 obj:=λi h st b hb=>by
  have e:b=it:=by simpa using hb
  subst e;obtain ⟨o,e,c,d⟩:=st;exact ⟨o,e,λv z=>by rw[d] at z;cases z⟩
 keep:=λi h h' st k=>st.at λo e=>k it (by simp) o e
 item:=by intro X hP hw hK hc i zt s σ H E I hf st hg;subst hP hw hK;obtain ⟨xs,x,hq,hx⟩:=hg;obtain ⟨its,rv,p,hz⟩:=I.tuple hq;obtain ⟨u,hu,ru⟩:=rv.get hx;obtain ⟨f0,f1,f2,f3,f4,f5⟩:=hf it (by simp);refine wpAny_pyNext_tuple_item st (show s.heap.IsTuple a its.toArray from p) (x:=u) (by simpa using hu) λh' st' sb=>?_;have I1:Inv X zt σ H { s with heap:=h' }:=I.turned (t':=s.toks) (λb o hb e=>(sb.2 b hb).trans e) f0 f1 f3 f4 f5;obtain ⟨o,e,c,d⟩:=id st';exact ⟨u,rfl,vc (s:={ s with heap:=h' }) e c d (by decide) ⟨x,H,I1,ru,⟨rfl,λys hy=>by rw[I.xj hy hq];exact hx⟩,st',λb hb=>(hf b hb).1⟩⟩
 done:=by intro X hP hw hK hc i zt s σ H E I hf st hg;subst hP hw hK;obtain ⟨xs,hq,hx⟩:=hg;obtain ⟨its,rv,p,hz⟩:=I.tuple hq;obtain ⟨f0,f1,f2,f3,f4,f5⟩:=hf it (by simp);have hl:=rv.length;exact wpAny_pyNext_tuple_end (I.ok.hd hc) st (show s.heap.IsTuple a its.toArray from p) (by simp;lia) λh' eb=>⟨rfl,I.turned (t':=s.toks) (λb o hb e=>eb b o hb e) f0 f1 f3 f4 f5⟩
 self:=λ_ _ _ _ _ st h=>wpAny_pyIter_tupleiter st h
theorem tW {K:Rm} (it:Z0) (lo:Int) (n:Nat):Turn P w K tg (Itr lo n) [it] it (λi h=>IsRangeIter h it (lo+(i:Nat)*1) ((n:Int) - (i:Nat)) 1) where
 mem:=by simp
 obj:=λi h st b hb=>by
  have e:b=it:=by simpa using hb
  subst e;exact ⟨_,st,λv z=>by have z':Data.fields _=Data.cell v:=z;cases z'⟩
 keep:=λi h h' st k=>k it (by simp) _ st
 item:=by intro X hP hw hK hc i zt s σ H E I hf st hg;subst hP hw hK;obtain ⟨f0,f1,f2,f3,f4,f5⟩:=hf it (by simp);have W:=Walks.range (prog:=X.prog) (w:=X.w) (I.ok.hd hc) it lo 1 n;refine W.item i s _ _ hg st λv h' tk hv st' kk=>?_;obtain ⟨t,rfl⟩:=hv;have I1:Inv X zt σ H { s with heap:=h',toks:=tk }:=I.turned (λb o hb e=>kk b o (by simpa using hb) e) f0 f1 f3 f4 f5;refine ⟨_,rfl,vc (s:={ s with heap:=h',toks:=tk }) (n:="range_iterator") st' rfl rfl (by decide) ⟨.int (lo+i),H,I1,⟨t,?_⟩,⟨rfl,rfl⟩,st',λb hb=>(hf b hb).1⟩⟩;rw[Int.mul_one]
 done:=by intro X hP hw hK hc i zt s σ H E I hf st hg;subst hP hw hK;obtain ⟨f0,f1,f2,f3,f4,f5⟩:=hf it (by simp);exact wpAny_pyNext_range_end (I.ok.hd hc) st (by have:n<=i:=hg;lia) λh' eb=>⟨rfl,I.turned (t':=s.toks) (λb o hb e=>eb b o hb e) f0 f1 f3 f4 f5⟩
 self:=λ_ _ _ _ _ st h=>wpAny_pyIter_rangeiter st h
end L2
namespace L2
open PySem PySem.Spec PyProof.Rows
section
def KO (K:Rm) (tl:TE):TI:=fun σ H R=>tl σ H λx H1=>∃ a,x=.ref a/\(∃ xs,SqL K H1 a xs)/\R (Itl K a) H1
def Oz (K:Rm) (tl:TE):TI:=fun σ H R=>tl σ H λx H1=>∃ a,x=.ref a/\(∃ xs,SqT K H1 a xs)/\R (Itt K a) H1
theorem vd (hl:PE X l tl):PI X tg l (KO X.K tl):=by
 intro zt s σ H R I h;refine thn (hl zt s σ H _ I h) λv s1 zq=>?_;obtain ⟨x,H1,I1,r1,q1⟩:=zq;obtain ⟨a,e,⟨xs,hq⟩,q⟩:=q1;subst e;cases r1;obtain ⟨its,rv,p,hz⟩:=I1.list hq;refine wpAny_pyIter_list p.isList ?_;refine ⟨s1.heap.objs.size,[s1.heap.objs.size],_,_,H1,rfl,I1.kept (t':=s1.toks) λb o e=>Ro _ e,xo a _,⟨_,RT _ rfl,rfl,rfl⟩,λb hb=>?_,q⟩;have e:b=s1.heap.objs.size:=by simpa using hb
 subst e;exact I1.C8 (Rq _) (I1.hok.fresh (Rq _))
theorem G6 (hl:PE X l tl):PI X tg l (Oz X.K tl):=by
 intro zt s σ H R I h;refine thn (hl zt s σ H _ I h) λv s1 zq=>?_;obtain ⟨x,H1,I1,r1,q1⟩:=zq;obtain ⟨a,e,⟨xs,hq⟩,q⟩:=q1;subst e;cases r1;obtain ⟨its,rv,p,hz⟩:=I1.tuple hq;refine wpAny_pyIter_tuple (show s1.heap.IsTuple a its.toArray from p) ?_;refine ⟨s1.heap.objs.size,[s1.heap.objs.size],_,_,H1,rfl,I1.kept (t':=s1.toks) λb o e=>Ro _ e,tV a _,⟨_,RT _ rfl,rfl,rfl⟩,λb hb=>?_,q⟩;have e:b=s1.heap.objs.size:=by simpa using hb
 subst e;exact I1.C8 (Rq _) (I1.hok.fresh (Rq _))
theorem rj {E:Z1->Rv->Prop}{lo:Int} (I:Inv X zt σ H s) (h1:-(2 ^ 62)<=lo) (h2:lo < 2 ^ 62) (h3:-(2 ^ 62)<=hi) (h4:hi < 2 ^ 62)
 (q:R (Itr lo (hi - lo).toNat) H):ZY (RV X.prog X.w) X.A (pyIter (.ref s.heap.objs.size)) (PIE X zt σ tg R) E { s with heap:=s.heap.push { cls:=.type "range",data:=.fields #[.int lo t,.int hi u,.int 1 v] },toks:=tk }:=by
 refine wpAny_pyIter_range (WY ..) (small_one h1 h2 h3 h4) ?_;have I1:Inv X zt σ H { s with heap:=s.heap.push { cls:=.type "range",data:=.fields #[.int lo t,.int hi u,.int 1 v] },toks:=tk }:=I.kept λb o e=>Ro _ e;refine ⟨(s.heap.push { cls:=.type "range",data:=.fields #[.int lo t,.int hi u,.int 1 v] }).objs.size,[(s.heap.push { cls:=.type "range",data:=.fields #[.int lo t,.int hi u,.int 1 v] }).objs.size],_,_,H,rfl,
  I1.kept (t':=tk) λb o e=>Ro _ e,tW _ lo (hi - lo).toNat,?_,λb hb=>?_,q⟩
 ·have e1:lo+((0:Nat):Int)*1=lo:=by simp
  have e2:(((hi - lo).toNat:Nat):Int) - ((0:Nat):Int)=Builtin.Range.rangeSize lo hi 1:=by rw[XA];split<;>lia
  show IsRangeIter _ _ (lo+((0:Nat):Int)*1) ((((hi - lo).toNat:Nat):Int) - ((0:Nat):Int)) 1;rw[e1,e2];exact RT _ rfl
 ·have e:b=(s.heap.push { cls:=.type "range",data:=.fields #[.int lo t,.int hi u,.int 1 v] }).objs.size:=by simpa using hb
  subst e;exact I1.C8 (Rq _) (I1.hok.fresh (Rq _))
def KP (ta:TA):TI:=fun σ H R=>ta σ H λvs H1=>∃ j:Int,vs=[.int j]/\-(2 ^ 62)<=j/\j < 2 ^ 62/\R (Itr 0 j.toNat) H1
def KQ (ta:TA):TI:=fun σ H R=>ta σ H λvs H1=>∃ i j:Int,vs=[.int i,.int j]/\(-(2 ^ 62)<=i/\i < 2 ^ 62/\-(2 ^ 62)<=j/\j < 2 ^ 62)/\R (Itr i (j - i).toNat) H1
theorem xq (hg:Gl X "range") (hm:X.mg "range"=XY) (ha:PA X [a] ta) (hs:RX [a] X.env=[(X0,eval a X.env)]:=by rfl):PI X tg (.Call (.Name "range" p) [a] [] pos) (KP ta):=by
 intro zt s σ H R I h;refine Call_ (dI I hg hm boot_range (R0 (thn (ha pos zt s σ H _ I h) λus s1 ⟨vs,H1,I1,r1,q1⟩=>?_) hs rfl));obtain ⟨j,e,q1,q2,q⟩:=q1;subst e;cases r1 with
 | cons r rr =>
  cases rr;obtain ⟨t,rfl⟩:=r;exact call_range_1 (rj I1 (by lia) (by lia) q1 q2 (by simpa using q))
theorem xr (hg:Gl X "range") (hm:X.mg "range"=XY) (ha:PA X [a,b] ta) (hs:RX [a,b] X.env=[(X0,eval a X.env),(X0,eval b X.env)]:=by rfl) (hs2:RX [b] X.env=[(X0,eval b X.env)]:=by rfl) :
 PI X tg (.Call (.Name "range" p) [a,b] [] pos) (KQ ta):=by
 intro zt s σ H R I h;refine Call_ (dI I hg hm boot_range (R0 (thn (ha pos zt s σ H _ I h) λus s1 ⟨vs,H1,I1,r1,q1⟩=>?_) (by rw[hs,hs2]) (by rw[hs2];rfl)));obtain ⟨i,j,e,⟨q1,q2,q3,q4⟩,q⟩:=q1;subst e;cases r1 with
 | cons r rr =>
  cases rr with
  | cons r' rr =>
   cases rr;obtain ⟨t,rfl⟩:=r;obtain ⟨t',rfl⟩:=r';exact call_range_2 (rj I1 q1 q2 q3 q4 q)
def KR (wi:TI) (g:TG) (tb:TS):TS:=λD σ H=>wi σ H λJ H1=>∃ W:Nat->Nat->St->Hp->Prop,(∃ m,W 0 m σ H1)/\∀ i m σ H,W i m σ H →
 (J.stop i H/\D.nx σ H)\/(J.go i H/\∃ N:St->Hp->Prop,(∀ σ' H',N σ' H'->∃ m',m' < m/\W (i+1) m' σ' H')/\∀ x H',J.yld i H x H'->g x σ H' fun σ2 H2=>tb { D with nx:=N,ct:=N,bk:=D.nx } σ2 H2)
noncomputable def kM (fp:List Z0) (h:Heap):List (Z0×Obj):=fp.filterMap λb=>(h.get? b).map λo=>(b,o)
theorem gH (hb:b∈fp) (e:h.get? b=XX o):(b,o)∈kM fp h:=List.mem_filterMap.mpr ⟨b,hb,by rw[e];rfl⟩
theorem xu (hp:p∈kM fp h):p.1∈fp/\h.get? p.1=XX p.2:=by
 obtain ⟨b,hb,e⟩:=List.mem_filterMap.mp hp;cases q:h.get? b with
 | none=>rw[q] at e;cases e
 | some o =>
  rw[q] at e;have e':(b,o)=p:=Ry e;subst e';exact ⟨hb,q⟩
theorem Inv.pinned (I:Inv X zt σ H s) (hf:∀ b∈fp,nW X zt H b) (ho:∀ b∈fp,∃ o,s.heap.get? b=XX o/\∀ v,o.data≠.cell v):Inv X (zt++kM fp s.heap) σ H s :=
 I.lU λp hp=>(List.mem_append.mp hp).elim (λz=>I.pin p (Sh _ z)) λz=>by obtain ⟨hb,e⟩:=xu z;obtain ⟨f0,f1,f2,_⟩:=hf p.1 hb;obtain ⟨o,e',d⟩:=ho p.1 hb;rw[e] at e';cases e';exact ⟨e,f0,f1,f2,d⟩
theorem Inv.jM (I:Inv X (zt++pl) σ H s):Inv X zt σ H s:=I.lU λp hp=>I.pin p (Sh _ (SM _ hp))
theorem G7 {wi:TI} (hp:WW (RV X.prog X.w) X.A X.env X.xe) (hc:X.calm=XZ) (hi:PI X tg iter wi) (hg:PG X tg g) (hb:PSs X body tb)
 (hs:∀ x,foldedSetIterable iter X.env x=pure x:=by intro _;rfl):PS X (.For tg iter body [] pos) (KR wi g tb):=by
 intro zt s σ H D I h;refine wpAny_For (thn (hi zt s σ H _ I h) λv s1 h1=>thn h1 λitv s2 h2=>?_) hs;obtain ⟨it,fp,tn,J,H2,e,I2,T,st2,f2,W,⟨m0,w0⟩,turn⟩:=h2;subst e;have stat:∀ {H':Hp},(∀ b∈fp,H' b=XY)->∀ b∈fp,nW X zt H' b:=λhn b hb=>⟨hn b hb,(f2 b hb).2⟩;refine codeAny_forLoop_any (λn s'=>∃ i σ' H',Inv X zt σ' H' s'/\tn i s'.heap/\(∀ b∈fp,H' b=XY)/\W i n σ' H') ?_ m0 ⟨0,σ,H2,I2,st2,λb hb=>(f2 b hb).1,w0⟩
 rintro n s3 ⟨i,σ3,H3,I3,st3,fr3,w3⟩
 rcases turn i n σ3 H3 w3 with ⟨stop,qn⟩|⟨go,N,hN,step⟩
 ·refine TU hp (thn (T.done X rfl rfl rfl hc i zt s3 σ3 H3 X.xe I3 (stat fr3) st3 stop) λr s4 zq=>?_);obtain ⟨hr,I4⟩:=zq;subst hr;exact UZ ⟨σ3,H3,I4,qn⟩
 ·refine TU hp (thn (T.item X rfl rfl rfl hc i zt s3 σ3 H3 X.xe I3 (stat fr3) st3 go) λr s4 zq=>?_);obtain ⟨u,hr,h4⟩:=zq;subst hr;refine TU hp (thn h4 λ_ s5 zq=>?_);obtain ⟨x,H5,I5,r5,y5,st5,fr5⟩:=zq;have I5':=I5.pinned (stat fr5) (T.obj _ _ st5);refine TU hp (thn (hg _ s5 σ3 H5 x u _ I5' r5 (step x H5 y5)) λ_ s6 zq=>?_);obtain ⟨σ6,H6,I6,q6⟩:=zq;refine TU hp (thn (hb _ s6 σ6 H6 _ I6 q6) λf s7 q7=>?_);have again:∀ {σ7:St}{H7:Hp},Inv X (zt++kM fp s5.heap) σ7 H7 s7->N σ7 H7->∃ m,m < n/\∃ i σ' H',Inv X zt σ' H' s7/\tn i s7.heap/\(∀ b∈fp,H' b=XY)/\W i m σ' H':=λ{σ7 H7} I7 n7=>by obtain ⟨m',hm,w7⟩:=hN σ7 H7 n7;refine ⟨m',hm,i+1,σ7,H7,I7.jM,T.keep _ _ _ st5 λb hb o e=>(I7.pin (b,o) (Sh _ (Sh _ (gH hb e)))).1,λb hb=>?_,w7⟩;obtain ⟨o,e,d⟩:=T.obj _ _ st5 b hb;exact (I7.pin (b,o) (Sh _ (Sh _ (gH hb e)))).2.1
  cases f with
  | brk=>obtain ⟨σ7,H7,I7,q7⟩:=q7;exact ⟨σ7,H7,I7.jM,q7⟩| ret v=>obtain ⟨x7,σ7,H7,I7,r7,q7⟩:=q7;exact ⟨x7,σ7,H7,I7.jM,r7,q7⟩| _=>obtain ⟨σ7,H7,I7,n7⟩:=q7;exact again I7 n7
end
end L2
namespace L2
open PySem PySem.Spec PyProof.Rows
abbrev R2:=V->V->Hp->VK->Prop
def OpR (X:Cx) (f:Z1->Z1->Sem Z1) (r:R2):Prop :=
 ∀ (zt:List (Z0×Obj)) (s:Rv) (σ:St) (H:Hp) (x y:V) (v u:Z1) (Q:VK),Inv X zt σ H s->RelV x v->RelV y u->r x y H Q →
  ZY (RV X.prog X.w) X.A (f v u) (EP X zt σ Q) X.xe s
def UnR (X:Cx) (f:Z1->Sem Z1) (r:V->Hp->VK->Prop):Prop :=
 ∀ (zt:List (Z0×Obj)) (s:Rv) (σ:St) (H:Hp) (x:V) (v:Z1) (Q:VK),Inv X zt σ H s->RelV x v->r x H Q →
  ZY (RV X.prog X.w) X.A (f v) (EP X zt σ Q) X.xe s
def cW (X:Cx) (f:Z1) (r:List V->Hp->VK->Prop):Prop :=
 ∀ (zt:List (Z0×Obj)) (s:Rv) (σ:St) (H:Hp) (xs:List V) (us:List Z1) (Q:VK),Inv X zt σ H s->av xs us->r xs H Q →
  ZY (RV X.prog X.w) X.A (call f us) (EP X zt σ Q) X.xe s
def tOp (r:R2) (ta tb:TE):TE:=fun σ H Q=>ta σ H λx H1=>tb σ H1 λy H2=>r x y H2 Q
def tUn (r:V->Hp->VK->Prop) (ta:TE):TE:=fun σ H Q=>ta σ H λx H1=>r x H1 Q
def rI (C:Int->Int->Prop) (g:Int->Int->V):R2:=λx y H Q=>∃ i j,x=.int i/\y=.int j/\C i j/\Q (g i j) H
def rI0 (g:Int->Int->V):R2:=λx y H Q=>∃ i j,x=.int i/\y=.int j/\Q (g i j) H
def rU (g:Int->V):V->Hp->VK->Prop:=λx H Q=>∃ i,x=.int i/\Q (g i) H
section
theorem G8 (ha:PE X a ta) (hb:PE X b tb) {zt:List (Z0×Obj)}{s:Rv}{σ:St}{H:Hp}{R:V->V->Hp->Prop} (I:Inv X zt σ H s)
 (h:ta σ H λx H1=>tb σ H1 λy H2=>R x y H2) {Q:Z1->Rv->Prop}{f:Z1->Z1->Sem Z1}
 (hf:∀ v u s2 x y H2,Inv X zt σ H2 s2->RelV x v->RelV y u->R x y H2->ZY (RV X.prog X.w) X.A (f v u) Q X.xe s2) :
 ZY (RV X.prog X.w) X.A (eval a X.env) (λv s₁=>ZY (RV X.prog X.w) X.A (eval b X.env) (λu s₂=>ZY (RV X.prog X.w) X.A (f v u) Q X.xe s₂) X.xe s₁) X.xe s:=by
 refine thn (ha zt s σ H _ I h) λv s1 zq=>?_;obtain ⟨x,H1,I1,r1,q1⟩:=zq;refine thn (hb zt s1 σ H1 _ I1 q1) λu s2 zq=>?_;obtain ⟨y,H2,I2,r2,q2⟩:=zq;exact hf v u s2 x y H2 I2 r1 r2 q2
theorem Gd {op:VT}{r:R2} (ho:OpR X (Tc op) r) (ha:PE X a ta) (hb:PE X b tb):PE X (.BinOp a op b pos) (tOp r ta tb):=by intro zt s σ H Q I h;exact wpAny_BinOp (G8 ha hb I h λv u s2 x y H2 I2 rx ry q=>ho zt s2 σ H2 x y v u Q I2 rx ry q)
theorem Ge (ho:UnR X (unaryOp op) r) (ha:PE X a ta):PE X (.UnaryOp op a pos) (tUn r ta):=by intro zt s σ H Q I h;exact UnaryOp_ (thn (ha zt s σ H _ I h) λv s1 ⟨x,H1,I1,r1,q1⟩=>ho zt s1 σ H1 x v Q I1 r1 q1)
theorem opI {f:Z1->Z1->Sem Z1}{C:Int->Int->Prop}{g:Int->Int->Int}
 (rule:∀ (i j:Int) (t u:Tok) (s:Rv) (Q:Z1->Rv->Prop) (E:Z1->Rv->Prop),C i j->Q (.int (g i j) s.toks) { s with toks:=s.toks+1 }->ZY (RV X.prog X.w) X.A (f (.int i t) (.int j u)) Q E s) :
 OpR X f (rI C λi j=>.int (g i j)):=by
 intro zt s σ H x y v u Q I rx ry h;obtain ⟨i,j,rfl,rfl,hc,q⟩:=h;obtain ⟨t,rfl⟩:=rx;obtain ⟨t',rfl⟩:=ry;exact rule i j t t' s _ _ hc ⟨.int (g i j),H,I.tok _,⟨_,rfl⟩,q⟩
theorem KS {f:Z1->Z1->Sem Z1}{g:Int->Int->Int}
 (rule:∀ (i j:Int) (t u:Tok) (s:Rv) (Q:Z1->Rv->Prop) (E:Z1->Rv->Prop),Q (.int (g i j) s.toks) { s with toks:=s.toks+1 }->ZY (RV X.prog X.w) X.A (f (.int i t) (.int j u)) Q E s) :
 OpR X f (rI0 λi j=>.int (g i j)):=by
 intro zt s σ H x y v u Q I rx ry h;obtain ⟨i,j,rfl,rfl,q⟩:=h;obtain ⟨t,rfl⟩:=rx;obtain ⟨t',rfl⟩:=ry;exact rule i j t t' s _ _ ⟨.int (g i j),H,I.tok _,⟨_,rfl⟩,q⟩
theorem C9 {f:Z1->Z1->Sem Z1}{g:Int->Int->Bool}
 (rule:∀ (i j:Int) (t u:Tok) (s:Rv) (Q:Z1->Rv->Prop) (E:Z1->Rv->Prop),Q (.bool (g i j)) s->ZY (RV X.prog X.w) X.A (f (.int i t) (.int j u)) Q E s) :
 OpR X f (rI0 λi j=>.bl (g i j)):=by
 intro zt s σ H x y v u Q I rx ry h;obtain ⟨i,j,rfl,rfl,q⟩:=h;obtain ⟨t,rfl⟩:=rx;obtain ⟨t',rfl⟩:=ry;exact rule i j t t' s _ _ ⟨.bl (g i j),H,I,rfl,q⟩
def OA (i j:Int):Prop:=0 < j/\j < 1073741824
def OB (i j:Int):Prop:=0<=j/\j<=1000000/\i.natAbs < 2 ^ 64
def Dc (i j:Int):Prop:=(-(2 ^ 64) < i/\i < 2 ^ 64)\/(-(2 ^ 64) < j/\j < 2 ^ 64)
theorem Dc.ok (h:Dc i j):IntMulOk i j:=by
 rcases h with ⟨h1,h2⟩|⟨h1,h2⟩
 exact .of_left (intBits_le_64 h1 h2);exact .of_right (intBits_le_64 h1 h2)
theorem G9:OpR X (Tc .Add) (rI0 λi j=>.int (i+j)):=KS λ_ _ _ _ _ _ _ q=>add_int q
theorem Hf:OpR X (Tc .Sub) (rI0 λi j=>.int (i - j)):=KS λ_ _ _ _ _ _ _ q=>sub_int q
theorem Hg:OpR X (Tc .Mult) (rI Dc λi j=>.int (i*j)):=opI λ_ _ _ _ _ _ _ hc q=>mul_int q hc.ok
theorem De:OpR X (Tc .FloorDiv) (rI OA λi j=>.int (i / j)):=opI λi j _ _ _ _ _ hc q=>by have h1:(0:Int) < j:=hc.1;have h2:j < 1073741824:=hc.2;exact floordiv_int (by lia) (by rw[Int.fdiv_eq_ediv_of_nonneg i (by lia)];exact q) (.inl (PyProof.noPylong_small (by lia)))
theorem Hh:OpR X (Tc .Mod) (rI (λ_ j=>0 < j) λi j=>.int (i % j)):=opI λi j _ _ _ _ _ hc q=>by have h1:(0:Int) < j:=hc;exact mod_int' (by lia) (by rw[Int.fmod_eq_emod_of_nonneg i (by lia)];exact q)
theorem Hi:OpR X (Tc .Pow) (rI OB λi j=>.int (i ^ j.toNat)):=opI λ_ _ _ _ _ _ _ hc q=>pow_int_small hc.1 hc.2.1 hc.2.2 q
theorem unI {f:Z1->Sem Z1}{g:Int->Int}
 (rule:∀ (i:Int) (t:Tok) (s:Rv) (Q:Z1->Rv->Prop) (E:Z1->Rv->Prop),Q (.int (g i) s.toks) { s with toks:=s.toks+1 }->ZY (RV X.prog X.w) X.A (f (.int i t)) Q E s) :
 UnR X f (rU λi=>.int (g i)):=by
 intro zt s σ H x v Q I rx h;obtain ⟨i,rfl,q⟩:=h;obtain ⟨t,rfl⟩:=rx;exact rule i t s _ _ ⟨.int (g i),H,I.tok _,⟨_,rfl⟩,q⟩
theorem ze:UnR X (unaryOp .USub) (rU λi=>.int (-i)):=unI λ_ _ _ _ _ q=>neg_int q
end
section
theorem zf (I:Inv X zt σ H s) (q:Q (.bl k) H) (e:k=k'):EP X zt σ Q (.bool k') s:=by subst e;exact ⟨.bl k,H,I,rfl,q⟩
theorem KU:OpR X (SK .Lt) (rI0 λi j=>.bl (decide (i < j))):=C9 λ_ _ _ _ _ _ _ q=>lt_int q
theorem KW:OpR X (SK .LtE) (rI0 λi j=>.bl (decide (i<=j))):=C9 λ_ _ _ _ _ _ _ q=>le_int q
theorem KY:OpR X (SK .Gt) (rI0 λi j=>.bl (decide (j < i))):=C9 λ_ _ _ _ _ _ _ q=>gt_int q
theorem KZ:OpR X (SK .GtE) (rI0 λi j=>.bl (decide (j<=i))):=C9 λ_ _ _ _ _ _ _ q=>ge_int q
theorem Hj:OpR X (SK .Is) (λx y H Q=>y=.non/\Q (.bl (decide (x=.non))) H):=by
 intro zt s σ H x y v u Q I rx ry h;obtain ⟨rfl,q⟩:=h;cases ry;refine is_none_gen (zf I q ?_);cases x<;>first
  | (cases rx;rfl)
  | (obtain ⟨t,rfl⟩:=rx;rfl)
theorem Df:OpR X (SK .IsNot) (λx y H Q=>y=.non/\Q (.bl (!decide (x=.non))) H):=by
 intro zt s σ H x y v u Q I rx ry h;obtain ⟨rfl,q⟩:=h;cases ry;refine isnot_none_gen (zf I q ?_);cases x<;>first
  | (cases rx;rfl)
  | (obtain ⟨t,rfl⟩:=rx;rfl)
theorem Dg {op:CmpOp}{r:R2} (ho:OpR X (SK op) r) (ha:PE X a ta) (hb:PE X b tb) (hm:Vr op b=X0):PE X (.Compare a [op] [b] pos) (tOp r ta tb):=by intro zt s σ H Q I h;exact wpAny_Compare1 (G8 ha hb I h λv u s2 x y H2 I2 rx ry q=>ho zt s2 σ H2 x y v u Q I2 rx ry q) hm
def Gf (t:TE):TT:=fun σ H Q=>t σ H λx H'=>∃ k,x=.bl k/\Q k H'
theorem Dh (ho:OpR X (SK op) r) (ha:PE X a ta) (hb:PE X b tb) (hm:Vr op b=X0):PT X (.Compare a [op] [b] pos) (Gf (tOp r ta tb)):=by
 intro zt s σ H Q I h;refine VI (thn (ha zt s σ H _ I h) λv s1 ⟨x,H1,I1,r1,q1⟩=>thn (hb zt s1 σ H1 _ I1 q1) λu s2 ⟨y,H2,I2,r2,q2⟩ =>
  thn (ho zt s2 σ H2 x y v u _ I2 r1 r2 q2) λc s3 ⟨z,H3,I3,r3,k,e,q3⟩=>?_) hm
 subst e;cases r3;exact Ue ⟨H3,I3,q3⟩
def OD (r r':R2) (ta tb tc:TE):TE:=fun σ H Q=>ta σ H λx H1=>tb σ H1 λy H2=>r x y H2 λz H3=>∃ k,z=.bl k ∧
 (if k=XZ then tc σ H3 λw' H4=>r' y w' H4 Q else Q (.bl X0) H3)
theorem kN:(ZX:Nat) < 2 ^ 63:=by rw[V6];decide
theorem tX:OpR X (Tc .Add) (λx y H Q=>∃ i j,x=.str i/\y=.str j/\i.length+j.length<=ZX/\Q (.str (i++j)) H):=by intro zt s σ H x y v u Q I rx ry h;obtain ⟨i,j,rfl,rfl,hz,q⟩:=h;obtain ⟨t,rfl⟩:=rx;obtain ⟨t',rfl⟩:=ry;exact add_str (λt' tk=>⟨.str (i++j),H,I.tok _,⟨_,rfl⟩,q⟩) hz
theorem vals1 (r:av [x] us):∃ u,us=[u]/\RelV x u:=by
 cases r with
 | cons r1 r2=>cases r2;exact ⟨_,rfl,r1⟩
theorem vals2 (r:av [x,y] us):∃ u w',us=[u,w']/\RelV x u/\RelV y w':=by
 cases r with
 | cons r1 r2 =>
  cases r2 with
  | cons r3 r4=>cases r4;exact ⟨_,_,rfl,r1,r3⟩
theorem zg:cW X (.builtin "abs") (λxs H Q=>∃ i,xs=[.int i]/\Q (.int (if i < 0 then -i else i)) H):=by intro zt s σ H xs us Q I r h;obtain ⟨i,rfl,q⟩:=h;obtain ⟨u,rfl,t,rfl⟩:=vals1 r;exact call_abs_int λu tk=>⟨.int (if i < 0 then -i else i),H,I.tok _,⟨_,rfl⟩,q⟩
theorem xw (hc:X.calm=XZ):cW X (.builtin "max") (λxs H Q=>∃ i j,xs=[.int i,.int j]/\Q (.int (if j > i then j else i)) H):=by
 intro zt s σ H xs us Q I r h;obtain ⟨i,j,rfl,q⟩:=h;obtain ⟨u,w',rfl,⟨t,rfl⟩,⟨t',rfl⟩⟩:=vals2 r;refine max_two_ints (I.ok.hd hc) λh' tk k=>⟨_,H,I.kept k,?_,q⟩
 by_cases hj:j > i
 rw[if_pos hj,if_pos hj];exact ⟨_,rfl⟩;rw[if_neg hj,if_neg hj];exact ⟨_,rfl⟩
theorem xA (hc:X.calm=XZ):cW X (.builtin "min") (λxs H Q=>∃ i j,xs=[.int i,.int j]/\Q (.int (if j < i then j else i)) H):=by
 intro zt s σ H xs us Q I r h;obtain ⟨i,j,rfl,q⟩:=h;obtain ⟨u,w',rfl,⟨t,rfl⟩,⟨t',rfl⟩⟩:=vals2 r;refine min_two_ints (I.ok.hd hc) λh' tk k=>⟨_,H,I.kept k,?_,q⟩
 by_cases hj:j < i
 rw[if_pos hj,if_pos hj];exact ⟨_,rfl⟩;rw[if_neg hj,if_neg hj];exact ⟨_,rfl⟩
theorem oM:cW X (.type "int") (λxs H Q=>(∃ i,xs=[.int i]/\Q (.int i) H)\/∃ k,xs=[.bl k]/\Q (.int (if k then 1 else 0)) H):=by
 intro zt s σ H xs us Q I r h;rcases h with ⟨i,rfl,q⟩|⟨k,rfl,q⟩
 ·obtain ⟨u,rfl,t,rfl⟩:=vals1 r;exact call_int_int ⟨.int i,H,I,⟨_,rfl⟩,q⟩
 ·obtain ⟨u,rfl,r1⟩:=vals1 r;cases r1;exact call_int_bool ⟨.int (if k then 1 else 0),H,I.tok _,⟨_,rfl⟩,q⟩
end
end L2
namespace L2
open PySem PySem.Spec PyProof.Rows
structure tY (h:Heap) (x dx C:Z0) (mA:ZZ->Option Z1):Prop where
 obj:h.get? x=XX (TJ C dx)
 ns:h.Ns1 dx mA
 ne:dx≠x
theorem xE {h:Heap}{dx:Z0}{mA:ZZ->Option Z1} (n:h.Ns1 dx mA):∃ od,h.get? dx=XX od/\∀ name,Vp name od=XX (mA name):=by
 obtain ⟨o,es,ep,ho,hd,hk,_,hm⟩:=n;refine ⟨o,ho,λname=>?_⟩;have e:=hm name;unfold nsFind findBy at e;rw[← Array.find?_toList] at e;unfold Vp;rw[hd];dsimp only;split
 ·rename_i y q;rw[q] at e;exact congrArg XX e
 ·rename_i q;rw[q] at e;have a:es.toList.any (·.refKey)=X0:=by rw[List.any_eq_false];intro y hy;obtain ⟨z,t,hkey⟩:=hk y (Array.mem_toList_iff.mp hy);simp[DictEntry.refKey,hkey]
  have a':¬ es.toList.any (·.refKey)=XZ:=by rw[a];exact SZ
  rw[if_neg a'];exact congrArg XX e
theorem tY.look (I:tY h x dx C mA):∃ od,PySem.W.InstAt h x (TJ C dx) C (XX od)/\∀ name,Vp name od=XX (mA name) :=
 let ⟨od,ho,hl⟩:=xE I.ns
 ⟨od,⟨I.obj,rfl,rfl,ho⟩,hl⟩
section
variable {E:Z1->Rv->Prop}{K:Rm}
theorem get_map (X:K.In s.heap) (I:tY s.heap x dx C mA) (hg:UB K C name=XZ) (hh:T5 K C=XZ)
 (ha:Si K (.ref C) name=XX XY) (hv:mA name=XX v) (hv':Xn v=XZ) (h:Q v { s with toks:=s.toks+1 }) :
 ZY (RV prog w) A (getAttr (.ref x) name expr) Q E s:=by
 obtain ⟨od,J,hl⟩:=I.look;exact PySem.W.get_value X J (Vt hg).1 (PySem.W.findObj_own hh ha rfl (by rw[hl,hv])) hv' h
theorem zh (X:K.In s.heap) (I:tY s.heap x dx C mA) (hg:UB K C name=XZ)
 (hf:Si K (.ref C) name=XX (XX (.ref f))) (ht:VS K (.ref f)=XZ) (hv:mA name=XY) (h:Q (.ref f,[.ref x]) s) :
 ZY (RV prog w) A (Wi (.ref x) name pl) Q E s:=by
 obtain ⟨od,J,hl⟩:=I.look;exact PySem.W.method_fn X J (Vt hg).1 (Vt hg).2 hf (beq_iff_eq.mp ht) (by show (Vp name od).map (·.isSome)=XX X0;rw[hl,hv];rfl) h
theorem Di (X:K.In s.heap) (I:tY s.heap x dx C mA)
 (hs:Si K (.ref C) "__setattr__"=XX (XX (.builtin "object.__setattr__"))) (hp:VN K C=XZ) (ht:V8 K C name=XX XY) (hh:T5 K C=XZ)
 (hw:WT mA ns) (hsz:ns.length<=ZX)
 (h:∀ h',tY h' x dx C (λy=>if y=name then XX v else mA y)->Up dx s.heap h'->Q () { s with heap:=h',toks:=s.toks+2 }) :
 ZY (RV prog w) A (setAttr (.ref x) name v) Q E s:=by
 obtain ⟨od,J,hl⟩:=I.look;refine PySem.W.set_plain X J hs (PySem.W.osa_open (s:={ s with toks:=s.toks+1 }) (r:=XY) X J hp ht λb=>?_);obtain ⟨cd,hc,hd'⟩:=PySem.W.any_some hh;have hx:s.heap.get? x=XX ⟨.ref C,XX dx,.plain,#[]⟩:=I.obj;refine Rx (wpAny_pure (Rx (Rx (wpAny_loadPart hx (Rx (PySem.W.Looks.here (s:={ s with toks:=s.toks+1 }) (PySem.W.looks_clsIn X hc) ?_))))));rw[hd'];refine wpAny_pure (a:=XX dx) (Rx (wpAny_pure (Rx ?_)));refine wpAny_nsSet1 (s:={ s with toks:=s.toks+1 }) I.ns λh' hn2 hs2=>?_;obtain ⟨oD,esD,epD,hoD,hdD,hcD⟩:=hn2.count (PySem.Within.cons name v hw);refine Rx (wpAny_lookBehind hoD (by rw[hdD];exact pastItsLine_dict (Sj hcD (by rw[R6];lia))) ?_);exact wpAny_pure (h _ ⟨(hs2.2 _ (Ti I.ne)).trans I.obj,hn2,I.ne⟩ hs2)
theorem zj (X:K.In s.heap) (hm:V9 K C=XZ)
 (hi:Si K (.ref C) "__init__"=XX (XX (.ref f))) (hf:PySem.W.typeIn K (.ref f)=XX (.type "function"))
 (h:codeAny (RV prog w) (A.under (.builtin "type.__call__" ⟨.ref C::vs,kw⟩)) (.call (.ref f) ⟨.ref (s.heap.objs.size+1)::vs,kw⟩) (PySem.W.InitBack (s.heap.objs.size+1) R)
  { s with heap:=(s.heap.push SR).push (TJ C s.heap.objs.size) }) :
 codeAny (RV prog w) A (.call (.ref C) ⟨vs,kw⟩) R s:=by
 obtain ⟨hh,g,d,t,os⟩:=s;exact PySem.W.make_core (PySem.W.makes_of X hm) (PySem.W.looks_findIn X hi) (λself=>PySem.W.bind_fn X self hf) (.inl rfl) h
end
noncomputable def bL (f:ZZ) (v:V):List (ZZ×V)->List (ZZ×V)
 | []=>[(f,v)]
 | (g,x)::r=>if g=f then (g,v)::r else (g,x)::bL f v r
theorem ly (f g:ZZ) (v:V):∀ fs:List (ZZ×V),(bL f v fs).lookup g=if g=f then XX v else fs.lookup g
 | []=>by
  show Uj g [(f,v)]=_
  by_cases h:g=f
  ·have hb:(g==f)=XZ:=beq_iff_eq.mpr h;simp only[Uj,hb,if_pos h]
  ·have hb:(g==f)=X0:=beq_eq_false_iff_ne.mpr h;simp only[Uj,hb,if_neg h]
 | (k,x)::r=>by
  have ih:=ly f g v r;rw[show bL f v ((k,x)::r)=(if k=f then (k,v)::r else (k,x)::bL f v r) from rfl]
  by_cases hk:k=f
  ·rw[if_pos hk]
   by_cases h:g=k
   ·have hb:(g==k)=XZ:=beq_iff_eq.mpr h;simp only[Uj,hb,if_pos (h.trans hk)]
   ·have hb:(g==k)=X0:=beq_eq_false_iff_ne.mpr h;simp only[Uj,hb,if_neg (λe:g=f=>h (e.trans hk.symm))]
  ·rw[if_neg hk]
   by_cases h:g=k
   ·have hb:(g==k)=XZ:=beq_iff_eq.mpr h;simp only[Uj,hb,if_neg (λe:g=f=>hk (h.symm.trans e))]
   ·have hb:(g==k)=X0:=beq_eq_false_iff_ne.mpr h;simp only[Uj,hb];exact ih
theorem kO (f:ZZ) (v:V):∀ fs:List (ZZ×V),f∈(bL f v fs).map (·.1)/\∀ g,g∈fs.map (·.1)->g∈(bL f v fs).map (·.1)
 | []=>⟨by simp[bL],λg h=>by simp at h⟩
 | (k,x)::r=>by
  obtain ⟨i1,i2⟩:=kO f v r;rw[show bL f v ((k,x)::r)=(if k=f then (k,v)::r else (k,x)::bL f v r) from rfl]
  by_cases hk:k=f
  ·rw[if_pos hk];subst hk;exact ⟨by simp,λg h=>by simpa using h⟩
  ·rw[if_neg hk];refine ⟨?_,λg h=>?_⟩
   ·rw[RZ];exact RJ _ i1
   ·rw[RZ] at h ⊢;rcases List.mem_cons.mp h with e|e
    exact List.mem_cons.mpr (.inl e);exact RJ _ (i2 g e)
theorem lA (f:ZZ) (v:V):∀ fs:List (ZZ×V),(bL f v fs).length<=fs.length+1
 | []=>by simp[bL]
 | (k,x)::r=>by
  have ih:=lA f v r;rw[show bL f v ((k,x)::r)=(if k=f then (k,v)::r else (k,x)::bL f v r) from rfl]
  by_cases hk:k=f
  rw[if_pos hk,R6,R6];lia;rw[if_neg hk,R6,R6];lia
theorem nU.some_of (r:nU (XX v) o):∃ u,o=XX u/\RelV v u:=by
 cases o with
 | none=>exact (show False from r).elim| some u=>exact ⟨u,rfl,r⟩
theorem nU.none_of (r:nU XY o):o=XY:=by
 cases o with
 | none=>rfl| some u=>exact (show False from r).elim
theorem xF (r:RelV v u):Xn u=XZ:=by
 cases v with
 | non=>cases (show u=VV from r);rfl| bl b=>cases (show u=XI b from r);rfl| int i=>obtain ⟨t,e⟩:=(show ∃ t,u=Vo i t from r);cases e;rfl| str x=>obtain ⟨t,e⟩:=(show ∃ t,u=U5 x t from r);cases e;rfl| byt b=>obtain ⟨t,e⟩:=(show ∃ t,u=Value.bytes b t from r);cases e;rfl| flt b=>obtain ⟨t,e⟩:=(show ∃ t,u=Value.float b t from r);cases e;rfl| ref a=>cases (show u=Sg a from r);rfl| ty n=>cases (show u=Value.type n from r);rfl
section
theorem pM (hok:HOk P w H h) (e:H a=XX (.ins C dx fs)):∃ mA,tY h a dx C mA/\(∀ f,nU (fs.lookup f) (mA f))/\WT mA (fs.map (·.1))/\fs.length<=1000/\H dx=XX (.own a):=by obtain ⟨d,z,ne,ob,mA,n,r,q⟩:=(show cy P w H h a (.ins C dx fs) from hok a _ e);exact ⟨mA,⟨ob,n,ne⟩,r,q,z,d⟩
end
structure Cls (K:Rm) (C:Z0):Prop where
 pg:UB K C VW=XZ
 hd:T5 K C=XZ
 po:VN K C=XZ
 sa:Si K (.ref C) "__setattr__"=XX (XX (.builtin "object.__setattr__"))
theorem Cls.get {K:Rm} (c:Cls K C) (f:ZZ):UB K C f=XZ:=c.pg
def iH (K:Rm) (C:Z0) (f:ZZ):Prop:=Si K (.ref C) f=XX XY
theorem iH.K0 {K:Rm} (n:iH K C f):V8 K C f=XX XY:=by unfold V8;rw[show Si K (.ref C) f=XX XY from n];rfl
structure rA (K:Rm) (C:Z0) (m:ZZ) (f:Z0):Prop where
 at_:Si K (.ref C) m=XX (XX (.ref f))
 fn:VS K (.ref f)=XZ
 kp:Sd K (.ref f)=XZ
section
variable {E:Z1->Rv->Prop}
theorem mE (I:Inv X zt σ H s) (e:H a=XX (.ins C dx fs)) (c:Cls X.K C) (n:iH X.K C f) (l:fs.lookup f=XX v)
 (h:∀ u s',Inv X zt σ H s'->RelV v u->Q u s'):ZY (RV X.prog X.w) A (getAttr (.ref a) f b) Q E s:=by
 obtain ⟨mA,O,r,_,_,_⟩:=pM I.hok e;obtain ⟨u,hu,ru⟩:=nU.some_of (v:=v) (o:=mA f) (by rw[← l];exact r f);exact get_map I.kIn O (c.get f) c.hd n hu (xF ru) (h u _ (I.tok _) ru)
theorem gI (I:Inv X zt σ H s) (e:H a=XX (.ins C dx fs)) (c:Cls X.K C) (k:rA X.K C m g) (l:fs.lookup m=XY)
 (h:Q (.ref g,[.ref a]) s):ZY (RV X.prog X.w) A (Wi (.ref a) m pl) Q E s:=by
 obtain ⟨mA,O,r,_,_,_⟩:=pM I.hok e;have hn:mA m=XY:=nU.none_of (by rw[← l];exact r m);exact zh I.kIn O (c.get m) k.at_ k.fn hn h
theorem mF (I:Inv X zt σ H s) (e:H a=XX (.ins C dx fs)) (c:Cls X.K C) (n:iH X.K C f) (hl:fs.length < 1000) (ry:RelV y u)
 (h:∀ s',Inv X zt σ (upd H a (.ins C dx (bL f y fs))) s'->Q () s'):ZY (RV X.prog X.w) A (setAttr (.ref a) f u) Q E s:=by
 obtain ⟨mA,O,r,wi,_,ho⟩:=pM I.hok e;have hz:(fs.map (·.1)).length<=ZX:=by rw[RN,V6];lia
 refine Di I.kIn O c.sa c.po n.K0 c.hd wi hz λh' O' sb=>h _ ?_;have hd:∃ o,h'.get? dx=XX o:=let ⟨o,_,_,e',_⟩:=O'.ns;⟨o,e'⟩;refine I.write (x:=a) (e:=dx) (by rw[e];exact Ul) (.inr ho) (λb q hb z=>(sb.2 b hb).trans z) hd ?_;refine ⟨by rw[au O.ne];exact ho,?_,O.ne,O'.obj,_,O'.ns,λg=>?_,λg hg=>?_⟩;have:=lA f y fs;lia
 ·show nU ((bL f y fs).lookup g) (if g=f then XX u else mA g);rw[ly]
  by_cases q:g=f
  rw[if_pos q,if_pos q];exact ry;rw[if_neg q,if_neg q];exact r g
 ·by_cases q:g=f
  rw[q];exact (kO f y fs).1
  ·refine (kO f y fs).2 g (wi g λz=>hg ?_);show (if g=f then XX u else mA g)=XY;rw[if_neg q];exact z
theorem Inv.made (I:Inv X zt σ H s):Inv X zt σ (upd (upd H s.heap.objs.size (.own (s.heap.objs.size+1))) (s.heap.objs.size+1) (.ins C s.heap.objs.size []))
 { s with heap:=(s.heap.push SR).push (TJ C s.heap.objs.size) }:=by
 have e1:(s.heap.push SR).get? s.heap.objs.size=XX SR:=RT s.heap rfl;have e2:((s.heap.push SR).push (TJ C s.heap.objs.size)).get? (s.heap.objs.size+1)=XX (TJ C s.heap.objs.size):=by
  have:=RT (s.heap.push SR) (o:=TJ C s.heap.objs.size) rfl
  rwa [Ud] at this
 have e3:(s.heap.push SR).Ns s.heap.objs.size (λ_=>XY):=⟨SR,#[],_,e1,rfl,(λe he=>absurd he (by simp)),λ_=>rfl⟩;have I1:=I.laid (a:=s.heap.objs.size) (o:=.own (s.heap.objs.size+1)) (h':=s.heap.push SR) (t':=s.toks) (λb u q=>Ro _ q) (Rq _) ⟨_,e1⟩;refine I1.laid (a:=s.heap.objs.size+1) (o:=.ins C s.heap.objs.size []) (t':=s.toks) (λb u q=>Ro _ q) (Nat.le_of_eq (Ud _ _)) ?_;have ne:s.heap.objs.size≠s.heap.objs.size+1:=Sk (Tu _);refine ⟨by rw[au ne,aG],SC _,ne,e2,λ_=>XY,(Heap.Ns1.of_empty e3).at λo q=>Ro _ q,λ_=>Ul,λy hy=>absurd rfl hy⟩
theorem Dj (hb:Vs e f env (eval e env)=eval e env)
 (h:ZY (RV prog w) A (eval e env) (λo s₁=>ZY (RV prog w) A (getAttr o f XZ) Q E s₁) E s):ZY (RV prog w) A (eval (.Attribute e f pos) env) Q E s :=
 Attribute_any_ h (by rw[arm_eval_Attribute,hb])
end
def OE (K:Rm) (ta:TE) (f:ZZ):TE:=fun σ H Q=>ta σ H λx H1=>∃ a C dx fs v,x=.ref a/\H1 a=XX (.ins C dx fs)/\Cls K C/\iH K C f/\fs.lookup f=XX v/\Q v H1
def K1 (K:Rm) (ta tv:TE) (f:ZZ):TS:=λD σ H=>tv σ H λy H1=>ta σ H1 λx H2=>∃ a C dx fs,x=.ref a/\H2 a=XX (.ins C dx fs)/\Cls K C/\iH K C f/\fs.length < 1000 ∧
 D.nx σ (upd H2 a (.ins C dx (bL f y fs)))
def OF (X:Cx) (op:VT) (rd:V->V->Hp->VK->Prop):Prop :=
 ∀ (zt:List (Z0×Obj)) (s:Rv) (σ:St) (H:Hp) (x y:V) (u v:Z1) (Q:VK),Inv X zt σ H s->RelV x u->RelV y v->rd x y H Q->ZY (RV X.prog X.w) X.A (inplaceOp op u v) (EP X zt σ Q) X.xe s
def ve (K:Rm) (ta tv:TE) (rd:V->V->Hp->VK->Prop) (f:ZZ):TS:=λD σ H=>ta σ H λx H1=>∃ a C dx fs v,x=.ref a/\H1 a=XX (.ins C dx fs)/\Cls K C/\iH K C f/\fs.lookup f=XX v ∧
 tv σ H1 λy H2=>rd v y H2 λz H3=>∃ dx' fs',H3 a=XX (.ins C dx' fs')/\fs'.length < 1000/\D.nx σ (upd H3 a (.ins C dx' (bL f z fs')))
section
theorem Hl (he:PE X e ta) (hb:Vs e f X.env (eval e X.env)=eval e X.env):PE X (.Attribute e f pos) (OE X.K ta f):=by intro zt s σ H Q I h;refine Dj hb (thn (he zt s σ H _ I h) λu s1 zq=>?_);obtain ⟨x,H1,I1,rx,a,C,dx,fs,v,ex,ea,c,n,l,q⟩:=zq;subst ex;obtain rfl:u=Sg a:=rx;exact mE I1 ea c n l λu' s2 I2 ru=>⟨v,H1,I2,ru,q⟩
theorem Ho (ha:PE X o ta) (hv:PE X value tv) (hs:U0 value (XX (.Attribute o f pos')) pos.line X.env=pure X0):PS X (.Assign [.Attribute o f pos'] value pos) (K1 X.K ta tv f):=by intro zt s σ H D I h;refine plainObj_wpAny_Assign_Attribute (thn (hv zt s σ H _ I h) λu s1 ⟨y,H1,I1,ry,q⟩=>thn (ha zt s1 σ H1 _ I1 q) λov s2 ⟨x,H2,I2,rx,a,C,dx,fs,ex,ea,c,n,l,q2⟩=>?_) hs;subst ex;obtain rfl:ov=Sg a:=rx;exact mF I2 ea c n l ry λs3 I3=>⟨σ,_,I3,q2⟩
theorem xG {rd:V->V->Hp->VK->Prop} (ha:PE X o ta) (hv:PE X value tv) (hop:OF X op rd):PS X (.AugAssign (.Attribute o f tpos) op value pos) (ve X.K ta tv rd f):=by intro zt s σ H D I h;refine wpAny_AugAssign_AttributeAny (thn (ha zt s σ H _ I h) λov s1 zq=>?_);obtain ⟨x,H1,I1,rx,a,C,dx,fs,v,ex,ea,c,n,l,q⟩:=zq;subst ex;obtain rfl:ov=Sg a:=rx;refine mE I1 ea c n l λu s2 I2 ru=>thn (hv zt s2 σ H1 _ I2 q) λw3 s3 ⟨y,H2,I3,ry,q3⟩=>thn (hop zt s3 σ H2 v y u w3 _ I3 ru ry q3) λw4 s4 zq=>?_;obtain ⟨z,H3,I4,rz,dx',fs',ea',l',q4⟩:=zq;exact mF I4 ea' c n l' rz λs5 I5=>⟨σ,_,I5,q4⟩
theorem Gg (he:PE X e te) (I:Inv X zt σ H s)
 (h:te σ H λx H1=>∃ a C dx fs g,x=.ref a/\H1 a=XX (.ins C dx fs)/\Cls X.K C/\rA X.K C m g/\fs.lookup m=XY ∧
  ∀ s1,Inv X zt σ H1 s1->ZY (RV X.prog X.w) X.A (callWith pos (.ref g) [.ref a] (TH pos (RX args X.env)) (VQ pos (UK [] X.env))) Q X.xe s1)
 (ht:eval (.Call (.Attribute e m apos) args [] pos) X.env=(do
  let ov ← eval e X.env
  standAt apos.atName
  let (f,first) ← holding [ov] (Wi ov m pl)
  callWith pos f first (TH pos (RX args X.env)) (VQ pos (UK [] X.env)))) :
 ZY (RV X.prog X.w) X.A (eval (.Call (.Attribute e m apos) args [] pos) X.env) Q X.xe s:=by
 refine Uw (pl:=pl) (thn (he zt s σ H _ I h) λu s1 ⟨x,H1,I1,rx,a,C,dx,fs,g,ex,ea,c,k,l,q⟩=>?_) ht;subst ex;obtain rfl:u=Sg a:=rx;exact gI I1 ea c k l (q s1 I1)
end
section
variable {E:Z1->Rv->Prop}{b:Bool}
end
end L2
namespace L2
open PySem PySem.Spec PyProof.Rows
structure bG (k:Nat) (A:TR):Prop where
 hd:A.handled=XY
 dp:A.depth+3*k+5 < recursionLimit
 un:A.units+16*k+200 < Xf
theorem bG.mono (r:bG k A) (h:j<=k):bG j A:=⟨r.hd,by have:=r.dp;lia,by have:=r.un;lia⟩
theorem bG.deeper (r:bG (k+1) A) (env:Env):bG k (A.deeper env) :=
 ⟨r.hd,by have:=r.dp;show A.depth+1+3*k+5 < _;lia,by have:=r.un;show A.units+3+16*k+200 < _;lia⟩
theorem tZ {A:TR}{C:Z0}{us:List Z1}{kw:List (ZZ×Z1)}:(A.under (.builtin "type.__call__" ⟨.ref C::us,kw⟩)).depth=A.depth+1:=by first|rfl|simp[WQ,Code.weight,Code.isCreation,Code.isGuard,Code.isCaller,Code.frames,Xb,guardIds]
theorem ua {A:TR}{C:Z0}{us:List Z1}{kw:List (ZZ×Z1)}:(A.under (.builtin "type.__call__" ⟨.ref C::us,kw⟩)).units=A.units+1:=by first|rfl|simp[WQ,Code.cUnits,Code.frames,Xb]
theorem bG.make (r:bG (k+1) A) (C:Z0) (us:List Z1) (kw:List (ZZ×Z1)):bG k (A.under (.builtin "type.__call__" ⟨.ref C::us,kw⟩)) :=
 ⟨r.hd,by have:=r.dp;rw[tZ];lia,by have:=r.un;rw[ua];lia⟩
theorem bG.depth (r:bG k A):A.depth < recursionLimit:=by have:=r.dp;lia
def zk:TA:=λ_ H Q=>Q [] H
def Gi (ta:TE) (tr:TA):TA:=fun σ H Q=>ta σ H λx H1=>tr σ H1 λxs H2=>Q (x::xs) H2
section
theorem jw:PA X [] zk:=λ_ _ _ _ H Q I h=>Te ⟨[],H,I,.nil,h⟩
theorem dg (ha:PE X e te) (hr:PA X es t) (hs:RX (e::es) X.env=(X0,eval e X.env)::RX es X.env:=by rfl):PA X (e::es) (Gi te t):=by intro pos zt s σ H Q I h;rw[hs];show ZY _ _ (U1 ((X0,eval e X.env)::TH pos (RX es X.env))) _ _ s;refine Sx (thn (ha zt s σ H _ I h) λu s1 zq=>?_);obtain ⟨x,H1,I1,r1,q1⟩:=zq;exact thn (hr pos zt s1 σ H1 _ I1 q1) λus s2 ⟨xs,H2,I2,r2,q2⟩=>⟨x::xs,H2,I2,.cons r1 r2,q2⟩
def K3 (t:TA):TE:=fun σ H Q=>t σ H λxs H1=>xs.length<=ZX/\∀ p,H1 p=XY->Q (.ref p) (upd H1 p (.tup xs))
def K4 (t:TA):TE:=fun σ H Q=>t σ H λxs H1=>xs.length<=ZX/\∀ p,H1 p=XY->Q (.ref p) (upd H1 p (.lst xs))
theorem Hq {x1} (h:PA X es t):PE X (.Tuple es x1 pos) (K3 t):=by intro zt s σ H Q I hq;refine wpAny_Tuple_spliced (thn (h pos zt s σ H _ I hq) λus s1 ⟨xs,H1,I1,r,z,q⟩=>⟨by rw[← r.length];exact z,?_⟩);have hf:H1 s1.heap.objs.size=XY:=I1.hok.fresh (Rq _);refine ⟨.ref s1.heap.objs.size,upd H1 s1.heap.objs.size (.tup xs),I1.laid (t':=s1.toks) (λb u e=>Ro _ e) (Rq _) ?_,rfl,q _ hf⟩;exact ⟨z,us,r,⟨_,RT _ rfl,rfl,_,rfl⟩⟩
theorem Hr (h:PA X es t):PE X (.List es pos) (K4 t):=by intro zt s σ H Q I hq;refine wpAny_List_spliced (thn (h pos zt s σ H _ I hq) λus s1 ⟨xs,H1,I1,r,z,q⟩=>⟨by rw[← r.length];exact z,?_⟩);have hf:H1 s1.heap.objs.size=XY:=I1.hok.fresh (Rq _);refine ⟨.ref s1.heap.objs.size,upd H1 s1.heap.objs.size (.lst xs),I1.laid (t':=s1.toks) (λb u e=>Ro _ e) (Rq _) ?_,rfl,q _ hf⟩;exact ⟨z,us,0,r,RT _ rfl⟩
end
abbrev Sp:=List V->Hp->VK->XK->Prop
abbrev CXT:=List Env->Hp->Rv->XK->Z1->Rv->Prop
structure jN (P:Se) (w:SB) (K:Rm) (mg:ZZ->Option Z1) (base:Heap) (A:TR) (outer:List Env) (s:Rv) (H:Hp):Prop where
 frames:A.frames=XX outer
 mod:Mod K mg base
 bs:∀ b o,base.get? b=XX o->s.heap.get? b=XX o/\H b=XY
 bsz:base.objs.size<=s.heap.objs.size
 gc:s.heap.FunFrames base outer
 frf:∀ b∈frs outer,H b=XY
 hok:HOk P w H s.heap
 bare:Wc s.gens
inductive CE (outer:List Env) (P:Se) (w:SB) (H:Hp) (s:Rv) (Q:VK) (u:Z1) (s':Rv):Prop where
 | mk (v:V) (H':Hp) (os:s'.os=s.os) (b:Wc s'.gens) (un:Un (frs outer) [] H H' s.heap s'.heap) (hk:HOk P w H' s'.heap) (r:RelV v u) (q:Q v H'):CE outer P w H s Q u s'
def CR (CX:CXT) (outer:List Env) (P:Se) (w:SB) (H:Hp) (s:Rv) (Q:VK) (E:XK) (r:Result) (s':Rv):Prop :=
 match r with
 | .ok (.ret u)=>CE outer P w H s Q u s'| .ok _=>False| .error e=>CX outer H s E e s'
structure cK (P:Se) (w:SB) (K:Rm) (mg:ZZ->Option Z1) (base:Heap) (CX:CXT) (k:Nat) (f:Z0) (fd:Tz) (ps:List ZZ) (sp:Sp):Prop where
 len:∀ vs H Q E,sp vs H Q E->vs.length=ps.length
 run:∀ (A:TR) (outer:List Env) (s:Rv) (H:Hp) (args:Args) (us:List Z1) (vs:List V) (Q:VK) (E:XK),bG k A->jN P w K mg base A outer s H->BindsTo s fd args (ps.zip us)->av vs us->sp vs H Q E →
  codeAny (RV P w) A (.call (.ref f) args) (CR CX outer P w H s Q E) s
theorem jN.make {K:Rm} (e:jN P w K mg base A outer s H) (C:Z0) (us:List Z1) (kw:List (ZZ×Z1)) :
 jN P w K mg base (A.under (.builtin "type.__call__" ⟨.ref C::us,kw⟩)) outer s H:=⟨by first | exact e.frames | (simpa [WQ,Code.envs,Xb,pushEnvs] using e.frames),e.mod,e.bs,e.bsz,e.gc,e.frf,e.hok,e.bare⟩
section
theorem Inv.Dk (I:Inv X zt σ H s):jN X.prog X.w X.K X.mg X.base X.A X.stack s H :=
 ⟨I.ok.frames,I.ok.mod,I.bs,Sj I.ok.bsz I.sz,I.stack,I.lT,I.hok,I.bare⟩
theorem Inv.after (I:Inv X zt σ H s) (h:CE X.stack X.prog X.w H s Q u s'):EP X zt σ Q u s':=by obtain ⟨v,H',os,bare,un,hok,r,q⟩:=h;obtain ⟨hh,g,d,t,os'⟩:=s';obtain rfl:os'=s.os:=os;exact ⟨v,H',I.call (h':=hh) (g':=g) (d':=d) (t':=t) (ch:=[]) un hok bare (λb z=>absurd z (by simp)),r,q⟩
end
def vf (sp:Sp) (dvs:List V) (E:XK) (t:TA):TE:=fun σ H Q=>t σ H λvs H1=>sp (vs++dvs) H1 Q E
def vg (C:Z0) (m:ZZ) (sp:Sp) (dvs:List V) (E:XK) (ta:TE) (t:TA):TE:=fun σ H Q=>ta σ H λx H1=>∃ a dx fs,x=.ref a/\H1 a=XX (.ins C dx fs)/\fs.lookup m=XY ∧
 t σ H1 λvs H2=>sp (x::(vs++dvs)) H2 Q E
def zl (C:Z0) (sp:Sp) (dvs:List V) (E:XK) (t:TA):TE:=fun σ H Q=>t σ H λvs H1=>∀ x dx,H1 x=XY->H1 dx=XY->dx≠x →
 sp (.ref x::(vs++dvs)) (upd (upd H1 dx (.own x)) x (.ins C dx [])) (λv H2=>v=.non/\Q (.ref x) H2) E
def Binds (K:Rm) (fd:Tz) (ps:List ZZ) (ds:List Z1):Prop :=
 ∀ (s:Rv) (us:List Z1),K.In s.heap->(us++ds).length=ps.length->BindsTo s fd ⟨us,[]⟩ (ps.zip (us++ds))
theorem Binds.all {K:Rm} (h:∀ us:List Z1,us.length=ps.length->WK fd ⟨us,[]⟩=pure (ps.zip us)):Binds K fd ps []:=λs us _ hl=>by rw[R8] at hl ⊢;exact .of_eq (h us hl)
def eN (CX:CXT) (X:Cx) (E:XK):Prop:=∀ (zt:List (Z0×Obj)) (σ:St) (H:Hp) (s:Rv) (e:Z1) (s':Rv),Inv X zt σ H s->CX X.stack H s E e s'->X.xe e s'
section
variable {k:Nat}{E:XK}
theorem mG (F:cK X.prog X.w X.K X.mg X.base CX k f fd ps sp) (hr:bG k X.A) (hb:Binds X.K fd ps ds) (hd:av dvs ds) (hx:eN CX X E)
 (I:Inv X zt σ H s) (r:av vs us) (h:sp (vs++dvs) H Q E):ZY (RV X.prog X.w) X.A (call (.ref f) us) (EP X zt σ Q) X.xe s:=by
 have r2:av (vs++dvs) (us++ds):=r.append hd;have hl:(us++ds).length=ps.length:=by rw[← r2.length];exact F.len _ _ _ _ h
 refine Vn (Uv (F.run X.A X.stack s H ⟨us,[]⟩ (us++ds) (vs++dvs) Q E hr I.Dk (hb s us I.kIn hl) r2 h) λr s' hq=>?_);cases r with
 | error e=>exact hx zt σ H s e s' I hq
 | ok fl =>
  cases fl with
  | ret u=>exact I.after hq| _=>exact Sa hq
theorem vh (F:cK X.prog X.w X.K X.mg X.base CX k f fd ps sp) (hr:bG k X.A) (hg:Gl X x) (hm:X.mg x=XX (.ref f)) (hk:Sd X.K (.ref f)=XZ) (hb:Binds X.K fd ps ds) (hd:av dvs ds) (hx:eN CX X E)
 (ha:PA X (e::es) t) (hdb:(x==("__debug__":ZZ))=X0:=by decide) (he:RX (e::es) X.env=(X0,eval e X.env)::RX es X.env:=by rfl) (hpl:(TH pos (RX es X.env)).any (·.1)=X0:=by rfl) :
 PE X (.Call (.Name x p) (e::es) [] pos) (vf sp dvs E t):=by
 intro zt s σ H Q I h;refine SQ (fJ I hg hm ?_ hdb);refine Tj (h₀:=X.base) I.ok.mod.kin hk (thn (ha pos zt s σ H _ I h) λus s1 ⟨vs,H1,I1,r,q⟩=>⟨I1.kIn,?_⟩) he hpl;exact mG F hr hb hd hx I1 r q
theorem rB (F:cK X.prog X.w X.K X.mg X.base CX k f fd ps sp) (hr:bG k X.A) (hg:Gl X x) (hm:X.mg x=XX (.ref f)) (hk:Sd X.K (.ref f)=XZ) (hb:Binds X.K fd ps ds) (hd:av dvs ds) (hx:eN CX X E)
 (hdb:(x==("__debug__":ZZ))=X0:=by decide):PE X (.Call (.Name x p) [] [] pos) (vf sp dvs E zk):=by
 intro zt s σ H Q I h;refine SQ (fJ I hg hm ?_ hdb);exact Vv I.kIn hk (mG (us:=[]) F hr hb hd hx I .nil h)
theorem vj (he:PE X o ta) (c:Cls X.K C) (hm:rA X.K C m f) (F:cK X.prog X.w X.K X.mg X.base CX k f fd ps sp) (hr:bG k X.A) (hb:Binds X.K fd ps ds) (hd:av dvs ds) (hx:eN CX X E) (ha:PA X (e::es) t)
 (hst:RX (e::es) X.env=(X0,eval e X.env)::RX es X.env:=by rfl) (hpl:(TH pos (RX es X.env)).any (·.1)=X0:=by rfl)
 (ht:eval (.Call (.Attribute o m apos) (e::es) [] pos) X.env=(do
  let ov ← eval o X.env
  standAt apos.atName
  let (f,first) ← holding [ov] (Wi ov m pl)
  callWith pos f first (TH pos (RX (e::es) X.env)) (VQ pos (UK [] X.env))):=by rfl) :
 PE X (.Call (.Attribute o m apos) (e::es) [] pos) (vg C m sp dvs E ta t):=by
 intro zt s σ H Q I h;refine Uw (pl:=pl) (thn (he zt s σ H _ I h) λu s1 ⟨x,H1,I1,rx,a,dx,fs,ex,ea,l,q⟩=>?_) ht;subst ex;obtain rfl:u=Sg a:=rx;refine gI I1 ea c hm l ?_;refine Tj (first:=[.ref a]) (h₀:=X.base) I.ok.mod.kin hm.kp (thn (ha pos zt s1 σ H1 _ I1 q) λus s2 ⟨vs,H2,I2,r,q2⟩=>⟨I2.kIn,?_⟩) hst hpl;exact mG (us:=.ref a::us) (vs:=.ref a::vs) F hr hb hd hx I2 (.cons rfl r) q2
theorem rC (he:PE X o ta) (c:Cls X.K C) (hm:rA X.K C m f) (F:cK X.prog X.w X.K X.mg X.base CX k f fd ps sp) (hr:bG k X.A) (hb:Binds X.K fd ps ds) (hd:av dvs ds) (hx:eN CX X E)
 (ht:eval (.Call (.Attribute o m apos) [] [] pos) X.env=(do
  let ov ← eval o X.env
  standAt apos.atName
  let (f,first) ← holding [ov] (Wi ov m pl)
  callWith pos f first (TH pos (RX [] X.env)) (VQ pos (UK [] X.env))):=by rfl) :
 PE X (.Call (.Attribute o m apos) [] [] pos) (vg C m sp dvs E ta zk):=by
 intro zt s σ H Q I h;refine Uw (pl:=pl) (thn (he zt s σ H _ I h) λu s1 ⟨x,H1,I1,rx,a,dx,fs,ex,ea,l,q⟩=>?_) ht;subst ex;obtain rfl:u=Sg a:=rx;refine gI I1 ea c hm l ?_;exact Vv (first:=[.ref a]) I1.kIn hm.kp (mG (us:=[.ref a]) (vs:=[.ref a]) F hr hb hd hx I1 (.cons rfl .nil) q)
structure Mk (K:Rm) (C f:Z0):Prop where
 makes:V9 K C=XZ
 init:Si K (.ref C) "__init__"=XX (XX (.ref f))
 fn:VS K (.ref f)=XZ
 kp:Sd K (.ref C)=XZ
theorem rD (M:Mk X.K C f) (F:cK X.prog X.w X.K X.mg X.base CX k f fd ps sp) (hr:bG (k+1) X.A) (hb:Binds X.K fd ps ds) (hd:av dvs ds)
 (hx:eN CX X E) (I:Inv X zt σ H s) (r:av vs us)
 (h:∀ x dx,H x=XY->H dx=XY->dx≠x->sp (.ref x::(vs++dvs)) (upd (upd H dx (.own x)) x (.ins C dx [])) (λv H2=>v=.non/\Q (.ref x) H2) E) :
 ZY (RV X.prog X.w) X.A (call (.ref C) us) (EP X zt σ Q) X.xe s:=by
 have hq:=h (s.heap.objs.size+1) s.heap.objs.size (I.hok.fresh (S6 _)) (I.hok.fresh (Rq _)) (Sk (Tu _));have I2:=Inv.made (C:=C) I;have r2:av (V.ref (s.heap.objs.size+1)::(vs++dvs)) (Sg (s.heap.objs.size+1)::(us++ds)):=.cons rfl (r.append hd);have hl:(Sg (s.heap.objs.size+1)::us++ds).length=ps.length:=by have e:=r2.length;rw[F.len _ _ _ _ hq] at e;exact e.symm
 refine Vn (zj (f:=f) I.kIn M.makes M.init (beq_iff_eq.mp M.fn) (Uv (F.run _ X.stack _ _ ⟨Sg (s.heap.objs.size+1)::us,[]⟩ (Sg (s.heap.objs.size+1)::(us++ds)) _ _ E (hr.make C us [])
  (I2.Dk.make C us []) (hb _ (Sg (s.heap.objs.size+1)::us) I2.kIn hl) r2 hq) λr s' hq'=>?_))
 cases r with
 | error e=>exact hx zt σ _ _ e s' I2 hq'
 | ok fl =>
  cases fl with
  | ret u =>
   obtain ⟨v,H',I3,rv,ev,q3⟩:=I2.after hq';subst ev;exact ⟨rv,⟨V.ref (s.heap.objs.size+1),H',I3,rfl,q3⟩⟩
  | _=>exact Sa hq'
theorem Dl (M:Mk X.K C f) (F:cK X.prog X.w X.K X.mg X.base CX k f fd ps sp) (hr:bG (k+1) X.A) (hg:Gl X x) (hm:X.mg x=XX (.ref C)) (hb:Binds X.K fd ps ds) (hd:av dvs ds) (hx:eN CX X E)
 (ha:PA X (e::es) t) (hdb:(x==("__debug__":ZZ))=X0:=by decide) (he:RX (e::es) X.env=(X0,eval e X.env)::RX es X.env:=by rfl) (hpl:(TH pos (RX es X.env)).any (·.1)=X0:=by rfl) :
 PE X (.Call (.Name x p) (e::es) [] pos) (zl C sp dvs E t):=by
 intro zt s σ H Q I h;refine SQ (fJ I hg hm ?_ hdb);refine Tj (h₀:=X.base) I.ok.mod.kin M.kp (thn (ha pos zt s σ H _ I h) λus s1 ⟨vs,H1,I1,r,q⟩=>⟨I1.kIn,?_⟩) he hpl;exact rD M F hr hb hd hx I1 r q
theorem zm (M:Mk X.K C f) (F:cK X.prog X.w X.K X.mg X.base CX k f fd ps sp) (hr:bG (k+1) X.A) (hg:Gl X x) (hm:X.mg x=XX (.ref C)) (hb:Binds X.K fd ps ds) (hd:av dvs ds) (hx:eN CX X E)
 (hdb:(x==("__debug__":ZZ))=X0:=by decide):PE X (.Call (.Name x p) [] [] pos) (zl C sp dvs E zk):=by
 intro zt s σ H Q I h;refine SQ (fJ I hg hm ?_ hdb);exact Vv I.kIn M.kp (rD (us:=[]) M F hr hb hd hx I .nil h)
end
section
variable {k:Nat}{E:XK}
end
structure aO (N P:List ZZ) (sc:SE):Prop where
 kind:sc.kind=.function
 co:sc.isCoroutine=X0
 gen:sc.isGenerator=X0
 nd:N.Nodup
 pre:N.take P.length=P
 par:∀ x∈P,sc.names.lookup x=XX .local\/sc.names.lookup x=XX .cell
 nofree:∀ y∈sc.names,y.2≠.free
theorem oN {kindOf:ZZ->Option Ut}:∀ {binds:List (ZZ×Z1)}{m:ZZ->Option Z1},(∀ v,(x,v)∉binds)->bindL kindOf binds m x=m x
 | [],_,_=>rfl
 | (n,v)::r,m,h=>by
  unfold bindL;rw[oN λw hw=>h w (RJ _ hw)];split
  ·have:x≠n:=by rintro rfl;exact h v RL
   simp[this]
  rfl
theorem oO {kindOf:ZZ->Option Ut}:∀ {binds:List (ZZ×Z1)}{m:ZZ->Option Z1},(∀ v,(x,v)∉binds)->bindC kindOf binds m x=m x
 | [],_,_=>rfl
 | (n,v)::r,m,h=>by
  unfold bindC;rw[oO λw hw=>h w (RJ _ hw)];split;rfl
  ·have:x≠n:=by rintro rfl;exact h v RL
   simp[this]
theorem oQ {kindOf:ZZ->Option Ut}:∀ {P:List ZZ}{vs:List Z1}{i:Nat}{m:ZZ->Option Z1},P.Nodup->P[i]?=XX x->vs[i]?=XX v->kindOf x=XX .local →
 bindL kindOf (P.zip vs) m x=XX v
 | [],_,_,_,_,h,_,_=>by simp at h
 | _::_,[],_,_,_,_,h,_=>by simp at h
 | p::P,w::vs,0,m,nd,h1,h2,hk=>by simp at h1 h2;subst h1;subst h2;show bindL kindOf ((p,w)::P.zip vs) m p=_;unfold bindL;rw[oN λv hv=>(List.nodup_cons.mp nd).1 (US hv).1,if_pos hk];simp
 | p::P,w::vs,i+1,m,nd,h1,h2,hk=>by show bindL kindOf ((p,w)::P.zip vs) m x=_;unfold bindL;exact oQ (i:=i) (List.nodup_cons.mp nd).2 (by simpa using h1) (by simpa using h2) hk
theorem oR {kindOf:ZZ->Option Ut}:∀ {P:List ZZ}{vs:List Z1}{i:Nat}{m:ZZ->Option Z1},P.Nodup->P[i]?=XX x->vs[i]?=XX v->kindOf x≠XX .local →
 bindC kindOf (P.zip vs) m x=XX v
 | [],_,_,_,_,h,_,_=>by simp at h
 | _::_,[],_,_,_,_,h,_=>by simp at h
 | p::P,w::vs,0,m,nd,h1,h2,hk=>by simp at h1 h2;subst h1;subst h2;show bindC kindOf ((p,w)::P.zip vs) m p=_;unfold bindC;rw[oO λv hv=>(List.nodup_cons.mp nd).1 (US hv).1,if_neg hk];simp
 | p::P,w::vs,i+1,m,nd,h1,h2,hk=>by show bindC kindOf ((p,w)::P.zip vs) m x=_;unfold bindC;exact oR (i:=i) (List.nodup_cons.mp nd).2 (by simpa using h1) (by simpa using h2) hk
noncomputable def start (N:List ZZ) (vs:List V):St:=vs.map XX++RO (N.length - vs.length) XY
noncomputable def aI (CX:CXT) (P:Se) (w:SB) (K:Rm) (mg:ZZ->Option Z1) (base:Heap) (N:List ZZ) (qual:ZZ) (scope:SE) (f:Z0) (cd:Z1) (A:TR) (outer:List Env) (s:Rv) (H:Hp) (E:XK):Cx where
 prog:=P
 w:=w
 K:=K
 mg:=mg
 base:=base
 A:=A.deeper (Us qual scope s.heap.objs.size f cd)
 N:=N
 s₀:=s
 H₀:=H
 env:=Us qual scope s.heap.objs.size f cd
 outer:=outer
 stack:=Us qual scope s.heap.objs.size f cd::outer
 ex:=[]
 calm:=XZ
 fn:=λ_=>XZ
 pn:=[]
 xe:=λe s'=>ZY (RV P w) (A.deeper (Us qual scope s.heap.objs.size f cd)) (leaving (Us qual scope s.heap.objs.size f cd) e) (λ_ s''=>CX outer H s E e s'') (λe' s''=>CX outer H s E e' s'') s'
theorem rE {sc:SE}{n:Nat}{x:ZZ} (h:sc.names.lookup x=XX .cell):∃ c,(WR n sc.names []).lookup x=XX c:=by have q:=U9 sc.names n [] (.inl h);exact Option.isSome_iff_exists.mp q
theorem oS {K:Rm}{E:XK}
 (S:aO N ps scope) (hd:A.handled=XY) (e0:jN P w K mg base A outer s H) (hl:vs.length=ps.length) (r:av vs us)
 (x:InCallC s s.heap.objs.size (bindL (Us qual scope s.heap.objs.size f cd).kindOf (ps.zip us) λ_=>XY) (WR (s.heap.objs.size+1) scope.names []) (bindC (Us qual scope s.heap.objs.size f cd).kindOf (ps.zip us) λ_=>XY) s1) :
 Inv (aI CX P w K mg base N qual scope f cd A outer s H E) [] (start N vs) H s1:=by
 have hpl:ps.length<=N.length:=by have:=congrArg Vd S.pre;rw[Wg] at this;lia
 obtain ⟨h1,tk,rfl,hk⟩:=x.done;have noA:∀ b:Z0,b∉(aI CX P w K mg base N qual scope f cd A outer s H E).ex:=λb z=>absurd (show b∈([]:List Z0) from z) (by simp);refine ⟨⟨e0.mod,S.kind,rfl,rfl,Rq _,λy z c h1 h2=>?_,λy hy=>?_,λy c _ h=>?_,λ_=>hd,Vq e0.frames,.inr ⟨rfl,rfl⟩,λb z=>absurd z (noA b),e0.bs,e0.bsz,λb _ _=>noA b,λb z=>absurd z (noA b),e0.gc,e0.frf⟩,
  rfl,e0.bare,Un.kept hk,⟨_,x.toInCall.ns,λi y v h1 h2 h3=>?_⟩,λy c h=>⟨_,x.cell y c h⟩,e0.hok.fresh (Rq _),λy c h=>?_,λp hp=>absurd (show p∈([]:List (Z0×Obj)) from hp) (by simp),e0.hok.kept hk,?_⟩
 exact name_of_addr x.apart (Tf h1) (Tf h2)
 ·have hy:scope.names.lookup y=XX .cell\/scope.names.lookup y=XX .free:=hy;rcases hy with hy|hy
  exact rE hy;exact absurd rfl (S.nofree _ (Tf hy))
 exact TF (x.above y c (Tf h))
 ·have hi:i < vs.length:=by
   unfold start at h2
   by_cases hi:i < vs.length
   exact hi
   ·rw[RM (by simpa using hi)] at h2;rw[Td] at h2;split at h2<;>cases h2
  have ha:vs[i]?=XX v:=by
   unfold start at h2;rw[Rp (by simpa using hi),RY] at h2;cases e:vs[i]? with
   | none=>rw[e] at h2;cases h2| some a=>rw[e] at h2;cases h2;rfl
  obtain ⟨u,hu,rv⟩:=r.get ha;have hp:ps[i]?=XX y:=by rw[← S.pre,Uo (by lia)];exact h1
  have ndP:ps.Nodup:=by rw[← S.pre];exact S.nd.sublist (List.take_sublist _ _)
  refine ⟨u,rv,?_⟩;rcases S.par y (RC hp) with k|k
  exact .inl ⟨k,oQ ndP hp hu k⟩
  ·obtain ⟨c,e⟩:=rE (n:=s.heap.objs.size+1) k;refine .inr ⟨.inl k,c,e,?_⟩;have q:=x.cell y c e;rw[oR ndP hp hu (by show scope.names.lookup y≠_;rw[k];decide)] at q;exact q
 exact e0.hok.fresh (TF (x.above y c (Tf h)))
 ·unfold start;show _=N.length;rw[RI,RN,UE];lia
theorem zo {K:Rm}{kV:Z1}
 {osl:Array (Option Z1)} (lk:K.lookup f=XX ⟨oc,od,.func (SL name qual params body scope dV kV doc pm an cdv ct),osl⟩) (hcd:UV K cdv qual=XZ) (S:aO N ps scope)
 (len:∀ vs H Q E,sp vs H Q E->vs.length=ps.length)
 (hbody:∀ (A:TR) (outer:List Env) (s:Rv) (H:Hp) (vs:List V) (Q:VK) (E:XK),bG k (A.deeper (Us qual scope s.heap.objs.size f cdv))->sp vs H Q E →
  ∃ t,PSs (aI CX P w K mg base N qual scope f cdv A outer s H E) body t/\t { nx:=λ_ H'=>Q .non H',rt:=Q } (start N vs) H) :
 cK P w K mg base CX (k+1) f (SL name qual params body scope dV kV doc pm an cdv ct) ps sp:=by
 refine ⟨len,λA outer s H args us vs Q E hr e0 hb r hsp=>?_⟩;have hl:=len _ _ _ _ hsp;have KX:K.In s.heap:=e0.mod.kin.keeps λb o e=>(e0.bs b o e).1;have lim:s.heap.NoLimit:=e0.mod.nolimit.keeps λb o e=>(e0.bs b o e).1;have hkind:∀ y∈ps.zip us,scope.names.lookup y.1=XX .local\/(scope.names.lookup y.1=XX .cell/\((WR (s.heap.objs.size+1) scope.names []).lookup y.1).isSome=XZ):=λ⟨n,v⟩ hy=>by
  rcases S.par n (US hy).1 with q|q
  exact .inl q;exact .inr ⟨q,U9 _ _ _ (.inl q)⟩
 refine codeAny_call_function hr.depth (KX _ _ lk) rfl S.co S.gen rfl (W7 KX hcd) (hb _ _ _ _ ?_);refine W4 S.kind hkind λenv he s1 x=>?_;subst he;refine ⟨lim.keeps x.toInCall.keep,codeAny_func ?_⟩;obtain ⟨t,ht,hq⟩:=hbody A outer s H vs Q E (hr.deeper _) hsp;have I:Inv (aI CX P w K mg base N qual scope f cdv A outer s H E) [] (start N vs) H s1:=oS S hr.hd e0 hl r x;refine wpAny_mono (ht [] s1 (start N vs) H _ I hq) (λfl s' hs=>?_) λe s' hs=>hs;have fin:∀ {σ':St}{H':Hp}{v:V}{u:Z1},Inv (aI CX P w K mg base N qual scope f cdv A outer s H E) [] σ' H' s'->RelV v u->Q v H'->CE outer P w H s Q u s' :=
  λ{σ' H' v u} J rv q=>⟨v,H',J.os,J.bare,J.base,J.hok,rv,q⟩
 cases fl with
 | ret u =>
  obtain ⟨v,σ',H',J,rv,q⟩:=hs;exact fin J rv q
 | next =>
  obtain ⟨σ',H',J,q⟩:=hs;exact fin (v:=V.non) (u:=VV) J rfl q
 | brk =>
  obtain ⟨_,_,_,q⟩:=hs;exact Sa q
 | cont =>
  obtain ⟨_,_,_,q⟩:=hs;exact Sa q
end L2
namespace L2
open PySem PySem.Spec PyProof.Rows
section
variable {id:String}
def tCB (r:List V->Hp->VK->Prop) (t:TA):TE:=fun σ H Q=>t σ H λvs H1=>r vs H1 Q
theorem fh (hc:cW X (.builtin id) r) (hg:Gl X x) (hm:X.mg x=XY) (hv:Vc x=XX (.builtin id)) (ha:PA X (e::es) t) (hn:x≠"__name__":=by decide) (hdb:(x==("__debug__":ZZ))=X0:=by decide)
 (he:RX (e::es) X.env=(X0,eval e X.env)::RX es X.env:=by rfl) (hpl:(TH pos (RX es X.env)).any (·.1)=X0:=by rfl):PE X (.Call (.Name x p) (e::es) [] pos) (tCB r t):=by
 intro zt s σ H Q I h;refine SQ (dI I hg hm hv ?_ hn hdb);exact PyProof.Rows.callWith_builtin1 (thn (ha pos zt s σ H _ I h) λus s1 ⟨vs,H1,I1,r1,q1⟩=>hc zt s1 σ H1 vs us Q I1 r1 q1) he hpl
theorem i9 (hc:cW X (.type T) r) (hg:Gl X x) (hm:X.mg x=XY) (hv:Vc x=XX (.type T)) (ha:PA X (e::es) t) (hn:x≠"__name__":=by decide) (hdb:(x==("__debug__":ZZ))=X0:=by decide)
 (he:RX (e::es) X.env=(X0,eval e X.env)::RX es X.env:=by rfl) (hpl:(TH pos (RX es X.env)).any (·.1)=X0:=by rfl):PE X (.Call (.Name x p) (e::es) [] pos) (tCB r t):=by
 intro zt s σ H Q I h;refine SQ (dI I hg hm hv ?_ hn hdb);exact R0 (thn (ha pos zt s σ H _ I h) λus s1 ⟨vs,H1,I1,r1,q1⟩=>hc zt s1 σ H1 vs us Q I1 r1 q1) he hpl
end
end L2
namespace HT
open PySem PyProof.Rows
section
open PySem.SeqAt
open PySem.AutoSeq1 (wpAny_loadPart')
open PySem.MeetsSeq PySem.MeetsSeq2 PySem.MeetsSeq3
end
section
variable {E:Z1->Rv->Prop}
theorem Dm (ht:IsTup s.heap t vs.toArray) (hb:IsTup s.heap b ws.toArray) (hv:vs≠[])
 (h1:ws=[]->Q (.ref t) s) (h2:ws≠[]->Q (.ref s.heap.objs.size) { s with heap:=s.heap.push { cls:=.type "tuple",data:=.seq (vs++ws).toArray } })
 (hsz:vs.length+ws.length<=ZX):ZY (RV prog w) A (Tc .Add (.ref t) (.ref b)) Q E s:=by
 obtain ⟨⟨cls,dd,data,sl⟩,ho,hc,n,hd⟩:=id ht;obtain ⟨⟨cls2,dd2,data2,sl2⟩,ho2,hc2,n2,hd2⟩:=id hb;simp only at hc hd hc2 hd2;subst hc hd hc2 hd2;have e:vs.toArray++ws.toArray=(vs++ws).toArray:=by simp
 by_cases hw:ws=[]
 ·exact concat_meets ⟨_,ho,rfl⟩ ⟨_,ho2,rfl⟩ WE Xz Va U6 (UX _ _)
   (tuple_addW1 t b vs.toArray ws.toArray n n2 dd dd2 sl sl2 (by simpa using hv) (by simp[hw])) ⟨ho,ho2,h1 hw⟩
 ·refine concat_meets ⟨_,ho,rfl⟩ ⟨_,ho2,rfl⟩ WE Xz Va U6 (UX _ _)
   (tuple_addW2 t b vs.toArray ws.toArray n n2 dd dd2 sl sl2 (by simpa using hv) (by simpa using hw) (by rw[Rr,Rr];exact hsz)) ⟨ho,ho2,?_⟩
  rw[e];exact h2 hw
noncomputable def sIx (n d:Nat):Option Int->Nat
 | none=>d
 | some v=>if v < 0 then (v+(n:Int)).toNat else min v.toNat n
theorem Hs (n d:Nat) (hd:d<=n) (o:Option Int):sIx n d o<=n:=by
 cases o with
 | none=>exact hd
 | some v =>
  show (if v < 0 then (v+(n:Int)).toNat else min v.toNat n)<=n
  by_cases hv:v < 0
  rw[if_pos hv];lia;rw[if_neg hv];exact Nat.min_le_right _ _
theorem vm (v:Int) (n d:Nat):(if v < 0 then max (v+(n:Int)) 0 else min v (n:Int))=((sIx n d (XX v):Nat):Int):=by
 show (if v < 0 then max (v+(n:Int)) 0 else min v (n:Int))=(((if v < 0 then (v+(n:Int)).toNat else min v.toNat n):Nat):Int)
 by_cases hv:v < 0
 simp only[if_pos hv];lia;simp only[if_neg hv];lia
theorem uc (lo hi:Option Int) (n:Nat):UH lo hi 1 (n:Int)=(((sIx n 0 lo:Nat):Int),((sIx n n hi:Nat):Int)):=by
 have h1:¬ ((1:Int) < 0):=by lia
 unfold UH;simp only[h1,if_false];refine Prod.ext ?_ ?_
 ·cases lo with
  | none=>rfl| some v=>exact vm v n 0
 ·cases hi with
  | none=>rfl| some v=>exact vm v n n
theorem ud (i j:Nat):TZ (i:Int) (j:Int) 1=j - i:=by
 unfold TZ;have h1:(1:Int) > 0:=by lia
 simp only[h1,if_true,Int.ediv_one];split<;>lia
theorem mH (p:WD v o) (h:Q o s):ZY (RV prog w) A (Builtin.Slice.slicePartIndex v) Q E s:=by
 cases p with
 | none=>exact slicePart_none h| int i t=>exact slicePart_int h
theorem gn {lo:Option Int}{n:Nat} (hs:s.heap.IsSliceOf sl vl vu .none) (pl:WD vl lo) (pu:WD vu hi)
 (h:Q (((sIx n 0 lo:Nat):Int),1,sIx n n hi - sIx n 0 lo) s):ZY (RV prog w) A (VF (.ref sl) (pure (n:Int))) Q E s:=by
 obtain ⟨os,hos,hcs,hds⟩:=id hs;unfold VF Builtin.Slice.sliceFields;refine Rx (Rx (wpAny_field hos hds (x:=vl) rfl (Rx (wpAny_field hos hds (x:=vu) rfl (Rx (wpAny_field hos hds (x:=.none) rfl (wpAny_pure ?_)))))));refine Rx (slicePart_none ?_);show ZY _ _ (if ((1:Int)==0)=XZ then _ else _) _ _ s;rw[if_neg (by decide)];refine Rx (mH pl (Rx (mH pu (Rx (wpAny_pure ?_)))));show ZY _ _ (match UH lo hi 1 (n:Int) with|(lo,hi)=>pure (lo,(1:Int),TZ lo hi 1)) _ _ s;rw[uc lo hi n];show ZY _ _ (pure (((sIx n 0 lo:Nat):Int),(1:Int),TZ ((sIx n 0 lo:Nat):Int) ((sIx n n hi:Nat):Int) 1)) _ _ s;rw[ud];exact wpAny_pure h
theorem zu (xs:Array Z1) (i k:Nat):((RK k).filterMap λ(m:Nat)=>xs[((i:Int)+(m:Int)*1).toNat]?).toArray=((xs.toList.drop i).take k).toArray:=by
 have e:(λ(m:Nat)=>xs[((i:Int)+(m:Int)*1).toNat]?)=λm=>xs[i+m]?:=by
  funext m;have:((i:Int)+(m:Int)*1).toNat=i+m:=by lia
  rw[this]
 rw[e];have:=pick_run xs i k;rw[List.filterMap_map] at this;have e2:((λx=>xs[x]?) ∘ λx=>i+x)=λm=>xs[i+m]?:=rfl;rw[e2] at this;rw[this]
theorem jO {lo:Option Int} (ht:IsTup s.heap t items) (hs:s.heap.IsSliceOf sl vl vu .none) (pl:WD vl lo) (pu:WD vu hi)
 (hw:¬ (sIx items.size 0 lo=0/\sIx items.size items.size hi=items.size))
 (h:Q (.ref s.heap.objs.size) { s with heap:=s.heap.push { cls:=.type "tuple",data:=.seq ((items.toList.drop (sIx items.size 0 lo)).take (sIx items.size items.size hi - sIx items.size 0 lo)).toArray } })
 (hsz:items.size<=ZX):ZY (RV prog w) A (Wq (.ref t) (.ref sl)) Q E s:=by
 have htake:sizeOk (.seq ((items.toList.drop (sIx items.size 0 lo)).take (sIx items.size items.size hi - sIx items.size 0 lo)).toArray):=by show ((items.toList.drop (sIx items.size 0 lo)).take (sIx items.size items.size hi - sIx items.size 0 lo)).toArray.size<=ZX;rw[Rr,Wg,List.length_drop,VC];lia
 have hj:sIx items.size items.size hi<=items.size:=Hs _ _ (Rq _) hi;obtain ⟨os,hos,hcs,hds⟩:=id hs;have hTs:s.TypeIs (.ref sl) "slice":=⟨os,hos,hcs⟩;unfold Wq
 try with_reducible refine Ug ?_
 first|refine Rx (wpAny_pure ?_)|skip
 refine Rx (wpAny_sequenceKey ht.typeIs (by decide) ?_);refine Rx (Xw (name:=RG "__getitem__") ht.typeIs Tn
  (wpAny_call_entry Tn ht.typeIs entry_tuple_getitem ?_ (args_tuple_getitem _ _)))
 show ZY _ _ (VE (.ref t) >>= _) _ _ s;refine Rx (tupleItemsOf_ ht ?_);refine Rx (Wz hTs ?_);rw[if_pos (by decide)];refine Rx (gn hs pl pu ?_);have hno:¬ ((((sIx items.size 0 lo:Nat):Int)==0&&(1:Int)==1&&(sIx items.size items.size hi - sIx items.size 0 lo)==items.size)=XZ):=by intro q;rw[Rn,Rn] at q;have q1:((sIx items.size 0 lo:Nat):Int)=0:=eq_of_beq q.1.1;have q2:sIx items.size items.size hi - sIx items.size 0 lo=items.size:=eq_of_beq q.2;exact hw ⟨by lia,by lia⟩
 show ZY _ _ (if (((sIx items.size 0 lo:Nat):Int)==0&&(1:Int)==1&&(sIx items.size items.size hi - sIx items.size 0 lo)==items.size)=XZ then _ else _) _ _ s;rw[if_neg hno,zu]
 first
  | exact Rx (m:=T7 _) (UJ (wpAny_pure ⟨_,rfl,wpAny_pure h⟩) htake)
  | exact Rx (m:=T7 _) (UJ (Rx (wpAny_pure (wpAny_pure ⟨_,rfl,wpAny_pure h⟩))) htake)
  | exact Rx (Rx (m:=T7 _) (UJ (wpAny_pure (wpAny_pure ⟨_,rfl,wpAny_pure h⟩)) htake))
  | exact Rx (Rx (m:=T7 _) (UJ (wpAny_pure ⟨_,rfl,wpAny_pure h⟩) htake))
end
end HT
namespace L2
open PySem PySem.Spec PyProof.Rows
abbrev TO:=St->Hp->(Option Int->Hp->Prop)->Prop
def PO (X:Cx) (e:Option Expr) (t:TO):Prop :=
 ∀ (zt:List (Z0×Obj)) (s:Rv) (σ:St) (H:Hp) (Q:Option Int->Hp->Prop),Inv X zt σ H s->t σ H Q →
  ZY (RV X.prog X.w) X.A (evalPart e X.env) (λu s'=>∃ o H',Inv X zt σ H' s'/\WD u o/\Q o H') X.xe s
def Dn:TO:=λ_ H Q=>Q XY H
def K5 (t:TE):TO:=fun σ H Q=>t σ H λx H1=>∃ i,x=.int i/\Q (XX i) H1
section
variable {lo:Option Expr}
theorem Do:PO X XY Dn:=by intro zt s σ H Q I h;rw[XD];exact wpAny_pure ⟨XY,H,I,.none,h⟩
theorem Dp (h:PE X e te):PO X (XX e) (K5 te):=by intro zt s σ H Q I hw;rw[evalPart_some];refine thn (h zt s σ H _ I hw) λu s1 zq=>?_;obtain ⟨x,H1,I1,r1,q1⟩:=zq;obtain ⟨i,rfl,q⟩:=q1;obtain ⟨t,rfl⟩:=r1;exact ⟨XX i,H1,I1,.int i t,q⟩
def SlR (X:Cx) (r:V->Option Int->Option Int->Hp->VK->Prop):Prop :=
 ∀ (zt:List (Z0×Obj)) (s:Rv) (σ:St) (H:Hp) (x:V) (v vl vu:Z1) (lo hi:Option Int) (sl:Z0) (Q:VK),Inv X zt σ H s->RelV x v->s.heap.IsSliceOf sl vl vu .none->WD vl lo->WD vu hi->r x lo hi H Q →
  ∃ T id,typeLookup (.type T) "__getitem__"=pure (XX (.builtin id))/\s.TypeIs v T/\ZY (RV X.prog X.w) X.A (Wq v (.ref sl)) (EP X zt σ Q) X.xe s
def tSl (r:V->Option Int->Option Int->Hp->VK->Prop) (te:TE) (tl th:TO):TE:=fun σ H Q=>te σ H λx H1=>tl σ H1 λl H2=>th σ H2 λu H3=>r x l u H3 Q
theorem zw (hr:SlR X r) (he:PE X e te) (hl:PO X lo tl) (hu:PO X hi th):PE X (.Subscript e (.Slice lo hi XY p2) pos) (tSl r te tl th):=by intro zt s σ H Q I h;refine Subscript_ (thn (he zt s σ H _ I h) λv s1 zq=>?_);obtain ⟨x,H1,I1,r1,q1⟩:=zq;refine wpAny_Slice (thn (hl zt s1 σ H1 _ I1 q1) λvl s2 ⟨l,H2,I2,pl,q2⟩=>thn (hu zt s2 σ H2 _ I2 q2) λvu s3 zq=>?_);obtain ⟨u,H3,I3,pu,q3⟩:=zq;rw[XD];refine wpAny_pure ?_;have I4:Inv X zt σ H3 { s3 with heap:=s3.heap.push { cls:=.type "slice",data:=.fields #[vl,vu,.none] } }:=I3.kept (t':=s3.toks) λb ob q=>Ro _ q;obtain ⟨T,id,hT,ht,hg⟩:=hr zt { s3 with heap:=s3.heap.push { cls:=.type "slice",data:=.fields #[vl,vu,.none] } } σ H3 x v vl vu l u s3.heap.objs.size Q I4 r1 (Wm ..) pl pu q3;show ZY (RV X.prog X.w) X.A (Xy e (.Slice lo hi XY p2) v (.ref s3.heap.objs.size)) (EP X zt σ Q) X.xe { s3 with heap:=s3.heap.push { cls:=.type "slice",data:=.fields #[vl,vu,.none] } };exact tail_any (ops:=[.ref s3.heap.objs.size,v]) ht hT hg (by with_unfolding_all rfl)
noncomputable def rF (xs:List V) (lo hi:Option Int):List V:=(xs.drop (HT.sIx xs.length 0 lo)).take (HT.sIx xs.length xs.length hi - HT.sIx xs.length 0 lo)
theorem lB (xs:List V) (lo hi:Option Int):(rF xs lo hi).length<=xs.length:=by unfold rF;rw[Wg,List.length_drop];lia
def OG (K:Rm):V->Option Int->Option Int->Hp->VK->Prop:=λx lo hi H Q=>∃ a xs,x=.ref a/\SqT K H a xs ∧
 ¬ (HT.sIx xs.length 0 lo=0/\HT.sIx xs.length xs.length hi=xs.length)/\∀ p,H p=XY->Q (.ref p) (upd H p (.tup (rF xs lo hi)))
theorem Hu:SlR X (OG X.K):=by
 intro zt s σ H x v vl vu lo hi sl Q I rx hs pl pu h;obtain ⟨a,xs,rfl,hx,hw,q⟩:=h;cases rx;obtain ⟨its,r,ht,hz⟩:=I.tuple hx;have hlen:its.toArray.size=xs.length:=by rw[Rr];exact r.length.symm
 refine ⟨"tuple",_,PyProof.Rows.slot_tuple_getitem.lookup,ht.typeIs,?_⟩;refine HT.jO ht hs pl pu (by rw[hlen];exact hw) ?_ (by rw[hlen];exact hz);rw[hlen];refine ⟨.ref s.heap.objs.size,_,I.laid (t':=s.toks) (o:=.tup (rF xs lo hi)) (λb ob q=>Ro _ q) (Rq _) ?_,rfl,q _ (I.hok.fresh (Rq _))⟩;exact ⟨Sj (lB xs lo hi) hz,_,(r.drop (HT.sIx xs.length 0 lo)).take (HT.sIx xs.length xs.length hi - HT.sIx xs.length 0 lo),IsTup.new _ _⟩
def K6 (K:Rm):R2:=λx y H Q=>∃ a b xs ys,x=.ref a/\y=.ref b/\SqT K H a xs/\SqT K H b ys/\xs≠[]/\xs.length+ys.length<=ZX ∧
 (ys=[]->Q (.ref a) H)/\(ys≠[]->∀ p,H p=XY->Q (.ref p) (upd H p (.tup (xs++ys))))
theorem av.jP (r:av xs us):us=[]↔xs=[]:=by
 cases r with
 | _=>simp
theorem Dq:OpR X (Tc .Add) (K6 X.K):=by intro zt s σ H x y v u Q I rx ry h;obtain ⟨a,b,xs,ys,rfl,rfl,ha,hb,hx,hz,q1,q2⟩:=h;cases rx;cases ry;obtain ⟨its,r1,p1,_⟩:=I.tuple ha;obtain ⟨its2,r2,p2,_⟩:=I.tuple hb;refine HT.Dm p1 p2 (λz=>hx (r1.jP.mp z)) (λz=>⟨.ref a,H,I,rfl,q1 (r2.jP.mp z)⟩) (λz=>?_) (by rw[← r1.length,← r2.length];exact hz);refine ⟨.ref s.heap.objs.size,_,I.laid (t':=s.toks) (o:=.tup (xs++ys)) (λb ob q=>Ro _ q) (Rq _) ?_,rfl,q2 (λw=>z (r2.jP.mpr w)) _ (I.hok.fresh (Rq _))⟩;exact ⟨by rw[RI];exact hz,_,r1.append r2,IsTup.new _ _⟩
end
end L2
namespace L2
open PySem PySem.Spec PyProof.Rows
noncomputable def ixN (n:Nat) (i:Int):Option Nat:=if 0<=i then (if i < n then XX i.toNat else XY) else if -(n:Int)<=i then XX (i+n).toNat else XY
noncomputable def atI {α:Type} (xs:List α) (i:Int):Option α:=(ixN xs.length i).bind λj=>xs[j]?
theorem vn (h:ixN n i=XX j):seqIndex? i n=XX j/\j < n/\-(n:Int)<=i/\i < n:=by
 unfold ixN at h
 by_cases h0:0<=i
 ·rw[if_pos h0] at h
  by_cases h1:i < n
  ·rw[if_pos h1] at h;have e:i.toNat=j:=Ry h;exact ⟨by rw[seqIndex_of h0 h1,e],by lia,by lia,h1⟩
  rw[if_neg h1] at h;cases h
 ·rw[if_neg h0] at h
  by_cases h1:-(n:Int)<=i
  ·rw[if_pos h1] at h;have e:(i+n).toNat=j:=Ry h;exact ⟨by rw[seqIndex_neg (by lia) h1,e],by lia,h1,by lia⟩
  rw[if_neg h1] at h;cases h
theorem pN {α:Type}{xs:List α}{v:α} (h:atI xs i=XX v):∃ j,seqIndex? i xs.length=XX j/\xs[j]?=XX v/\j < xs.length/\-(xs.length:Int)<=i/\i < xs.length:=by
 unfold atI at h;cases e:ixN xs.length i with
 | none=>rw[e] at h;cases h
 | some j =>
  rw[e] at h;obtain ⟨h1,h2,h3,h4⟩:=vn e;exact ⟨j,h1,h,h2,h3,h4⟩
def vo (b:Expr):Prop:=∀ o i,subscripted b X0 o i=operate [o,i] (Wq o i)
def IxR (X:Cx) (r:R2):Prop :=
 ∀ (value slice:Expr) (zt:List (Z0×Obj)) (s:Rv) (σ:St) (H:Hp) (x y:V) (v u:Z1) (Q:VK),Inv X zt σ H s->RelV x v->RelV y u->r x y H Q →
  subscripted slice X0 v u=operate [v,u] (Wq v u)->ZY (RV X.prog X.w) X.A (Xy value slice v u) (EP X zt σ Q) X.xe s
def MtR (X:Cx) (id:String) (r:V->List V->Hp->VK->Prop):Prop :=
 ∀ (zt:List (Z0×Obj)) (s:Rv) (σ:St) (H:Hp) (x:V) (xs:List V) (v:Z1) (us:List Z1) (Q:VK),Inv X zt σ H s->RelV x v->av xs us->r x xs H Q →
  ZY (RV X.prog X.w) X.A (call (.builtin id) (v::us)) (EP X zt σ Q) X.xe s
section
theorem K7 (hr:IxR X r) (ha:PE X a ta) (hb:PE X b tb) (hs:vo b):PE X (.Subscript a b pos) (tOp r ta tb):=by intro zt s σ H Q I h;exact Subscript_ (G8 ha hb I h λv u s2 x y H2 I2 rx ry q=>hr a b zt s2 σ H2 x y v u Q I2 rx ry q (hs _ _))
def OH (K:Rm):R2:=λx y H Q=>∃ p xs i v,x=.ref p/\y=.int i/\SqL K H p xs/\atI xs i=XX v/\Q v H
def OI (K:Rm):R2:=λx y H Q=>∃ p xs i v,x=.ref p/\y=.int i/\SqT K H p xs/\atI xs i=XX v/\Q v H
def OJ:R2:=λx y H Q=>∃ z i c,x=.str z/\y=.int i/\z.length<=ZX/\atI z.cps.toList i=XX c/\Q (.str ⟨#[c]⟩) H
theorem Dr:IxR X (OH X.K):=by
 intro value slice zt s σ H x y v u Q I rx ry h hs;obtain ⟨p,xs,i,z,rfl,rfl,hq,he,q⟩:=h;cases rx;obtain ⟨t,rfl⟩:=ry;obtain ⟨its,r,pl,hz⟩:=I.list hq;obtain ⟨j,h1,h2,h3,h4,h5⟩:=pN he;obtain ⟨w,ew,rw'⟩:=r.get h2;have hl:=r.length;have hn:=kN;have fin:EP X zt σ Q w s:=⟨z,H,I,rw',q⟩
 by_cases h0:0<=i
 ·have hj:i.toNat=j:=by rw[seqIndex_of h0 h5] at h1;exact Ry h1
  exact item_listR pl.isList h0 (by lia) (by rw[hj];simpa using ew) fin hs
 ·have hj:(i+(its.toArray.size:Int)).toNat=j:=by rw[seqIndex_neg (by lia) h4] at h1;rw[Rr,← hl];exact Ry h1
  exact subscriptTail_builtinR (x:=w) pl.isList.typeIs slot_list_getitem.lookup
   (wpAny_getItem_list_neg (Q:=λr s'=>r=w/\EP X zt σ Q r s') pl.isList (by lia) (by rw[Rr]<;>lia) (by lia) (by rw[hj];simpa using ew) ⟨rfl,fin⟩) hs
theorem Hv:IxR X (OI X.K):=by
 intro value slice zt s σ H x y v u Q I rx ry h hs;obtain ⟨p,xs,i,z,rfl,rfl,hq,he,q⟩:=h;cases rx;obtain ⟨t,rfl⟩:=ry;obtain ⟨its,r,pl,hz⟩:=I.tuple hq;obtain ⟨j,h1,h2,h3,h4,h5⟩:=pN he;obtain ⟨w,ew,rw'⟩:=r.get h2;have hl:=r.length;have hn:=kN;have fin:EP X zt σ Q w s:=⟨z,H,I,rw',q⟩;exact subscriptTail_builtinR (x:=w) pl.typeIs slot_tuple_getitem.lookup
  (getItem_tuple (j:=j) (Q:=λr s'=>r=w/\EP X zt σ Q r s') pl (by lia) (by lia) (by rw[Rr,← hl];exact h1) (by simpa using ew) ⟨rfl,fin⟩) hs
theorem Hw:IxR X OJ:=by
 intro value slice zt s σ H x y v u Q I rx ry h hs;obtain ⟨z,i,c,rfl,rfl,hz,he,q⟩:=h;obtain ⟨t,rfl⟩:=rx;obtain ⟨t',rfl⟩:=ry;obtain ⟨j,h1,h2,h3,h4,h5⟩:=pN he;have hl:z.cps.toList.length=z.length:=by simp[Str.length]
 rw[hl] at h1 h4 h5;have hn:=kN;exact tail_any (typeIs_str s z t) slot_str_getitem.lookup (getItem_str (c:=c) (by
  have e1:decide (i < -(2 ^ 63:Int))=X0:=decide_eq_false (by lia);have e2:decide (i ≥ 2 ^ 63)=X0:=decide_eq_false (by lia);rw[e1,e2,Vf]) (by rw[h1];simpa using h2) ⟨.str ⟨#[c]⟩,H,I.tok _,⟨_,rfl⟩,q⟩) hs
theorem ue (its:List Z1) (n j:Nat) (u:Z1):Uq (·.setIfInBounds j u) { cls:=.type "list",data:=.seq its.toArray n }={ cls:=.type "list",data:=.seq (its.set j u).toArray n }:=by simp[Uq]
theorem Inv.lst {zt:List (Z0×Obj)}{σ:St}{H:Hp}{s:Rv}{p:Z0}{xs:List V} (I:Inv X zt σ H s) (h:H p=XX (.lst xs)) :
 ∃ (its:List Z1) (n:Nat),av xs its/\s.heap.get? p=XX { cls:=.type "list",data:=.seq its.toArray n }/\xs.length<=ZX:=by
 obtain ⟨z,its,n,r,e⟩:=I.hok p _ h;exact ⟨its,n,r,e,z⟩
theorem Inv.Hx {zt:List (Z0×Obj)}{σ:St}{H:Hp}{s:Rv}{p:Z0}{xs ys:List V}{its its':List Z1}{n n':Nat}{f:Obj->Obj} (I:Inv X zt σ H s) (h:H p=XX (.lst xs))
 (ho:s.heap.get? p=XX { cls:=.type "list",data:=.seq its.toArray n }) (hf:f { cls:=.type "list",data:=.seq its.toArray n }={ cls:=.type "list",data:=.seq its'.toArray n' }) (r:av ys its') (hz:ys.length<=ZX) (t:Nat) :
 Inv X zt σ (upd H p (.lst ys)) { s with heap:=s.heap.update p f,toks:=t }:=by
 have e:(s.heap.update p f).get? p=XX { cls:=.type "list",data:=.seq its'.toArray n' }:=by rw[Xa f ho (by rw[hf]<;>rfl),hf]
 refine I.write (x:=p) (e:=p) (by rw[h];trivial) (.inl rfl) (λb u hb q=>(Vm _ _ (Ti hb)).trans q) ⟨_,e⟩ ?_;exact ⟨hz,its',n',r,e⟩
noncomputable def Gj:V->V->V->Hp->(Hp->Prop)->Prop:=λo i v H Q=>∃ p xs k j,o=.ref p/\i=.int k/\H p=XX (.lst xs)/\ixN xs.length k=XX j/\Q (upd H p (.lst (xs.set j v)))
theorem set_list:GZ X Gj:=by
 intro zt s σ H o i v ov iv u Q I ro ri rv h;obtain ⟨p,xs,k,j,rfl,rfl,hp,hj,q⟩:=h;cases ro;obtain ⟨t,rfl⟩:=ri;obtain ⟨its,n,r,ho,hz⟩:=I.lst hp;obtain ⟨h1,h2,h3,h4⟩:=vn hj;have hl:=r.length;have hn:=kN;have I':Inv X zt σ (upd H p (.lst (xs.set j v))) { s with heap:=s.heap.update p (Uq (·.setIfInBounds j u)) } :=
  I.Hx hp ho (ue its n j u) (r.set rv j) (by rw[UT];exact hz) s.toks
 by_cases h0:0<=k
 ·have hk:k.toNat=j:=by rw[seqIndex_of h0 h4] at h1;exact Ry h1
  exact PySem.W.ki_setAt ho h0 (by lia) (by rw[Rr,← hl];exact h4) (by rw[hk];exact ⟨_,I',q⟩)
 ·have hk:(k+(its.toArray.size:Int)).toNat=j:=by rw[seqIndex_neg (by lia) h3] at h1;rw[Rr,← hl];exact Ry h1
  exact PySem.W.ki_setBack ho (by lia) (by rw[Rr,← hl];exact h3) (by lia) (by rw[hk];exact ⟨_,I',q⟩)
theorem pO (lo hi:Option Int) (n:Nat):(Sn lo hi XY n).1=((HT.sIx n 0 lo:Nat):Int)/\(Sn lo hi XY n).2.1=((HT.sIx n n hi:Nat):Int)/\(Sn lo hi XY n).2.2=1:=by
 refine ⟨?_,?_,rfl⟩
 ·cases lo with
  | none=>simp[Sn,HT.sIx]
  | some i =>
   simp only[Sn,HT.sIx,XN,show (1:Int) > 0 by decide,if_true]
   by_cases h:i < 0
   simp only[h,if_true]<;>lia;simp only[h,if_false]<;>lia
 ·cases hi with
  | none=>simp[Sn,HT.sIx]
  | some i =>
   simp only[Sn,HT.sIx,XN,show (1:Int) > 0 by decide,if_true]
   by_cases h:i < 0
   simp only[h,if_true]<;>lia;simp only[h,if_false]<;>lia
theorem nX (its:List Z1) (lo hi:Option Int):slicePick its.toArray lo hi XY=((its.drop (HT.sIx its.length 0 lo)).take (HT.sIx its.length its.length hi - HT.sIx its.length 0 lo)).toArray:=by obtain ⟨h1,h2,h3⟩:=pO lo hi its.toArray.size;unfold slicePick;rw[h1,h2,h3];simp only[sliceRange_one,pick_run,Rr]<;>rfl
def OL (K:Rm):V->Option Int->Option Int->Hp->VK->Prop:=λx lo hi H Q=>∃ a xs,x=.ref a/\SqL K H a xs/\∀ p,H p=XY->Q (.ref p) (upd H p (.lst (rF xs lo hi)))
theorem Ds:SlR X (OL X.K):=by intro zt s σ H x v vl vu lo hi sl Q I rx hs pl pu h;obtain ⟨a,xs,rfl,hx,q⟩:=h;cases rx;obtain ⟨its,r,ht,hz⟩:=I.list hx;have hlen:=r.length;refine ⟨"list",_,slot_list_getitem.lookup,ht.isList.typeIs,?_⟩;refine Xl ht.isList hs pl pu .none (by simp) ?_ (by rw[Rr]<;>lia);rw[nX,← hlen];refine ⟨.ref s.heap.objs.size,_,I.laid (t':=s.toks) (o:=.lst (rF xs lo hi)) (λb ob q=>Ro _ q) (Rq _) ?_,rfl,q _ (I.hok.fresh (Rq _))⟩;exact ⟨Sj (lB xs lo hi) hz,_,0,(r.drop (HT.sIx xs.length 0 lo)).take (HT.sIx xs.length xs.length hi - HT.sIx xs.length 0 lo),RT _ rfl⟩
theorem jQ:cW X (.builtin "len") (λxs H Q=>∃ p ys,xs=[.ref p]/\(SqL X.K H p ys\/SqT X.K H p ys)/\Q (.int ys.length) H):=by
 intro zt s σ H xs us Q I r h;obtain ⟨p,ys,rfl,hq,q⟩:=h;obtain ⟨u,rfl,rx⟩:=vals1 r;cases rx;have hn:=kN;rcases hq with hq|hq
 ·obtain ⟨its,r',pl,hz⟩:=I.list hq;have hlen:=r'.length;exact Calls.call_len_list pl.isList (by simp only[Rr]<;>lia) ⟨.int ys.length,H,I.tok _,⟨s.toks+1,by rw[Rr,hlen]⟩,q⟩
 ·obtain ⟨its,r',pl,hz⟩:=I.tuple hq;have hlen:=r'.length;exact len_tuple pl (by simp only[Rr]<;>lia) ⟨.int ys.length,H,I.tok _,⟨s.toks+1,by rw[Rr,hlen]⟩,q⟩
theorem pP:cW X (.builtin "len") (λxs H Q=>∃ z,xs=[.str z]/\z.length<=ZX/\Q (.int z.length) H):=by intro zt s σ H xs us Q I r h;obtain ⟨z,rfl,hz,q⟩:=h;obtain ⟨u,rfl,t,rfl⟩:=vals1 r;have hn:=kN;exact len_str (by lia) ⟨.int z.length,H,I.tok _,⟨_,rfl⟩,q⟩
theorem jR:cW X (.type "list") (λxs H Q=>∃ p ys,xs=[.ref p]/\(SqL X.K H p ys\/SqT X.K H p ys)/\∀ l,H l=XY->Q (.ref l) (upd H l (.lst ys))):=by
 intro zt s σ H xs us Q I r h;obtain ⟨p,ys,rfl,hq,q⟩:=h;obtain ⟨u,rfl,rx⟩:=vals1 r;cases rx;have fin:∀ (its:List Z1),av ys its->ys.length<=ZX->∀ (h':Heap) (c':Nat),(∀ b o',s.heap.get? b=XX o'->h'.get? b=XX o') →
  h'.get? s.heap.objs.size=XX { cls:=.type "list",dict:=XY,data:=.seq its.toArray c',slots:=#[] }->EP X zt σ Q (.ref s.heap.objs.size) { s with heap:=h' }:=λits r' hz h' c' kp e =>
  ⟨.ref s.heap.objs.size,_,I.laid (t':=s.toks) kp (Rq _) (show cy X.prog X.w _ h' _ (.lst ys) from ⟨hz,its,c',r',e⟩),rfl,q _ (I.hok.fresh (Rq _))⟩
 rcases hq with hq|hq
 ·obtain ⟨its,r',pl,hz⟩:=I.list hq;have hlen:=r'.length;obtain ⟨o,ho,hc,n,hd⟩:=pl.isList;exact call_list_seq p (.inl rfl) ho hc hd (λh' c' kp e=>fin its r' hz h' c' kp e) (by simp only[Rr]<;>lia)
 ·obtain ⟨its,r',pl,hz⟩:=I.tuple hq;have hlen:=r'.length;obtain ⟨o,ho,hc,n,hd⟩:=pl;exact call_list_seq p (.inr rfl) ho hc hd (λh' c' kp e=>fin its r' hz h' c' kp e) (by simp only[Rr]<;>lia)
theorem jn:cW X (.type "tuple") (λxs H Q=>∃ p ys,xs=[.ref p]/\((SqL X.K H p ys/\∀ l,H l=XY->Q (.ref l) (upd H l (.tup ys)))\/(SqT X.K H p ys/\Q (.ref p) H))):=by
 intro zt s σ H xs us Q I r h;obtain ⟨p,ys,rfl,h⟩:=h;obtain ⟨u,rfl,rx⟩:=vals1 r;cases rx;rcases h with ⟨hq,q⟩|⟨hq,q⟩
 ·obtain ⟨its,r',pl,hz⟩:=I.list hq;have hlen:=r'.length;refine call_tuple_list pl.isList (λh' kp=>?_) (by simp only[Rr]<;>lia);have I1:Inv X zt σ H { s with heap:=h' }:=I.kept (t':=s.toks) kp;have I2:Inv X zt σ (upd H h'.objs.size (.tup ys)) { s with heap:=h'.push { cls:=.type "tuple",data:=.seq its.toArray } } :=
   I1.laid (t':=s.toks) (λb o e=>Ro _ e) (Rq _) (show cy X.prog X.w _ _ _ (.tup ys) from ⟨hz,its,r',IsTup.new _ _⟩)
  exact ⟨.ref h'.objs.size,_,I2,rfl,q _ (I1.hok.fresh (Rq _))⟩
 ·obtain ⟨its,r',pl,hz⟩:=I.tuple hq;exact call_tuple_same pl ⟨.ref p,H,I,rfl,q⟩
def tyV (K:Rm) (T:String) (x:V) (H:Hp):Prop:=match x with
 | .str _=>T="str"| .int _=>T="int"| .ref p=>(T="list"/\∃ xs,SqL K H p xs)\/(T="tuple"/\∃ o,K.lookup p=XX o/\o.cls=.type "tuple"/\o.dict=XY) ∨
  (T="dict"/\((∃ kvs,H p=XX (.dK kvs))\/∃ kvs,H p=XX (.dT kvs)))\/(T="set"/\∃ S n,H p=XX (.set S n))
 | _=>False
theorem uf (I:Inv X zt σ H s) (r:RelV x v) (ty:tyV X.K T x H) :
 s.TypeIs v T/\∀ a,v=.ref a->∃ ob,s.heap.get? a=XX ob/\ob.dict=XY:=by
 cases x with
 | str z =>
  obtain ⟨t,rfl⟩:=r;cases (show T="str" from ty);exact ⟨typeIs_str s z t,λ_ e=>nomatch e⟩
 | int i =>
  obtain ⟨t,rfl⟩:=r;cases (show T="int" from ty);exact ⟨typeIs_int s i t,λ_ e=>nomatch e⟩
 | ref p =>
  cases r;rcases ty with ⟨rfl,xs,hq⟩|⟨rfl,o,hk,hc,hd⟩|⟨rfl,hk⟩|⟨rfl,S,n,hk⟩
  ·obtain ⟨its,_,pl,_⟩:=I.list hq;refine ⟨pl.isList.typeIs,λa e=>?_⟩;cases e;obtain ⟨o,n,e,c,hd,_⟩:=pl;exact ⟨o,e,hd⟩
  ·refine ⟨⟨o,I.kIn p o hk,hc⟩,λa e=>?_⟩;cases e;exact ⟨o,I.kIn _ o hk,hd⟩
  ·have z:∃ o,s.heap.get? p=XX o/\o.ExactDict:=by
    rcases hk with ⟨kvs,hk⟩|⟨kvs,hk⟩
    ·obtain ⟨_,_,_,_,o,_,_,e,ex,_⟩:=I.hok p _ hk;exact ⟨o,e,ex⟩
    ·obtain ⟨_,_,_,_,o,_,_,e,ex,_⟩:=I.hok p _ hk;exact ⟨o,e,ex⟩
   obtain ⟨o,e,ex⟩:=z;refine ⟨⟨o,e,ex.1⟩,λa e2=>?_⟩;cases e2;exact ⟨o,e,ex.2.1⟩
  ·obtain ⟨o,_,_,_,e,ex,_⟩:=I.hok p _ hk;refine ⟨⟨o,e,ex.1⟩,λa e2=>?_⟩;cases e2;exact ⟨o,e,ex.2.1⟩
 | _=>exact Sa ty
def OM (K:Rm) (T:String) (r:V->List V->Hp->VK->Prop) (to:TE):TE:=fun σ H Q=>to σ H λx H1=>tyV K T x H1/\r x [] H1 Q
def tBM (K:Rm) (T:String) (r:V->List V->Hp->VK->Prop) (to:TE) (t:TA):TE:=fun σ H Q=>to σ H λx H1=>tyV K T x H1/\t σ H1 λxs H2=>r x xs H2 Q
variable {id:String}
theorem Hy (pa:PlainAttrs T) (slot:Slot T name id) (hty:typeOf (.builtin id)=pure (.type "method_descriptor")) (hm:MtR X id r) (ho:PE X o to)
 (hbase:Vs o name X.env (eval o X.env)=eval o X.env:=by rfl) (hline:(apos.endLine==cpos.line)=XZ:=by rfl):PE X (.Call (.Attribute o name apos) [] [] cpos) (OM X.K T r to):=by
 intro zt s σ H Q I h;refine Xx hbase hline (thn (ho zt s σ H _ I h) λv s1 zq=>?_);obtain ⟨x,H1,I1,r1,ty,q1⟩:=zq;obtain ⟨h1,h2⟩:=uf I1 r1 ty;exact ⟨T,id,pa,slot,hty,h1,h2,Vi rfl (Xg (hm zt s1 σ H1 x [] v [] Q I1 r1 .nil q1))⟩
theorem Gk (pa:PlainAttrs T) (slot:Slot T name id) (hty:typeOf (.builtin id)=pure (.type "method_descriptor")) (hm:MtR X id r) (ho:PE X o to) (ha:PA X (e::es) t)
 (hbase:Vs o name X.env (eval o X.env)=eval o X.env:=by rfl)
 (hfew:((TH cpos (RX (e::es) X.env)).all (λx=>!x.1)&&(VQ cpos (UK [] X.env)).all (λx=>x.1.isSome)
 &&decide ((e::es).length+([]:List Wy).length+(if ([]:List Wy).isEmpty then 0 else 1) < 30))=XZ:=by rfl)
 (hline:(apos.endLine==cpos.line)=XZ:=by rfl) (hs:RX (e::es) X.env=(X0,eval e X.env)::RX es X.env:=by rfl) (hplain:(TH cpos (RX es X.env)).any (·.1)=X0:=by rfl) :
 PE X (.Call (.Attribute o name apos) (e::es) [] cpos) (tBM X.K T r to t):=by
 intro zt s σ H Q I h;refine wpAny_Call_method_late hbase hfew hline rfl (thn (ho zt s σ H _ I h) λv s1 zq=>?_);obtain ⟨x,H1,I1,r1,ty,q1⟩:=zq;obtain ⟨h1,h2⟩:=uf I1 r1 ty;refine ⟨T,id,pa,slot,hty,h1,h2,?_⟩;have hA:=ha cpos zt s1 σ H1 _ I1 q1;rw[hs] at hA ⊢;refine Vi (by show (X0||(TH cpos (RX es X.env)).any (·.1))=X0;rw[hplain]<;>rfl) (Xc ?_);exact thn hA λus s2 ⟨vs,H2,I2,r2,q2⟩=>hm zt s2 σ H2 x vs v us Q I2 r1 r2 q2
/- xs.append(e),list.index on a module's tuple .. are MtR facts of 06m -/
end
end L2
namespace L2
open PySem PySem.Spec PyProof.Rows
def MtM (X:Cx) (id:String) (r:V->List V->Hp->VK->Prop):Prop :=
 ∀ (zt:List (Z0×Obj)) (s:Rv) (σ:St) (H:Hp) (x:V) (xs:List V) (v:Z1) (us:List Z1) (Q:VK),Inv X zt σ H s->RelV x v->av xs us->r x xs H Q →
  ZY (RV X.prog X.w) X.A (call (.builtin id) (v::us)) (EP X zt σ Q) X.xe s
theorem av.one {x:V}{us:List Z1} (h:av [x] us):∃ u,us=[u]/\RelV x u:=by cases h with|cons r t=>cases t;exact ⟨_,rfl,r⟩
theorem av.two {x y:V}{us:List Z1} (h:av [x,y] us):∃ u v,us=[u,v]/\RelV x u/\RelV y v:=by cases h with|cons r t=>obtain ⟨v,rfl,q⟩:=av.one t;exact ⟨_,v,rfl,r,q⟩
theorem av.zero:∀ {us:List Z1},av [] us->us=[]
 | _,.nil=>rfl
theorem av.dropLast (h:av xs us):av xs.dropLast us.dropLast:=by
 induction h with
 | nil=>exact .nil
 | cons r t ih =>
  cases t with
  | nil=>exact .nil| cons q t'=>exact .cons r ih
theorem av.rep (h:av xs us):∀ k:Nat,av (RO k xs).flatten (RO k us).flatten
 | 0=>.nil
 | k+1=>by rw[SH,SH,TM,TM];exact av.append h (av.rep h k)
theorem ug (l:List α):l.eraseIdx (l.length - 1)=l.dropLast:=by
 induction l with
 | nil=>rfl
 | cons a r ih =>
  cases r with
  | nil=>rfl
  | cons b r =>
   have e:(a::b::r).length - 1=((b::r).length - 1)+1:=by have h1:(a::b::r).length=r.length+2:=rfl;have h2:(b::r).length=r.length+1:=rfl;lia
   rw[e,List.eraseIdx_cons_succ,ih]
   all_goals rfl
theorem foldl_rep (its:List Z1):∀ (k:Nat) (acc:List Z1),
 WH (λx1 x2=>x1++x2) acc.toArray (RO k its.toArray)=(acc++(RO k its).flatten).toArray
 | 0,acc=>by simp
 | k+1,acc=>by
  have e:acc.toArray++its.toArray=(acc++its).toArray:=by simp
  have e2:(acc++its)++(RO k its).flatten=acc++(RO (k+1) its).flatten:=by rw[SH,TM,SW]
  rw[← e2,← foldl_rep its k (acc++its),← e,SH,List.foldl_cons]
section
theorem Inv.Dt {its its':List Z1}{n:Nat}{f:Array Z1->Array Z1}{t':Nat} (I:Inv X zt σ H s) (hH:H l=XX (.lst xs))
 (e:s.heap.get? l=XX { cls:=.type "list",data:=.seq its.toArray n }) (hf:f its.toArray=its'.toArray) (hv:av ys its') (hz:ys.length<=ZX) :
 Inv X zt σ (upd H l (.lst ys)) { s with heap:=s.heap.update l (Uq f),toks:=t' }:=by
 have q:=PySem.IsL.update e f;rw[hf] at q;refine I.write (x:=l) (e:=l) (by rw[hH];exact trivial) (.inl rfl) (λb' u hb hu=>(Vm s.heap (Uq f) (Ti hb)).trans hu) ⟨_,q⟩ ?_;exact ⟨hz,its',_,hv,q⟩
theorem Inv.K8 (I:Inv X zt σ H s) (hv:av ys its) (hz:ys.length<=ZX) :
 Inv X zt σ (upd H s.heap.objs.size (.lst ys)) { s with heap:=s.heap.push { cls:=.type "list",data:=.seq its.toArray },toks:=t' } :=
 I.laid (λ_ _ q=>Ro _ q) (Rq _) ⟨hz,its,0,hv,RT _ rfl⟩
theorem Inv.fresh (I:Inv X zt σ H s):H s.heap.objs.size=XY:=I.hok.fresh (Rq _)
theorem Inv.Dv (I:Inv X zt σ H s) (hH:H l=XX (.lst xs)):xs.length<=ZX/\∃ (its:List Z1) (n:Nat),av xs its/\xs.length=its.length/\s.heap.get? l=XX { cls:=.type "list",data:=.seq its.toArray n }:=by obtain ⟨z,its,n,r,e⟩:=I.hok l _ hH;exact ⟨z,its,n,r,r.length,e⟩
theorem mJ (h:n<=ZX):SS n=X0:=by unfold SS;exact decide_eq_false (by lia)
end
section
def Dw:V->List V->Hp->VK->Prop:=λx vs H Q=>∃ l xs y,x=.ref l/\vs=[y]/\H l=XX (.lst xs)/\xs.length < ZX/\Q .non (upd H l (.lst (xs++[y])))
theorem xH:MtM X "list.append" Dw:=by intro zt s σ H x vs v us Q I rx rv h;obtain ⟨l,xs,y,rfl,rfl,hH,hz,q⟩:=h;cases rx;obtain ⟨u,rfl,ru⟩:=rv.one;obtain ⟨z,its,n,r,hl,e⟩:=I.Dv hH;refine Uh F.slot_list_append ⟨_,e,rfl⟩ F.entry_list_append (F.args_list_append_2 _ _) (PySem.list_append l its.toArray n u (by rw[Rr];lia)) ⟨e,?_⟩;refine ⟨.non,_,I.Dt (its':=its++[u]) hH e (by simp) (r.append (.cons ru .nil)) ?_,rfl,q⟩;rw[RI,Sv];lia
def ON:V->List V->Hp->VK->Prop:=λx vs H Q=>∃ l xs y,x=.ref l/\vs=[]/\H l=XX (.lst xs)/\xs[xs.length - 1]?=XX y/\Q y (upd H l (.lst xs.dropLast))
theorem Hz:MtM X "list.pop" ON:=by
 intro zt s σ H x vs v us Q I rx rv h;obtain ⟨l,xs,y,rfl,rfl,hH,hy,q⟩:=h;cases rx;have hus:=rv.zero;subst hus;obtain ⟨z,its,n,r,hl,e⟩:=I.Dv hH;obtain ⟨u,hu,ru⟩:=r.get hy;have hy':its.toArray[its.toArray.size - 1]?=XX u:=by show its.toArray[its.length - 1]?=XX u;rw[← W2,← hl];exact hu
 refine Uh F.slot_list_pop ⟨_,e,rfl⟩ F.entry_list_pop (F.args_list_pop_1 _) (MeetsSeq.list_pop_last l its.toArray n u hy' (by rw[Rr];lia)) ⟨e,?_⟩;refine ⟨y,_,I.Dt (its':=its.dropLast) hH e ?_ r.dropLast ?_,ru,q⟩
 ·show its.toArray.eraseIdxIfInBounds (its.toArray.size - 1)=its.dropLast.toArray;rw[Rr,List.eraseIdxIfInBounds_toArray,ug]
 ·rw[S9];lia
theorem len_rep (xs:List α) (k:Nat):(RO k xs).flatten.length=k*xs.length:=by
 induction k with
 | zero=>simp| succ k ih=>rw[SH,TM,RI,ih,Nat.succ_mul,Nat.add_comm]
end
section
variable {E:Z1->Rv->Prop}
set_option maxRecDepth 100000 in
end
section
end
end L2
namespace Att
open PySem PySem.W PySem.Calls PyProof.Rows
theorem lJ:∀ (ns:List Int) (vs:List Z1),WellAll P h vs (ns.map WData.int)->IntsAre vs ns:=by
 intro ns
 induction ns with
 | nil =>
  intro vs w;rw[Um] at w;cases w;exact .nil
 | cons n ns ih =>
  intro vs w;rw[RZ] at w;cases w with
  | cons a b =>
   cases a;exact .cons _ _ (ih _ b)
theorem xJ {l:OpenLaw}{n:Nat} (hn:l.most=XX n) {P:Params}{h:Heap}{args:List WData}{vals:List Z1}
 (hpre:l.row.toRowW.claim.pre args=XZ) (hwl:WellAll P h vals args) :
 ∃ a vs ns,vals=[Sg a]/\args=[WData.list (ns.map WData.int)]/\h.get? a=XX { cls:=.type "list",data:=.seq vs.toArray }/\IntsAre vs ns/\ns.length<=n:=by
 have hsh:WShape.hasAll [] args [.list .int]=XZ:=(pre_splitW hpre).1;have hc:l.pre.holds [] { args:=args }=XZ:=(pre_splitW hpre).2;obtain ⟨d,r,rfl,h1,h2⟩:=hasAllW_cons hsh;obtain rfl:=hasAllW_nil h2;obtain ⟨xs,rfl,h3⟩:=hasW_list h1;obtain ⟨ns,rfl⟩:=items_int h3;have hlen:ns.length<=n:=by
  unfold OpenLaw.pre at hc;have h4:(WTm.not (.lt (.lit (.int (n:Int))) (.len (.arg 0)))).holds [] { args:=[.list (ns.map .int)] }=XZ:=by have h4:=(holds_andW hc).1;rw[hn] at h4;exact h4
  have h5:=condW_of h4 (w_not (w_lt w_lit (w_len_list (w_arg rfl))));rw[RN] at h5;refine Nat.le_of_not_lt λq=>?_;have q':(n:Int) < ((ns.length:Nat):Int):=by lia
  first
   | (rw[decide_eq_true q'] at h5;exact absurd h5 (by decide))
   | (simp at h5;lia)
 cases hwl with
 | cons w1 w2 =>
  cases w2;cases w1 with
  | list ho hall=>exact ⟨_,_,ns,rfl,rfl,ho,lJ ns _ hall,hlen⟩
theorem xK (l:OpenLaw) (args:List WData):l.row.toRowW.claim.post args (.bool XZ) args=XZ :=
 postW_of (r:=l.row.toRowW) (X:=(XZ==XZ))
  (show WShape.has [] (.bool XZ) .bool=XZ by first|rfl|decide|simp[WShape.has,WShape.arms,WShape.armsAll])
  (show (WTm.eq .res (.lit (.bool XZ))).value [] { args:=args,res:=XX (.bool XZ),after:=args }=XX (.bool (XZ==XZ)) from w_eq_bool (w_res rfl) w_lit) rfl
theorem rG {l:OpenLaw}{n:Nat}{q:Se}{loose:List ZZ}{XP:(ZZ->Option Z1)->Heap->Prop}{YP:SB->Heap->Prop}{d:DefRec}
 (hn:l.most=XX n) (hdf:d.params.defaults=[])
 (call:∀ (w:SB) (s₀ s₁:Rv) (mg mb:ZZ->Option Z1) (fa:Z0) (o:Obj) (pm cd doc:Z1) (a:Z0) (vs:List Z1) (ns:List Int),
  Ground q loose [] XP w s₀ mg mb s₁.heap->YP w s₁.heap →
  s₁.heap.get? fa=XX o->o.data=.func (docDef d.name d.params d.body d.scope pm cd doc)->s₁.heap.CodeRec cd d.name->mg d.name=XX (.ref fa) →
  s₁.heap.get? a=XX { cls:=.type "list",data:=.seq vs.toArray }->IntsAre vs ns->ns.length<=n->s₁.gens=#[] →
  codeAny (RV l.prog w) XH (.call (.ref fa) ⟨[.ref a],[]⟩) (λr s'=>r=.ok (.ret (.bool XZ))/\OldK s₁.heap s'.heap/\s'.os=s₁.os/\Wc s'.gens) s₁) :
 WalkO q loose XP YP l.row.toRowW d [] (λf vs=>XJ f vs):=by
 intro w s₀ s₁ mg mb G Y fa o pm cd doc dV kV ho hd hcd hD hmg hg args vals as hpre hlay hrd hwl hlo;obtain rfl:dV=.none:=Dflts.none hD hdf;obtain rfl:kV=.none:=Dflts.noKw hD;obtain ⟨a,vs,ns,rfl,rfl,hobj,hints,hlen⟩:=xJ hn hpre hwl;refine enter_call (Uv (call w s₀ s₁ mg mb fa o pm cd doc a vs ns G Y ho (fd_plain hd) hcd hmg hobj hints hlen hg) λr s' hq=>?_);obtain ⟨rfl,h2,h3,h4⟩:=hq;exact ⟨.inl ⟨.bool XZ,.bool XZ,[],rfl,λ_=>rfl,.bool XZ,xK l _,λ_=>⟨List.Pairwise.nil,λ_ hm=>(nomatch hm)⟩⟩,h2,h3,h4⟩
section
variable {E:Z1->Rv->Prop}{K:Frag}
noncomputable def ledger (h:Heap) (L d:Z0):List (Z0×Obj):=(RK h.objs.size).filterMap λa=>if a=L\/a=d then XY else (h.get? a).map λo=>(a,o)
end
end Att
namespace L2
open PySem PySem.Spec PyProof.Rows
theorem oU:∀ {vs:List Z1}{ns:List Int},IntsAre vs ns->av (ns.map V.int) vs
 | _,_,.nil=>.nil| _,_,.cons n t h=>.cons ⟨t,rfl⟩ (oU h)
end L2
namespace L2
open PySem PySem.Spec PyProof.Rows
noncomputable abbrev KOf {K:Rm}{h:Heap} (_:K.In h):Rm:=K
end L2
/- THE LAST THEOREM (shape;LID,My.* are yours):
 My.Adr: a structure of the addresses that your layer names (classes,functions);My.Txt K t: a structure (Prop) of the equations over K;
 My.txt_mk:{K}{implicit addresses ..} (e1:nsIn K RE "law"=XX (XX (.ref f))) (e2:K.lookup f=XX ⟨oc,od,.func (fnOf "law" "law" params body scope dV kV doc pm an cdv ct),sl⟩) (e3:codeIn K cdv "law"=XZ) ..:∃ t,My.Txt K t
set_option maxRecDepth 100000 in
set_option maxHeartbeats 0 in
theorem PySem.Challenge.Dy:PySem.Challenge.rw_LID.Holds:=by
 w_on;o_law;k_head;(case hw=>w_witness2)
 k_fill
 refine L2.walk_of (l:=PySem.Challenge.rw_LID) (n:=63) (k:=40) (x:="script") (CX:=λw=>..) (sp:=λ_=>My.Cz) rfl (by decide) rfl ⟨rfl,by decide,by decide⟩ (λw h Y=>PySem.W.kIn_of Y) ?F ?S ?C
 case F =>
  intro w mg fa h KX G hmg;have T:∃ t,My.Txt (L2.KOf KX) t:=by
   dsimp only[L2.KOf] -- K must stand as «<heap const> w.params» for k_is;refine' My.txt_mk ?e1 ?e2 ?e3 ..
   (case e1=>PySem.W.k_is) -- in the order: a name->its address->its object->its parts
   (case e2=>PySem.W.k_is)
   ..
  obtain ⟨t,T⟩:=T;have e0:=hmg.symm.trans (Su KX G T.law);cases e0 -- fa is the law's own address;exact ⟨_,λs u=>.of_eq rfl,λbase kb nb=>My.law_fn T kb nb⟩ -- if «.of_eq rfl» comes too early: refine' ⟨_,?b,λbase kb nb=>My.law_fn T kb nb⟩;exact λs u=>.of_eq rfl
 case S=>exact λw H a ns hl hO hS=>..
 case C=>exact ..
(the tactic k_is has no namespace: write k_is) -/
namespace L2
open PySem PySem.Spec PyProof.Rows
abbrev CX0:CXT:=λ_ _ _ _ _ _=>False
abbrev E0:XK:=λ_ _ _=>False
theorem mK:eN CX0 X E0:=λ_ _ _ _ _ _ _ h=>h.elim
inductive K9 (K:Rm) (x qual:ZZ) (st:V0) (f:Z0) (fd:Tz):Prop where
 | mk (oc:Z1) (od:Option Z0) (kV doc pm:Z1) (an:Option Z0) (cdv ct:Z1) (osl:Array (Option Z1)) (h1:fd=SL x qual (cE st) (aq st) (aa st) .none kV doc pm an cdv ct) (h2:K.lookup f=XX ⟨oc,od,.func fd,osl⟩) (h3:UV K cdv qual=XZ):K9 K x qual st f fd
structure Fun (K:Rm) (x qual:ZZ) (st:V0) (f:Z0) (fd:Tz):Prop where
 ex:K9 K x qual st f fd
 kp:Sd K (.ref f)=XZ
section
variable {K:Rm}
theorem Fun.binds {st:V0} (F:Fun K x qual st f fd)
 (h:∀ (kV doc pm:Z1) (an:Option Z0) (cdv ct:Z1) (us:List Z1),us.length=ps.length->WK (SL x qual (cE st) (aq st) (aa st) .none kV doc pm an cdv ct) ⟨us,[]⟩=pure (ps.zip us)):Binds K fd ps []:=by
 obtain ⟨oc,od,kV,doc,pm,an,cdv,ct,osl,rfl,lk,hcd⟩:=F.ex;exact .all (h kV doc pm an cdv ct)
theorem HA {st:V0}{osl:Array (Option Z1)}{kV:Z1} (l:K.lookup f=XX ⟨oc,od,.func (SL x qual (cE st) (aq st) (aa st) .none kV doc pm an cdv ct),osl⟩)
 (c:UV K cdv qual=XZ) (k:Sd K (.ref f)=XZ):Fun K x qual st f (SL x qual (cE st) (aq st) (aa st) .none kV doc pm an cdv ct):=⟨⟨oc,od,kV,doc,pm,an,cdv,ct,osl,rfl,l,c⟩,k⟩
end
theorem xM (h:n<=1000):n < ZX:=VY h (by decide)
section
end
end L2
end
section
namespace L2
open PySem PySem.Spec PyProof.Rows
section
variable {κ:Type} [DecidableEq κ]
noncomputable def putK (kvs:List (κ×V)) (k:κ) (v:V):List (κ×V) :=
 if (kvs.any λkv=>decide (kv.1=k))=XZ then kvs.map (λkv=>if kv.1=k then (kv.1,v) else kv) else kvs++[(k,v)]
theorem rH (kvs:List (κ×V)) (k:κ) (v:V):(putK kvs k v).length<=kvs.length+1:=by unfold putK;split;rw[RN];lia;rw[RI,R6,SY];lia
theorem KV.any (r:KV kvs vs) (k:κ):(kvs.any λkv=>decide (kv.1=k))=vs.any λkv=>decide (kv.1=k):=by
 unfold KV at r
 induction r with
 | nil=>rfl| cons h t ih=>rw[UO,UO,ih,h.1]
theorem KV.repl (r:KV kvs vs) (k:κ) (ry:RelV y u) :
 KV (kvs.map λkv=>if kv.1=k then (kv.1,y) else kv) (vs.map λkv=>if kv.1=k then (kv.1,u) else kv):=by
 unfold KV at r ⊢
 induction r with
 | nil=>exact .nil
 | @cons p q ps qs h t ih =>
  rw[RZ,RZ];refine .cons ?_ ih;obtain ⟨h1,h2⟩:=h
  by_cases e:p.1=k
  rw[if_pos e,if_pos (h1.symm.trans e)];exact ⟨h1,ry⟩;rw[if_neg e,if_neg (λz=>e (h1.trans z))];exact ⟨h1,h2⟩
theorem KV.put (r:KV kvs vs) (k:κ) (ry:RelV y u):KV (putK kvs k y) (stored vs k u):=by
 unfold putK stored;rw[r.any k]
 by_cases e:(vs.any λkv=>decide (kv.1=k))=XZ
 rw[if_pos e,if_pos e];exact r.repl k ry;rw[if_neg e,if_neg e];exact Paired.snoc r ⟨rfl,ry⟩
theorem KV.length (r:KV kvs vs):kvs.length=vs.length:=Paired.length r
end
theorem La (r:RelV (kV k) u):(aU P w).is k u=XZ:=by
 cases k with
 | inl i=>obtain ⟨t,e⟩:=(show ∃ t,u=Vo i t from r);subst e;exact qR P w i t| inr x=>obtain ⟨t,e⟩:=(show ∃ t,u=U5 x t from r);subst e;exact fH P w x t
section
theorem Lb (ok:HOk P w H h) (e:Rd H a u):cy P w H h a u:=e.ok ok
theorem Lc (ok:HOk P w H h) (e:Rd H a (.dK kvs)):kvs.length<=ZX/\(a==Uu)=X0/\∃ vs,KV kvs vs/\h.DictOf (aU P w) a vs :=
 show cy P w H h a (.dK kvs) from Lb ok e
theorem zx (ok:HOk P w H h) (e:H a=XX (.dK kvs)):kvs.length<=ZX/\(a==Uu)=X0/\∃ vs,KV kvs vs/\h.DictOf (aU P w) a vs:=Lc ok (.inl e)
end
section
variable {E:Z1->Rv->Prop}
theorem Inv.big (I:Inv X zt σ H s):Uu < s.heap.objs.size:=by have h:RE < s.heap.objs.size:=(I.mod.glob.keeps I.bk).lt;exact We (by decide) h
theorem Dz (I:Inv X zt σ H s) (mu:Mut (H a)) (hs:Up a s.heap h') (he:∃ q,h'.get? a=XX q) (new:cy X.prog X.w (upd H a ob) h' a ob) :
 Inv X zt σ (upd H a ob) { s with heap:=h',toks:=t' } :=
 I.write (x:=a) (e:=a) mu (.inl rfl) (λb q hb z=>(hs.2 b hb).trans z) he new
theorem HB (z:kvs.length<=ZX) (hd:(a==Uu)=X0) (rel:KV kvs vs) (dd:h'.DictOf (aU P w) a vs) :
 cy P w H' h' a (.dK kvs):=⟨z,hd,vs,rel,dd⟩
end
theorem zy (h:Heap) (hb:Uu < h.objs.size):cy P w H (h.push { cls:=.type "dict",data:=.dict #[] }) h.objs.size (.dK []) :=
 ⟨SC _,beq_eq_false_iff_ne.mpr (Ti (Sk hb)),[],.nil,Heap.DictOf.new h⟩
end L2
end
section
namespace BT
open PySem PySem.W PyProof.Rows
noncomputable def Ends {α:Type} (n:Nat) (P:α->Prop):KasT α->Prop
 | .ret a=>P a| .ask i j k=>i < n/\j < n/\∀ b,Ends n P (k b)
end BT
end
section
namespace BS
open PySem PySem.W PySem.Spec PyProof.Rows
section
variable {E:Z1->Rv->Prop}
end
end BS
end
section
namespace BX
open PySem PyProof.Rows
def Ri (xs:Array Nat):Prop:=∀ i j a b:Nat,i < j->xs[i]?=XX a->xs[j]?=XX b->a < b
structure Tb (bt:Bool) (t:SetTable):Prop where
 led:t.led=!bt
 ri:Ri t.place
section
variable {prog:Se}{w:SB}{A:TR}{E:Z1->Rv->Prop}{s:Rv}
end
section
variable {prog:Se}{w:SB}{A:TR}{E:Z1->Rv->Prop}{R:Result->Rv->Prop}
end
section
variable {prog:Se}{w:SB}{A:TR}{E:Z1->Rv->Prop}{s:Rv}
end
noncomputable def itO (first:Z1) (i n ep:Nat) (a:Z0):Obj:={ cls:=.type "set_iterator",data:=.fields #[first,.int i 0,.ref a,.int n 0,.int ep 0] }
noncomputable def slotAt (pl:Array Nat):Nat->Nat
 | 0=>0
 | i+1=>match pl[i]? with
  | some j=>j+1| none=>0
inductive Md (w:SB) (h:Heap) (a:Z0) (es:Array (Int×Z1)) (ep:Nat) (t:SetTable):Z1->List Z1->Nat->Prop where
 | A {z:Int}{i:Nat} (hb:w.params.followText "set-order"=XZ):Md w h a es ep t (.int z 0) ((pickOrder (w.params.setOrder a ep) es).toList.map (·.2)) i
 | B {T:Z0}{pl:List Nat}{i:Nat} (hT:h.IsTuple T (pl.map λ(p:Nat)=>Vo p 0).toArray) (hp:∀ p∈pl,p < es.size):Md w h a es ep t (.ref T) (pl.filterMap λp=>es[p]?.map (·.2)) i
 | C {i:Nat} (hb:w.params.followText "set-order"=X0) (hd:(!t.plain&&decide (es.size > 1))=X0) (ht:Tb X0 t):Md w h a es ep t (.int (slotAt t.place i) 0) (es.toList.map (·.2)) i
structure NX (w:SB) (h:Heap) (it a:Z0) (ord:List Z1) (i:Nat):Prop where
 ex:∃ o es ep t first,h.get? a=XX o/\o.data=.set es ep t/\t.fits es.size=XZ/\h.get? it=XX (itO first i es.size ep a)/\Md w h a es ep t first ord i
section
variable {prog:Se}{w:SB}{A:TR}{E:Z1->Rv->Prop}{s:Rv}
end
end BX
end
section
namespace BT
open PySem
inductive D where
 | non|bl (b:Bool)|int (i:Int)|str (x:ZZ)|tup (xs:List D)|lst (xs:List D)
inductive FK where
 | f (x:ZZ)|m (c x:ZZ)|l (i:Nat)
 deriving DecidableEq
instance:Coe String FK:=⟨λs=>.f (RG s)⟩
inductive Cp where
 | p (d:D)|o (n:Nat)
inductive W where
 | p (d:D)|r (n:Nat)|k (kvs:List (ZZ×D))|o (n:Nat)|c (f:FK) (cs:List Cp)|x (c:ZZ)
noncomputable def Cp.w:Cp->W
 | .p d=>.p d| .o n=>.o n
@[simp] theorem Cp.w_p (d:D):Cp.w (.p d)=.p d:=rfl
@[simp] theorem Cp.w_o (n:Nat):Cp.w (.o n)=.o n:=rfl
noncomputable def rJ:W->Option Cp
 | .p d=>XX (.p d)| .o n=>XX (.o n)| .r _=>XY| .k _=>XY| .c _ _=>XY| .x _=>XY
@[simp] theorem Nd (d:D):rJ (.p d)=XX (.p d):=rfl
@[simp] theorem Nf (n:Nat):rJ (.o n)=XX (.o n):=rfl
noncomputable abbrev Ky:=Int ⊕ ZZ
inductive Cl where
 | l (xs:List D)|o (c:ZZ) (fs:List (ZZ×W))|d (kvs:List (Ky×D))
noncomputable abbrev HH:=List Cl
noncomputable abbrev Sl:=List (Option W)
set_option genInjectivity false in
inductive Bin where
 | add|sub|mul|mod|fdiv|pow
set_option genInjectivity false in
inductive Cm where
 | eq|ne|lt|le|gt|ge|isN|notN|mem|nmem
set_option genInjectivity false in
inductive Sr where
 | seq|rng1|rng2|rev|enu|zip2
inductive Bi where
 | len|abs|int|str|bool|list|tuple|all|any|isInt|isBool|isStr|isTuple|isList|min2|max2
 | sum|sorted|max1|lzip|nset|sset
set_option genInjectivity false in
inductive Me where
 | append|pop|extend|tindex|sindex|dget|count|lindex
set_option genInjectivity false in
mutual
inductive E where
 | var (i:Nat)
 | cst (d:D)
 | glo (x:ZZ)
 | bin (o:Bin) (a b:E)
 | neg (a:E)
 | not (a:E)
 | and (a b:E)
 | or (a b:E)
 | cmp (o:Cm) (a b:E)
 | ite (c a b:E)
 | tup (as:Es)
 | lst (mu:Bool) (as:Es)
 | idx (a i:E)
 | slc (a:E) (lo hi:Es)
 | stp (mu:Bool) (k:Int) (a:E)
 | call (f:ZZ) (as:Es)
 | fld (a:E) (f:ZZ)
 | meth (o:E) (m:ZZ) (as:Es)
 | make (c:ZZ) (as:Es)
 | bi (b:Bi) (mu:Bool) (as:Es)
 | lsr (mu:Bool) (sr:Sr) (as:Es)
 | me (m:Me) (o:E) (as:Es)
 | comp (mu:Bool) (sr:Sr) (sa:Es) (tg:List ZZ) (fv:List (Nat×ZZ)) (cond:Es) (elt:E)
 | callv (i:Nat) (as:Es)
 | methL (o:E) (m:ZZ) (as:Es) (L:Nat) (fv:List (Nat×ZZ))
 | dnew
 | isx (c:ZZ) (a:E)
 | dli (o:E)
 | cat (a b:E)
inductive Es where
 | nil
 | cons (a:E) (as:Es)
end
set_option genInjectivity false in
inductive S where
 | nil
 | seq (a b:S)
 | set (i:Nat) (e:E)
 | aug (i:Nat) (o:Bin) (e:E)
 | put (i:Nat) (k e:E)
 | putd (i:Nat) (k e:E)
 | setf (o:E) (f:ZZ) (e:E)
 | augf (o:E) (f:ZZ) (op:Bin) (e:E)
 | ex (e:E)
 | ret (e:E)
 | ife (c:E) (a b:S)
 | whl (c:E) (b:S)
 | for (tg:List (Nat×ZZ)) (sr:Sr) (sa:Es) (b:S)
 | brk|cnt
 | bad
 | rai (c:ZZ) (e:E)
set_option genInjectivity false in
structure Fn where
 ps:List ZZ
 ns:List ZZ
 body:S
noncomputable abbrev Z9 (a:E):Es:=.cons a .nil
noncomputable abbrev Z8 (a b:E):Es:=.cons a (.cons b .nil)
noncomputable abbrev Z7 (a b c:E):Es:=.cons a (.cons b (.cons c .nil))
noncomputable abbrev Z6 (a b c d:E):Es:=.cons a (.cons b (.cons c (.cons d .nil)))
noncomputable abbrev Z5 (a b c d e:E):Es:=.cons a (.cons b (.cons c (.cons d (.cons e .nil))))
noncomputable abbrev Z4 (a b c d e f:E):Es:=.cons a (.cons b (.cons c (.cons d (.cons e (.cons f .nil)))))
noncomputable def bnd {α β:Type} (x:Option (α×HH)) (k:α->HH->Option β):Option β :=
 match x with|some (a,h)=>k a h|none=>XY
@[simp] theorem bH (a:α) (h:HH) (k:α->HH->Option β):bnd (XX (a,h)) k=k a h:=rfl
@[simp] theorem Ld (k:α->HH->Option β):bnd XY k=XY:=rfl
@[simp] noncomputable def lim:Nat:=100000
mutual
@[simp] noncomputable def eqv:D->D->Bool
 | .non,.non=>XZ| .bl a,.bl b=>a==b| .bl a,.int j=>(if a then (1:Int) else 0)==j| .int i,.bl b=>i==(if b then (1:Int) else 0)| .int i,.int j=>i==j| .str x,.str y=>x==y| .tup xs,.tup ys=>nY xs ys| .lst xs,.lst ys=>nY xs ys| _,_=>X0
@[simp] noncomputable def nY:List D->List D->Bool
 | [],[]=>XZ| x::xs,y::ys=>eqv x y&&nY xs ys| _,_=>X0
end
noncomputable def pQ:Cl->Option (List D)
 | .l xs=>XX xs| .o _ _=>XY| .d _=>XY
noncomputable def rK:Cl->Option (ZZ×List (ZZ×W))
 | .l _=>XY| .o c fs=>XX (c,fs)| .d _=>XY
noncomputable def xN:Cl->Option (List (Ky×D))
 | .l _=>XY| .o _ _=>XY| .d kvs=>XX kvs
@[simp] theorem OP (kvs:List (Ky×D)):pQ (.d kvs)=XY:=rfl
@[simp] theorem OQ (kvs:List (Ky×D)):rK (.d kvs)=XY:=rfl
@[simp] theorem OR (kvs:List (Ky×D)):xN (.d kvs)=XX kvs:=rfl
@[simp] theorem OS (xs:List D):xN (.l xs)=XY:=rfl
@[simp] theorem OT (c:ZZ) (fs:List (ZZ×W)):xN (.o c fs)=XY:=rfl
@[simp] theorem OU (xs:List D):pQ (.l xs)=XX xs:=rfl
@[simp] theorem OV (c:ZZ) (fs:List (ZZ×W)):pQ (.o c fs)=XY:=rfl
@[simp] theorem OW (xs:List D):rK (.l xs)=XY:=rfl
@[simp] theorem HC (c:ZZ) (fs:List (ZZ×W)):rK (.o c fs)=XX (c,fs):=rfl
noncomputable def lat (h:HH) (n:Nat):Option (List D):=(h[n]?).bind pQ
noncomputable def oat (h:HH) (n:Nat):Option (ZZ×List (ZZ×W)):=(h[n]?).bind rK
noncomputable def dat (h:HH) (n:Nat):Option (List (Ky×D)):=(h[n]?).bind xN
noncomputable def rL:D->Option Ky
 | .non=>XY| .bl _=>XY| .int i=>XX (.inl i)| .str x=>XX (.inr x)| .tup _=>XY| .lst _=>XY
@[simp] theorem Lf (i:Int):rL (.int i)=XX (.inl i):=rfl
@[simp] theorem Lg (x:ZZ):rL (.str x)=XX (.inr x):=rfl
noncomputable def uh:Ky->D
 | .inl i=>.int i| .inr x=>.str x
@[simp] theorem OX (i:Int):uh (.inl i)=.int i:=rfl
@[simp] theorem OY (x:ZZ):uh (.inr x)=.str x:=rfl
noncomputable def lD (kvs:List (Ky×D)) (k:Ky) (v:D):List (Ky×D) :=
 if (kvs.any λkv=>decide (kv.1=k))=XZ then kvs.map (λkv=>if kv.1=k then (kv.1,v) else kv) else kvs++[(k,v)]
noncomputable def iI (kvs:List (Ky×D)):List D:=kvs.map λq=>.tup [uh q.1,q.2]
noncomputable def rd (w:W) (h:HH):Option D:=match w with
 | .p d=>XX d| .r n=>(lat h n).map D.lst| .k _=>XY| .o _=>XY| .c _ _=>XY| .x _=>XY
@[simp] theorem Q7 (d:D) (h:HH):rd (.p d) h=XX d:=rfl
noncomputable def big (i:Int):Bool:=decide (i.natAbs < 2 ^ 64)
noncomputable def rep (k:Nat) (xs:List D):List D:=(RO k xs).flatten
noncomputable def gJ:Bin->D->D->Option D
 | .add,.int i,.int j=>XX (.int (i+j))
 | .add,.str x,.str y=>if x.length+y.length<=lim then XX (.str (x++y)) else XY
 | .add,.tup xs,.tup ys=>if xs.length+ys.length<=lim then XX (.tup (xs++ys)) else XY
 | .add,.lst xs,.lst ys=>if xs.length+ys.length<=lim then XX (.lst (xs++ys)) else XY
 | .sub,.int i,.int j=>XX (.int (i - j))
 | .mul,.int i,.int j=>if big i||big j then XX (.int (i*j)) else XY
 | .mul,.tup xs,.int k=>if 2<=k&&k<=1000&&!xs.isEmpty&&xs.length*k.toNat<=lim then XX (.tup (rep k.toNat xs)) else XY
 | .mul,.lst xs,.int k=>if -1000<=k&&k<=1000&&xs.length*k.toNat<=lim then XX (.lst (rep k.toNat xs)) else XY
 | .mod,.int i,.int j=>if 0 < j then XX (.int (i % j)) else XY
 | .fdiv,.int i,.int j=>if 0 < j&&j < 1073741824 then XX (.int (i / j)) else XY
 | .pow,.int i,.int j=>if 0<=j&&j<=100&&big i then XX (.int (i ^ j.toNat)) else XY
 | _,_,_=>XY
noncomputable def mL:Bin->D->D->Option D
 | .add,.int i,.int j=>XX (.int (i+j))| .sub,.int i,.int j=>XX (.int (i - j))
 | .mul,.int i,.int j=>if big i||big j then XX (.int (i*j)) else XY
 | _,_,_=>XY
@[simp] theorem Lh (i j:Int):mL .add (.int i) (.int j)=XX (.int (i+j)):=rfl
@[simp] theorem Li (i j:Int):mL .sub (.int i) (.int j)=XX (.int (i - j)):=rfl
@[simp] theorem rM (i j:Int):mL .mul (.int i) (.int j)=if big i||big j then XX (.int (i*j)) else XY:=rfl
@[simp] noncomputable def place (n:Nat) (i:Int):Option Nat :=
 if 0<=i then (if i < n then XX i.toNat else XY) else if -(n:Int)<=i then XX (i+n).toNat else XY
@[simp] noncomputable def atP {α:Type} (xs:List α) (i:Int):Option α:=(place xs.length i).bind λj=>xs[j]?
@[simp] noncomputable def dH (k:ZZ):List (ZZ×D)->Option D
 | []=>XY
 | (x,d)::r=>if k=x then XX d else dH k r
noncomputable def az:D->D->Option D
 | .tup xs,.int i=>atP xs i| .lst xs,.int i=>atP xs i
 | .str x,.int i=>if x.length<=lim then (atP x.cps.toList i).map λc=>.str ⟨#[c]⟩ else XY
 | _,_=>XY
@[simp] noncomputable def clip (n d:Nat):Option Int->Nat
 | none=>d
 | some v=>if v < 0 then (v+(n:Int)).toNat else if v<=(n:Int) then v.toNat else n
@[simp] noncomputable def cut (xs:List D) (lo hi:Option Int):List D:=(xs.drop (clip xs.length 0 lo)).take (clip xs.length xs.length hi - clip xs.length 0 lo)
@[simp] noncomputable def pR:List D->Option (Option Int)
 | []=>XX XY| [.int i]=>XX (XX i)| _=>XY
noncomputable def pS (x:D) (lo hi:Option Int):Option D:=match x with
 | .tup xs=>XX (.tup (cut xs lo hi))| .lst xs=>XX (.lst (cut xs lo hi))| _=>XY
noncomputable def dok:Nat->D->Bool
 | _,.non=>XZ| _,.bl _=>XZ| _,.int _=>XZ| _,.str _=>XZ| 0,.tup _=>X0| 0,.lst _=>X0| n+1,.tup xs=>xs.all (dok n)| n+1,.lst xs=>xs.all (dok n)
@[simp] theorem Ng (n:Nat):dok n .non=XZ:=by cases n<;>rfl
@[simp] theorem OZ (n:Nat) (b:Bool):dok n (.bl b)=XZ:=by cases n<;>rfl
@[simp] theorem Nh (n:Nat) (i:Int):dok n (.int i)=XZ:=by cases n<;>rfl
@[simp] theorem Ni (n:Nat) (x:ZZ):dok n (.str x)=XZ:=by cases n<;>rfl
@[simp] theorem vp (n:Nat) (xs:List D):dok (n+1) (.tup xs)=xs.all (dok n):=rfl
@[simp] theorem lW (n:Nat) (xs:List D):dok (n+1) (.lst xs)=xs.all (dok n):=rfl
noncomputable def bE (x y:D):Bool:=dok 100 x||dok 100 y
@[simp] theorem Lj (x:D) (y:ZZ):bE x (.str y)=XZ:=by simp[bE]
@[simp] theorem Lk (x:D) (y:Int):bE x (.int y)=XZ:=by simp[bE]
@[simp] theorem J0 (x:D) (y:ZZ):bE (.str y) x=XZ:=by simp[bE]
@[simp] theorem J1 (x:D) (y:Int):bE (.int y) x=XZ:=by simp[bE]
@[simp] theorem J2 (x:D):bE x (.tup [])=XZ:=by simp[bE,dok]
@[simp] theorem J3 (x:D):bE x (.lst [])=XZ:=by simp[bE,dok]
@[simp] theorem Nj (x:D) (b:Bool):bE x (.bl b)=XZ:=by simp[bE]
theorem gf (h:dok 100 y=XZ):bE x y=XZ:=by simp[bE,h]
noncomputable def iJ:D->Bool
 | .non=>XZ| .bl _=>X0| .int _=>X0| .str _=>X0| .tup _=>X0| .lst _=>X0
@[simp] theorem J4:iJ .non=XZ:=rfl
@[simp] theorem Ll (z:Bool):iJ (.bl z)=X0:=rfl
@[simp] theorem Ka (z:Int):iJ (.int z)=X0:=rfl
@[simp] theorem Kc (z:ZZ):iJ (.str z)=X0:=rfl
@[simp] theorem Kd (z:List D):iJ (.tup z)=X0:=rfl
@[simp] theorem Ke (z:List D):iJ (.lst z)=X0:=rfl
noncomputable def cL:Cm->D->D->Option Bool
 | .eq,x,y=>if bE x y then XX (eqv x y) else XY
 | .ne,x,y=>if bE x y then XX (!eqv x y) else XY
 | .lt,.int i,.int j=>XX (decide (i < j))| .le,.int i,.int j=>XX (decide (i<=j))| .gt,.int i,.int j=>XX (decide (j < i))| .ge,.int i,.int j=>XX (decide (j<=i))| .isN,x,.non=>XX (iJ x)| .notN,x,.non=>XX (!iJ x)
 | .mem,x,.tup ys=>if ys.all λy=>bE y x then XX (ys.any λy=>eqv y x) else XY
 | .mem,x,.lst ys=>if ys.all λy=>bE y x then XX (ys.any λy=>eqv y x) else XY
 | .nmem,x,.tup ys=>if ys.all λy=>bE y x then XX (!ys.any λy=>eqv y x) else XY
 | .nmem,x,.lst ys=>if ys.all λy=>bE y x then XX (!ys.any λy=>eqv y x) else XY
 | _,_,_=>XY
@[simp] noncomputable def intsOf:List D->Option (List Int)
 | []=>XX []| .int i::r=>(intsOf r).map (i :: ·)| _=>XY
@[simp] noncomputable def allB:List D->Option Bool
 | []=>XX XZ
 | .bl b::r=>if b then allB r else XX X0
 | _=>XY
@[simp] noncomputable def anyB:List D->Option Bool
 | []=>XX X0
 | .bl b::r=>if b then XX XZ else anyB r
 | _=>XY
noncomputable def isI:D->Bool
 | .non=>X0| .bl _=>XZ| .int _=>XZ| .str _=>X0| .tup _=>X0| .lst _=>X0
@[simp] theorem Nk:isI .non=X0:=rfl
@[simp] theorem O0 (z:Bool):isI (.bl z)=XZ:=rfl
@[simp] theorem Nl (z:Int):isI (.int z)=XZ:=rfl
@[simp] theorem Nn (z:ZZ):isI (.str z)=X0:=rfl
@[simp] theorem Np (z:List D):isI (.tup z)=X0:=rfl
@[simp] theorem Nq (z:List D):isI (.lst z)=X0:=rfl
noncomputable def isB:D->Bool
 | .non=>X0| .bl _=>XZ| .int _=>X0| .str _=>X0| .tup _=>X0| .lst _=>X0
@[simp] theorem Nr:isB .non=X0:=rfl
@[simp] theorem O2 (z:Bool):isB (.bl z)=XZ:=rfl
@[simp] theorem Nt (z:Int):isB (.int z)=X0:=rfl
@[simp] theorem Nu (z:ZZ):isB (.str z)=X0:=rfl
@[simp] theorem Nv (z:List D):isB (.tup z)=X0:=rfl
@[simp] theorem Nx (z:List D):isB (.lst z)=X0:=rfl
noncomputable def isS:D->Bool
 | .non=>X0| .bl _=>X0| .int _=>X0| .str _=>XZ| .tup _=>X0| .lst _=>X0
@[simp] theorem Ny:isS .non=X0:=rfl
@[simp] theorem O3 (z:Bool):isS (.bl z)=X0:=rfl
@[simp] theorem Nz (z:Int):isS (.int z)=X0:=rfl
@[simp] theorem NB (z:ZZ):isS (.str z)=XZ:=rfl
@[simp] theorem NC (z:List D):isS (.tup z)=X0:=rfl
@[simp] theorem ND (z:List D):isS (.lst z)=X0:=rfl
noncomputable def isT:D->Bool
 | .non=>X0| .bl _=>X0| .int _=>X0| .str _=>X0| .tup _=>XZ| .lst _=>X0
@[simp] theorem NF:isT .non=X0:=rfl
@[simp] theorem O4 (z:Bool):isT (.bl z)=X0:=rfl
@[simp] theorem NG (z:Int):isT (.int z)=X0:=rfl
@[simp] theorem NH (z:ZZ):isT (.str z)=X0:=rfl
@[simp] theorem NI (z:List D):isT (.tup z)=XZ:=rfl
@[simp] theorem NJ (z:List D):isT (.lst z)=X0:=rfl
noncomputable def isL:D->Bool
 | .non=>X0| .bl _=>X0| .int _=>X0| .str _=>X0| .tup _=>X0| .lst _=>XZ
@[simp] theorem NK:isL .non=X0:=rfl
@[simp] theorem O5 (z:Bool):isL (.bl z)=X0:=rfl
@[simp] theorem NL (z:Int):isL (.int z)=X0:=rfl
@[simp] theorem NO (z:ZZ):isL (.str z)=X0:=rfl
@[simp] theorem NP (z:List D):isL (.tup z)=X0:=rfl
@[simp] theorem NQ (z:List D):isL (.lst z)=XZ:=rfl
noncomputable def sortI (ns:List Int):List Int:=ns.mergeSort λa b=>decide (a<=b)
noncomputable def O6:List Int->Option Int
 | []=>XY| n::ns=>XX (ns.foldl max n)
@[simp] noncomputable def DA:List D->List D->List D
 | x::xs,y::ys=>.tup [x,y]::DA xs ys| _,_=>[]
noncomputable def ded (ns:List Int):List Int:=ns.foldl (fun σ v=>if σ.any (·==v) then σ else σ++[v]) []
noncomputable def biD:Bi->List D->Option D
 | .len,[.tup xs]=>XX (.int xs.length)| .len,[.lst xs]=>XX (.int xs.length)
 | .len,[.str x]=>if x.length<=lim then XX (.int x.length) else XY
 | .abs,[.int i]=>XX (.int (if i < 0 then -i else i))| .int,[.int i]=>XX (.int i)| .int,[.bl b]=>XX (.int (if b then 1 else 0))
 | .str,[.int i]=>if big i then XX (.str (toString i)) else XY
 | .tuple,[.lst xs]=>XX (.tup xs)| .tuple,[.tup xs]=>XX (.tup xs)| .list,[.lst xs]=>XX (.lst xs)| .list,[.tup xs]=>XX (.lst xs)| .all,[.lst xs]=>(allB xs).map .bl| .any,[.lst xs]=>(anyB xs).map .bl| .isInt,[x]=>XX (.bl (isI x))| .isBool,[x]=>XX (.bl (isB x))| .isStr,[x]=>XX (.bl (isS x))| .isTuple,[x]=>XX (.bl (isT x))| .isList,[x]=>XX (.bl (isL x))| .min2,[.int i,.int j]=>XX (.int (if j < i then j else i))| .max2,[.int i,.int j]=>XX (.int (if j > i then j else i))
 | .sorted,[.lst xs]=>(intsOf xs).bind λns=>if ns.length < 64 then XX (.lst ((sortI ns).map .int)) else XY
 | .max1,[.lst xs]=>(intsOf xs).bind λns=>(O6 ns).map .int
 | .sum,[.lst xs]=>(intsOf xs).map λns=>.int ns.sum
 | .nset,[.lst xs]=>(intsOf xs).bind λns=>if ns.length < 1000 then XX (.int ((ded ns).length:Nat)) else XY
 | .sset,[.lst xs]=>(intsOf xs).bind λns=>if ns.length < 64 then XX (.lst ((sortI (ded ns)).map .int)) else XY
 | .lzip,[.tup xs,.tup ys]=>if 0 < xs.length/\xs.length=ys.length then XX (.lst (DA xs ys)) else XY
 | _,_=>XY
@[simp] noncomputable def kP:Nat->List D->List D
 | _,[]=>[]| k,x::r=>.tup [.int k,x]::kP (k+1) r
noncomputable def pT:D->Option (List D)
 | .tup xs=>XX xs| .lst xs=>XX xs| _=>XY
noncomputable def upto (lo:Int) (n:Nat):List D:=(RK n).map λ(k:Nat)=>D.int (lo+(k:Int))
noncomputable def c9:Sr->List D->Option (List D)
 | .seq,[x]=>pT x
 | .rng1,[.int n]=>if -100000<=n&&n<=100000 then XX (upto 0 n.toNat) else XY
 | .rng2,[.int a,.int b]=>if -100000<=a&&a<=100000&&-100000<=b&&b<=100000 then XX (upto a (b - a).toNat) else XY
 | .rev,[.lst xs]=>XX xs.reverse| .enu,[.lst xs]=>XX (kP 0 xs)| .zip2,[.lst xs,.lst ys]=>XX (DA xs ys)| _,_=>XY
@[simp] noncomputable def gi (x:D):List D->Nat->Option Nat
 | [],_=>XY
 | y::r,k=>if eqv y x then XX k else gi x r (k+1)
@[simp] noncomputable def Lm (c:Nat):List Nat->Nat->Option Nat
 | [],_=>XY
 | y::r,k=>if y=c then XX k else Lm c r (k+1)
@[simp] noncomputable def aP:List W->Option (List D)
 | []=>XX []| .p d::r=>(aP r).map (d :: ·)| .r _::_=>XY| .k _::_=>XY| .o _::_=>XY| .c _ _::_=>XY| .x _::_=>XY
noncomputable def meD:Me->D->List D->Option D
 | .tindex,.tup xs,[x]=>if xs.all λy=>bE y x then (gi x xs 0).map λ(q:Nat)=>D.int (q:Int) else XY
 | .sindex,.str x,[.str y]=>match Ub x y 0 x.length 1 with
  | i::_=>XX (.int (i:Int))| []=>XY
 | .count,.lst xs,[x]=>if xs.all λy=>bE y x then XX (.int ((xs.countP λy=>eqv y x:Nat):Int)) else XY
 | .lindex,.lst xs,[x]=>if xs.all λy=>bE y x then (gi x xs 0).map λ(q:Nat)=>D.int (q:Int) else XY
 | _,_,_=>XY
theorem zA:meD .count (.lst xs) [x]=if xs.all λy=>bE y x then XX (.int ((xs.countP λy=>eqv y x:Nat):Int)) else XY:=rfl
theorem zB:meD .lindex (.lst xs) [x]=if xs.all λy=>bE y x then (gi x xs 0).map λ(q:Nat)=>D.int (q:Int) else XY:=rfl
theorem zC:meD .tindex (.tup xs) [x]=if xs.all λy=>bE y x then (gi x xs 0).map λ(q:Nat)=>D.int (q:Int) else XY:=rfl
theorem zD:meD .sindex (.str x) [.str y]=match Ub x y 0 x.length 1 with
 | i::_=>XX (.int (i:Int))| []=>XY:=rfl
noncomputable def meW (m:Me) (o:W) (as:List W) (h:HH):Option (W×HH):=match m,o,as with
 | .append,.r n,[.p d]=>match lat h n with
  | some xs=>if xs.length < lim then XX (.p .non,h.set n (.l (xs++[d]))) else XY
  | none=>XY
 | .pop,.r n,[]=>match lat h n with
  | some xs=>match xs.getLast? with
   | some d=>XX (.p d,h.set n (.l xs.dropLast))| none=>XY
  | none=>XY
 | .extend,.r n,[w]=>match lat h n,(rd w h).bind pT with
  | some xs,XX ys=>if xs.length+ys.length<=lim then XX (.p .non,h.set n (.l (xs++ys))) else XY
  | _,_=>XY
 | .dget,.k kvs,[.p (.str x)]=>XX (.p ((dH x kvs).getD .non),h)| .dget,.k _,[.p .non]=>XX (.p .non,h)| .dget,.k kvs,[.p (.str x),.p d]=>XX (.p ((dH x kvs).getD d),h)
 | m,.p d,as=>match aP as with
  | some ds=>(meD m d ds).map λx=>(.p x,h)
  | none=>XY
 | _,_,_=>XY
section
variable (n:Nat) (d:D) (h:HH) (kvs:List (ZZ×D)) (x:ZZ) (as:List W)
@[simp] theorem um:meW .append (.r n) [.p d] h=match lat h n with
 | some xs=>if xs.length < lim then XX (.p .non,h.set n (.l (xs++[d]))) else XY
 | none=>XY:=rfl
@[simp] theorem DB:meW .pop (.r n) [] h=match lat h n with
 | some xs=>match xs.getLast? with
  | some d=>XX (.p d,h.set n (.l xs.dropLast))| none=>XY
 | none=>XY:=rfl
@[simp] theorem uq (w:W):meW .extend (.r n) [w] h=match lat h n,(rd w h).bind pT with
 | some xs,XX ys=>if xs.length+ys.length<=lim then XX (.p .non,h.set n (.l (xs++ys))) else XY
 | _,_=>XY:=rfl
@[simp] theorem Ln:meW .dget (.k kvs) [.p (.str x)] h=XX (.p ((dH x kvs).getD .non),h):=rfl
@[simp] theorem HD:meW .dget (.k kvs) [.p .non] h=XX (.p .non,h):=rfl
@[simp] theorem Kf:meW .dget (.k kvs) [.p (.str x),.p d] h=XX (.p ((dH x kvs).getD d),h):=rfl
@[simp] theorem mO:meW .tindex (.p d) as h=match aP as with
 | some ds=>(meD .tindex d ds).map λx=>(.p x,h)
 | none=>XY:=rfl
@[simp] theorem xO:meW .count (.p d) as h=match aP as with
 | some ds=>(meD .count d ds).map λx=>(.p x,h)
 | none=>XY:=rfl
@[simp] theorem ur:meW .lindex (.p d) as h=match aP as with
 | some ds=>(meD .lindex d ds).map λx=>(.p x,h)
 | none=>XY:=rfl
@[simp] theorem mP:meW .sindex (.p d) as h=match aP as with
 | some ds=>(meD .sindex d ds).map λx=>(.p x,h)
 | none=>XY:=rfl
end
noncomputable def new (mu:Bool) (xs:List D) (h:HH):W×HH:=if mu then (.r h.length,h++[.l xs]) else (.p (.lst xs),h)
@[simp] theorem QS (xs:List D) (h:HH):new X0 xs h=(.p (.lst xs),h):=rfl
@[simp] theorem QT (xs:List D) (h:HH):new XZ xs h=(.r h.length,h++[.l xs]):=rfl
@[simp] noncomputable def rds (ws:List W) (h:HH):Option (List D):=match ws with
 | []=>XX []
 | w::r=>(rd w h).bind λd=>(rds r h).map (d :: ·)
noncomputable def Q8:D->Option (List D)
 | .lst xs=>XX xs| _=>XY
noncomputable def unpack (n:Nat):D->Option (List D)
 | .tup xs=>if xs.length=n then XX xs else XY
 | _=>XY
noncomputable def target (n:Nat) (d:D):Option (List D):=if n=1 then XX [d] else unpack n d
section
variable (i j k a b:Int) (c:Bool) (x y:ZZ) (xs ys:List D) (kvs:List (ZZ×D)) (d e:D) (lo hi:Option Int)
@[simp] theorem gq:gJ .add (.int i) (.int j)=XX (.int (i+j)):=rfl
@[simp] theorem dJ:gJ .add (.str x) (.str y)=if x.length+y.length<=lim then XX (.str (x++y)) else XY:=rfl
@[simp] theorem cM:gJ .add (.tup xs) (.tup ys)=if xs.length+ys.length<=lim then XX (.tup (xs++ys)) else XY:=rfl
@[simp] theorem aV:gJ .add (.lst xs) (.lst ys)=if xs.length+ys.length<=lim then XX (.lst (xs++ys)) else XY:=rfl
@[simp] theorem gr:gJ .sub (.int i) (.int j)=XX (.int (i - j)):=rfl
@[simp] theorem gu:gJ .mul (.int i) (.int j)=if big i||big j then XX (.int (i*j)) else XY:=rfl
@[simp] theorem dM:gJ .mul (.tup xs) (.int k)=if 2<=k&&k<=1000&&!xs.isEmpty&&xs.length*k.toNat<=lim then XX (.tup (rep k.toNat xs)) else XY:=rfl
@[simp] theorem dN:gJ .mul (.lst xs) (.int k)=if -1000<=k&&k<=1000&&xs.length*k.toNat<=lim then XX (.lst (rep k.toNat xs)) else XY:=rfl
@[simp] theorem gw:gJ .mod (.int i) (.int j)=if 0 < j then XX (.int (i % j)) else XY:=rfl
@[simp] theorem eZ:gJ .fdiv (.int i) (.int j)=if 0 < j&&j < 1073741824 then XX (.int (i / j)) else XY:=rfl
@[simp] theorem gx:gJ .pow (.int i) (.int j)=if 0<=j&&j<=100&&big i then XX (.int (i ^ j.toNat)) else XY:=rfl
@[simp] theorem br:az (.tup xs) (.int i)=atP xs i:=rfl
@[simp] theorem aJ:az (.lst xs) (.int i)=atP xs i:=rfl
@[simp] theorem iK:az (.str x) (.int i)=if x.length<=lim then (atP x.cps.toList i).map λc=>.str ⟨#[c]⟩ else XY:=rfl
@[simp] theorem pU:pS (.tup xs) lo hi=XX (.tup (cut xs lo hi)):=rfl
@[simp] theorem O7:pS (.lst xs) lo hi=XX (.lst (cut xs lo hi)):=rfl
@[simp] theorem jS:cL .eq d e=if bE d e then XX (eqv d e) else XY:=rfl
@[simp] theorem jT:cL .ne d e=if bE d e then XX (!eqv d e) else XY:=rfl
@[simp] theorem fK:cL .lt (.int i) (.int j)=XX (decide (i < j)):=rfl
@[simp] theorem fL:cL .le (.int i) (.int j)=XX (decide (i<=j)):=rfl
@[simp] theorem fM:cL .gt (.int i) (.int j)=XX (decide (j < i)):=rfl
@[simp] theorem fN:cL .ge (.int i) (.int j)=XX (decide (j<=i)):=rfl
@[simp] theorem dZ:cL .isN d .non=XX (iJ d):=rfl
@[simp] theorem cX:cL .notN d .non=XX (!iJ d):=rfl
@[simp] theorem bP:cL .mem d (.tup ys)=if ys.all λy=>bE y d then XX (ys.any λy=>eqv y d) else XY:=rfl
@[simp] theorem bU:cL .mem d (.lst ys)=if ys.all λy=>bE y d then XX (ys.any λy=>eqv y d) else XY:=rfl
@[simp] theorem bM:cL .nmem d (.tup ys)=if ys.all λy=>bE y d then XX (!ys.any λy=>eqv y d) else XY:=rfl
@[simp] theorem bN:cL .nmem d (.lst ys)=if ys.all λy=>bE y d then XX (!ys.any λy=>eqv y d) else XY:=rfl
@[simp] theorem ja:biD .len [.tup xs]=XX (.int xs.length):=rfl
@[simp] theorem gy:biD .len [.lst xs]=XX (.int xs.length):=rfl
@[simp] theorem xP:biD .len [.str x]=if x.length<=lim then XX (.int x.length) else XY:=rfl
@[simp] theorem NR:biD .abs [.int i]=XX (.int (if i < 0 then -i else i)):=rfl
@[simp] theorem NS:biD .int [.int i]=XX (.int i):=rfl
@[simp] theorem Kg:biD .int [.bl c]=XX (.int (if c then 1 else 0)):=rfl
@[simp] theorem NT:biD .str [.int i]=if big i then XX (.str (toString i)) else XY:=rfl
@[simp] theorem Gm:biD .tuple [.lst xs]=XX (.tup xs):=rfl
@[simp] theorem Gn:biD .tuple [.tup xs]=XX (.tup xs):=rfl
@[simp] theorem HE:biD .list [.lst xs]=XX (.lst xs):=rfl
@[simp] theorem HF:biD .list [.tup xs]=XX (.lst xs):=rfl
@[simp] theorem NU:biD .all [.lst xs]=(allB xs).map .bl:=rfl
@[simp] theorem NV:biD .any [.lst xs]=(anyB xs).map .bl:=rfl
@[simp] theorem Kl:biD .isInt [d]=XX (.bl (isI d)):=rfl
@[simp] theorem HG:biD .isBool [d]=XX (.bl (isB d)):=rfl
@[simp] theorem Km:biD .isStr [d]=XX (.bl (isS d)):=rfl
@[simp] theorem Gp:biD .isTuple [d]=XX (.bl (isT d)):=rfl
@[simp] theorem HJ:biD .isList [d]=XX (.bl (isL d)):=rfl
@[simp] theorem NW:biD .min2 [.int i,.int j]=XX (.int (if j < i then j else i)):=rfl
@[simp] theorem NY:biD .max2 [.int i,.int j]=XX (.int (if j > i then j else i)):=rfl
@[simp] theorem O8:pT (.tup xs)=XX xs:=rfl
@[simp] theorem O9:pT (.lst xs)=XX xs:=rfl
@[simp] theorem zE:c9 .seq [d]=pT d:=rfl
@[simp] theorem bB:c9 .rng1 [.int a]=if -100000<=a&&a<=100000 then XX (upto 0 a.toNat) else XY:=rfl
@[simp] theorem cY:c9 .rng2 [.int a,.int b]=if -100000<=a&&a<=100000&&-100000<=b&&b<=100000 then XX (upto a (b - a).toNat) else XY:=rfl
@[simp] theorem Lo:c9 .rev [.lst xs]=XX xs.reverse:=rfl
@[simp] theorem Lp:c9 .enu [.lst xs]=XX (kP 0 xs):=rfl
@[simp] theorem Lq:c9 .zip2 [.lst xs,.lst ys]=XX (DA xs ys):=rfl
@[simp] theorem HK:meD .tindex (.tup xs) [d]=if xs.all λy=>bE y d then (gi d xs 0).map λ(q:Nat)=>D.int (q:Int) else XY:=rfl
@[simp] theorem zF (n:Nat):unpack n (.tup xs)=if xs.length=n then XX xs else XY:=rfl
end
@[simp] theorem jU (d:D):target 1 d=XX [d]:=rfl
@[simp] theorem Lr (d:D):target 2 d=unpack 2 d:=rfl
noncomputable def vq (o:Option D) (out:List D) (h:HH):Option (List D×HH):=XX (match o with|some x=>x::out|none=>out,h)
noncomputable def zG (r:HH->Option (List D×HH)) (o:Option D) (h:HH):Option (List D×HH):=bnd (r h) (vq o)
@[simp] theorem rN (o:Option D) (out:List D) (h:HH):vq o out h=XX (match o with|some x=>x::out|none=>out,h):=rfl
@[simp] theorem vv (r:HH->Option (List D×HH)) (o:Option D) (h:HH):zG r o h=bnd (r h) (vq o):=rfl
noncomputable def bA (f:List D->HH->Option (Option D×HH)) (n:Nat):List D->HH->Option (List D×HH)
 | [],h=>XX ([],h)
 | d::r,h=>match target n d with
  | some ds=>bnd (f ds h) (zG (bA f n r))| none=>XY
noncomputable def cN (d:D):Option W:=XX (.p d)
noncomputable abbrev EH:=HH->Option (W×HH)
noncomputable abbrev OpW:=W->W->HH->Option (W×HH)
@[simp] noncomputable def k2 (eb:EH) (op:OpW) (x:W) (h:HH):Option (W×HH):=bnd (eb h) (op x)
@[simp] noncomputable def nZ (o:Bin) (x y:W) (h:HH):Option (W×HH):=match rd x h,rd y h with
 | some d,XX e=>(gJ o d e).map λz=>(.p z,h)
 | _,_=>XY
noncomputable def inK (o:Cm) (x:W) (kvs:List (ZZ×D)):Option Bool:=match o,x with
 | .mem,.p (.str s)=>XX (dH s kvs).isSome| .nmem,.p (.str s)=>XX (!(dH s kvs).isSome)| _,_=>XY
noncomputable def memC:Cm->Bool
 | .mem=>XZ| .nmem=>XZ| _=>X0
theorem iL {o:Cm}{x:W}{q:List (ZZ×D)}{b:Bool} (h:memC o=X0):¬ inK o x q=XX b:=by intro e;cases o<;>first|(cases h;done)|(cases x<;>cases e)
@[simp] noncomputable def jV (o:Cm) (x y:W) (h:HH):Option (W×HH):=match y with
 | .k kvs=>(inK o x kvs).map λz=>(.p (.bl z),h)
 | y=>match rd x h,rd y h with
  | some d,XX e=>(cL o d e).map λz=>(.p (.bl z),h)
  | _,_=>XY
noncomputable def atK (kvs:List (ZZ×D)) (y:W):Option D:=match y with
 | .p (.str s)=>dH s kvs| _=>XY
@[simp] theorem QU (kvs:List (ZZ×D)) (x:ZZ):atK kvs (.p (.str x))=dH x kvs:=rfl
@[simp] theorem QV (kvs:List (ZZ×D)) (x:ZZ):inK .mem (.p (.str x)) kvs=XX (dH x kvs).isSome:=rfl
@[simp] theorem QW (kvs:List (ZZ×D)) (x:ZZ):inK .nmem (.p (.str x)) kvs=XX (!(dH x kvs).isSome):=rfl
@[simp] noncomputable def DC (x y:W) (h:HH):Option (W×HH):=match x with
 | .k kvs=>(atK kvs y).map λz=>(.p z,h)
 | x=>match rd x h,rd y h with
  | some d,XX e=>(az d e).map λz=>(.p z,h)
  | _,_=>XY
@[simp] noncomputable def DE (x:W) (h:HH):Option (W×HH):=match x with | .p (.int i)=>XX (.p (.int (-i)),h)|_=>XY
@[simp] noncomputable def DF (x:W) (h:HH):Option (W×HH):=match x with | .p (.bl b)=>XX (.p (.bl (!b)),h)|_=>XY
@[simp] noncomputable def DG (eb:EH) (x:W) (h:HH):Option (W×HH):=match x with | .p (.bl c)=>if c then eb h else XX (.p (.bl X0),h)|_=>XY
@[simp] noncomputable def kOr (eb:EH) (x:W) (h:HH):Option (W×HH):=match x with | .p (.bl c)=>if c then XX (.p (.bl XZ),h) else eb h|_=>XY
@[simp] noncomputable def DH (ea eb:EH) (x:W) (h:HH):Option (W×HH):=match x with | .p (.bl c)=>if c then ea h else eb h|_=>XY
@[simp] noncomputable def Pa (o':Cm) (e:D) (z:W) (h:HH):Option (W×HH):=match rd z h with
 | some f=>(cL o' e f).map λr=>(.p (.bl r),h)
 | none=>XY
@[simp] noncomputable def oCh (o o':Cm) (ec:EH) (x y:W) (h:HH):Option (W×HH):=match rd x h,y with
 | some d,.p e=>match cL o d e with
  | some XZ=>bnd (ec h) (Pa o' e)| some X0=>XX (.p (.bl X0),h)| none=>XY
 | _,_=>XY
@[simp] noncomputable def HL (ws:List W) (h:HH):Option (W×HH):=match aP ws with|some ds=>if ds.length<=lim then XX (.p (.tup ds),h) else XY|none=>XY
@[simp] noncomputable def HM (mu:Bool) (ws:List W) (h:HH):Option (W×HH):=match aP ws with|some ds=>if ds.length<=lim then XX (new mu ds h) else XY|none=>XY
@[simp] noncomputable def Ls (x:W) (l u:List W) (h:HH):Option (W×HH):=match rd x h,(aP l).bind pR,(aP u).bind pR with
 | some d,XX l',XX u'=>(pS d l' u').map λz=>(.p z,h)
 | _,_,_=>XY
@[simp] noncomputable def Lu (eu:HH->Option (List W×HH)) (x:W) (l:List W) (h:HH):Option (W×HH):=bnd (eu h) (Ls x l)
@[simp] noncomputable def Lv (el eu:HH->Option (List W×HH)) (x:W) (h:HH):Option (W×HH):=bnd (el h) (Lu eu x)
@[simp] noncomputable def Q9 (x:W) (h:HH):Option (W×HH):=match rd x h with
 | some (.tup xs)=>XX (.p (.tup xs.reverse),h)| some (.lst xs)=>XX (.p (.lst xs.reverse),h)| _=>XY
noncomputable def rO (k:Int) (xs:List D):List D:=(VP (Sn XY XY (XX k) xs.length).1 (Sn XY XY (XX k) xs.length).2.1 (Sn XY XY (XX k) xs.length).2.2).filterMap λi=>xs[i]?
@[simp] noncomputable def HN (mu:Bool) (k:Int) (x:W) (h:HH):Option (W×HH):=match rd x h with
 | some (.lst xs)=>XX (new mu (rO k xs) h)| _=>XY
@[simp] noncomputable def kBi (b:Bi) (mu:Bool) (ws:List W) (h:HH):Option (W×HH):=match rds ws h with
 | some ds=>match biD b ds with
  | some d=>if mu then (match d with | .lst xs=>XX (new XZ xs h)|_=>XY) else XX (.p d,h)
  | none=>XY
 | none=>XY
noncomputable def n8 (x:W) (h:HH):Bool:=match x with
 | .r n=>(lat h n).isSome| _=>XZ
@[simp] theorem Pb (n:Nat) (h:HH):n8 (.r n) h=(lat h n).isSome:=rfl
@[simp] theorem Pc (d:D) (h:HH):n8 (.p d) h=XZ:=rfl
@[simp] theorem Pd (d:List (ZZ×D)) (h:HH):n8 (.k d) h=XZ:=rfl
@[simp] noncomputable def kMe (m:Me) (ea:HH->Option (List W×HH)) (x:W) (h:HH):Option (W×HH):=if n8 x h then bnd (ea h) (meW m x) else XY
@[simp] noncomputable def kLs (mu:Bool) (sr:Sr) (ws:List W) (h:HH):Option (W×HH):=match (rds ws h).bind (c9 sr) with
 | some ds=>if ds.length<=lim then XX (new mu ds h) else XY
 | none=>XY
@[simp] noncomputable def n9 (w:W) (h:HH):Option (Option D×HH):=match w with | .p d=>XX (XX d,h)|_=>XY
noncomputable def vz (ee:EH) (cs:List W) (h:HH):Option (Option D×HH):=match cs with
 | []=>bnd (ee h) n9| [.p (.bl XZ)]=>bnd (ee h) n9| [.p (.bl X0)]=>XX (XY,h)| _=>XY
@[simp] theorem NZ (ee:EH) (h:HH):vz ee [] h=bnd (ee h) n9:=rfl
@[simp] theorem N5 (ee:EH) (h:HH):vz ee [.p (.bl XZ)] h=bnd (ee h) n9:=rfl
@[simp] theorem N6 (ee:EH) (h:HH):vz ee [.p (.bl X0)] h=XX (XY,h):=rfl
@[simp] noncomputable def d7 (ec:Sl->HH->Option (List W×HH)) (ee:Sl->EH) (fs:Sl) (xs:List D) (h:HH):Option (Option D×HH) :=
 bnd (ec (xs.map cN++fs) h) (vz (ee (xs.map cN++fs)))
@[simp] noncomputable def fj (mu:Bool) (out:List D) (h:HH):Option (W×HH):=if out.length<=lim then XX (new mu out h) else XY
noncomputable def bq (f:ZZ):List (ZZ×W)->Option W
 | []=>XY
 | (x,w)::r=>if f=x then XX w else bq f r
noncomputable def bL (f:ZZ) (w:W):List (ZZ×W)->List (ZZ×W)
 | []=>[(f,w)]
 | (x,u)::r=>if f=x then (f,w)::r else (x,u)::bL f w r
@[simp] theorem Lx (f:ZZ):bq f []=XY:=rfl
@[simp] theorem oV (f x:ZZ) (w:W) (r:List (ZZ×W)):bq f ((x,w)::r)=if f=x then XX w else bq f r:=rfl
@[simp] theorem Ly (f:ZZ) (w:W):bL f w []=[(f,w)]:=rfl
@[simp] theorem xQ (f x:ZZ) (w u:W) (r:List (ZZ×W)):bL f w ((x,u)::r)=if f=x then (f,w)::r else (x,u)::bL f w r:=rfl
noncomputable def attrOk:W->Bool
 | .p _=>XZ| .r _=>XZ| .k _=>X0| .o _=>XZ| .c _ _=>X0| .x _=>X0
@[simp] theorem Lz (d:D):attrOk (.p d)=XZ:=rfl
@[simp] theorem LC (n:Nat):attrOk (.r n)=XZ:=rfl
@[simp] theorem LD (n:Nat):attrOk (.o n)=XZ:=rfl
noncomputable def DI (f:ZZ) (x:W) (h:HH):Option (W×HH):=match x with
 | .o n=>match oat h n with
  | some (_,fs)=>(bq f fs).map λw=>(w,h)
  | none=>XY
 | _=>XY
@[simp] theorem HP (f:ZZ) (n:Nat) (h:HH):DI f (.o n) h=match oat h n with
 | some (_,fs)=>(bq f fs).map λw=>(w,h)
 | none=>XY:=rfl
noncomputable def uv (F:FK->List W->HH->Option (W×HH)) (q:FK) (n:Nat) (ws:List W) (h:HH):Option (W×HH):=F q (.o n::ws) h
@[simp] theorem Kn (F:FK->List W->HH->Option (W×HH)) (q:FK) (n:Nat) (ws:List W) (h:HH):uv F q n ws h=F q (.o n::ws) h:=rfl
noncomputable def zH (F:FK->List W->HH->Option (W×HH)) (m:ZZ) (ea:HH->Option (List W×HH)) (x:W) (h:HH):Option (W×HH):=match x with
 | .o n=>match oat h n with
  | some (c,fs)=>if (bq m fs).isNone then bnd (ea h) (uv F (.m c m) n) else XY
  | none=>XY
 | _=>XY
@[simp] theorem DJ (F:FK->List W->HH->Option (W×HH)) (m:ZZ) (ea:HH->Option (List W×HH)) (n:Nat) (h:HH):zH F m ea (.o n) h=match oat h n with
 | some (c,fs)=>if (bq m fs).isNone then bnd (ea h) (uv F (.m c m) n) else XY
 | none=>XY:=rfl
noncomputable def vA (n:Nat) (x:W) (h:HH):Option (W×HH):=match x with
 | .p .non=>XX (.o n,h)| _=>XY
@[simp] theorem N7 (n:Nat) (h:HH):vA n (.p .non) h=XX (.o n,h):=rfl
noncomputable def Gq (F:FK->List W->HH->Option (W×HH)) (c:ZZ) (ws:List W) (h:HH):Option (W×HH):=bnd (F (.m c "__init__") (.o h.length::ws) (h++[.o c []])) (vA h.length)
@[simp] theorem zI (F:FK->List W->HH->Option (W×HH)) (c:ZZ) (ws:List W) (h:HH):Gq F c ws h=bnd (F (.m c "__init__") (.o h.length::ws) (h++[.o c []])) (vA h.length):=rfl
noncomputable def eU:List W->Bool
 | []=>XZ| .p _::r=>eU r| _=>X0
open Classical in
noncomputable def chk (q:Nat) (ds:List D) (f:List D->HH->Option (Option D×HH)) (xs:List D) (h:HH):Option (Option D×HH):=match f xs h with
 | some (o,h')=>if lat h' q=XX ds then XX (o,h') else XY
 | none=>XY
noncomputable def uw (mu:Bool) (sr:Sr) (n:Nat) (f:List D->HH->Option (Option D×HH)) (ws:List W) (ds:List D) (h:HH):Option (W×HH):=match ws,sr with
 | [.r q],.seq=>bnd (bA (chk q ds f) n ds h) (fj mu)| _,_=>XY
theorem rP (mu:Bool) (n:Nat) (f:List D->HH->Option (Option D×HH)) (q:Nat) (ds:List D) (h:HH):uw mu .seq n f [.r q] ds h=bnd (bA (chk q ds f) n ds h) (fj mu):=rfl
@[simp] noncomputable def mQ (mu:Bool) (sr:Sr) (n:Nat) (fs:Option Sl) (ec:Sl->HH->Option (List W×HH)) (ee:Sl->EH) (ws:List W) (h:HH):Option (W×HH) :=
 match (rds ws h).bind (c9 sr),fs with
 | some ds,XX fs=>if eU ws then bnd (bA (d7 ec ee fs) n ds h) (fj mu) else uw mu sr n (d7 ec ee fs) ws ds h
 | _,_=>XY
@[simp] noncomputable def jy (w:W) (ws:List W) (h:HH):Option (List W×HH):=XX (w::ws,h)
@[simp] noncomputable def mR (er:HH->Option (List W×HH)) (w:W) (h:HH):Option (List W×HH):=bnd (er h) (jy w)
@[simp] noncomputable def frees (s:Sl):List (Nat×ZZ)->Option Sl
 | []=>XX []
 | q::r=>match s[q.1]? with
  | some w=>(frees s r).map (w :: ·)| none=>XY
noncomputable def caps (s:Sl):List (Nat×ZZ)->Option (List Cp)
 | []=>XX []
 | q::r=>match s[q.1]? with
  | some (XX w)=>(rJ w).bind λx=>(caps s r).map (x :: ·)
  | _=>XY
@[simp] theorem LG (s:Sl):caps s []=XX []:=rfl
@[simp] theorem xR (s:Sl) (q:Nat×ZZ) (r:List (Nat×ZZ)):caps s (q::r)=match s[q.1]? with
 | some (XX w)=>(rJ w).bind λx=>(caps s r).map (x :: ·)
 | _=>XY:=rfl
noncomputable def noC:List W->Bool
 | []=>XZ| .p _::r=>noC r| .r _::r=>noC r| .k _::r=>noC r| .o _::r=>noC r| .c _ _::_=>X0| .x _::_=>X0
@[simp] theorem N8:noC []=XZ:=rfl
@[simp] theorem QX (d:D) (r:List W):noC (.p d::r)=noC r:=rfl
@[simp] theorem QY (d:Nat) (r:List W):noC (.r d::r)=noC r:=rfl
@[simp] theorem QZ (d:Nat) (r:List W):noC (.o d::r)=noC r:=rfl
noncomputable def pV (F:FK->List W->HH->Option (W×HH)) (o:Option (Option W)) (ws:List W) (h:HH):Option (W×HH):=match o with
 | some (XX (.c k cs))=>if noC ws then F k (ws++cs.map Cp.w) h else XY
 | _=>XY
@[simp] theorem LH (F:FK->List W->HH->Option (W×HH)) (k:FK) (cs:List Cp) (ws:List W) (h:HH):pV F (XX (XX (.c k cs))) ws h=if noC ws then F k (ws++cs.map Cp.w) h else XY:=rfl
noncomputable def zJ (w:W) (h:HH):Option (W×HH):=match w with
 | .c _ _=>XY| .x _=>XY| w=>XX (w,h)
@[simp] theorem Pe (d:D) (h:HH):zJ (.p d) h=XX (.p d,h):=rfl
@[simp] theorem Pf (n:Nat) (h:HH):zJ (.r n) h=XX (.r n,h):=rfl
@[simp] theorem Ph (n:Nat) (h:HH):zJ (.o n) h=XX (.o n,h):=rfl
noncomputable def pW (F:FK->List W->HH->Option (W×HH)) (q:FK) (n:Nat) (L:Nat) (cs:Option (List Cp)) (ws:List W) (h:HH):Option (W×HH):=match cs with
 | some cs=>bnd (F q (.o n::(ws++[.c (.l L) cs])) h) zJ| none=>XY
@[simp] theorem xS (F:FK->List W->HH->Option (W×HH)) (q:FK) (n:Nat) (L:Nat) (cs:List Cp) (ws:List W) (h:HH):pW F q n L (XX cs) ws h=bnd (F q (.o n::(ws++[.c (.l L) cs])) h) zJ:=rfl
noncomputable def ux (F:FK->List W->HH->Option (W×HH)) (m:ZZ) (ea:HH->Option (List W×HH)) (L:Nat) (cs:Option (List Cp)) (x:W) (h:HH):Option (W×HH):=match x with
 | .o n=>match oat h n with
  | some (c,fs)=>if (bq m fs).isNone then bnd (ea h) (pW F (.m c m) n L cs) else XY
  | none=>XY
 | _=>XY
@[simp] theorem zK (F:FK->List W->HH->Option (W×HH)) (m:ZZ) (ea:HH->Option (List W×HH)) (L:Nat) (cs:Option (List Cp)) (n:Nat) (h:HH):ux F m ea L cs (.o n) h=match oat h n with
 | some (c,fs)=>if (bq m fs).isNone then bnd (ea h) (pW F (.m c m) n L cs) else XY
 | none=>XY:=rfl
noncomputable def mS (c cn:ZZ):Bool:=cn==c||cn=="TapeError"||cn=="ValueError"
noncomputable def LJ (cn:ZZ) (x:W) (h:HH):Option (W×HH):=match x with
 | .x c=>XX (.p (.bl (mS c cn)),h)| _=>XY
@[simp] theorem Pi (cn c:ZZ) (h:HH):LJ cn (.x c) h=XX (.p (.bl (mS c cn)),h):=rfl
noncomputable def HQ (x:W) (h:HH):Option (W×HH):=match x with
 | .r n=>(dat h n).bind λkvs=>if kvs.length<=lim then XX (.p (.lst (iI kvs)),h) else XY
 | _=>XY
@[simp] theorem HR (n:Nat) (h:HH):HQ (.r n) h=(dat h n).bind λkvs=>if kvs.length<=lim then XX (.p (.lst (iI kvs)),h) else XY:=rfl
noncomputable def xT (x y:W) (h:HH):Option (W×HH):=match rd x h,rd y h with
 | some (.lst xs),XX (.lst ys)=>if xs.length+ys.length<=lim then XX (new XZ (xs++ys) h) else XY
 | _,_=>XY
@[simp] theorem Pj (xs ys:List D) (h:HH):xT (.p (.lst xs)) (.p (.lst ys)) h=if xs.length+ys.length<=lim then XX (new XZ (xs++ys) h) else XY:=rfl
section
variable (F:FK->List W->HH->Option (W×HH)) (G:ZZ->Option W)
mutual
@[simp] noncomputable def ev:E->Sl->HH->Option (W×HH)
 | .var i,s,h=>match s[i]? with|some (XX w)=>XX (w,h)|_=>XY
 | .cst d,_,h=>XX (.p d,h)
 | .glo x,_,h=>(G x).map λw=>(w,h)
 | .bin o a b,s,h=>bnd (ev a s h) (k2 (ev b s) (nZ o))| .neg a,s,h=>bnd (ev a s h) DE| .not a,s,h=>bnd (ev a s h) DF| .and a b,s,h=>bnd (ev a s h) (DG (ev b s))| .or a b,s,h=>bnd (ev a s h) (kOr (ev b s))| .cmp o a b,s,h=>bnd (ev a s h) (k2 (ev b s) (jV o))| .ite c a b,s,h=>bnd (ev c s h) (DH (ev a s) (ev b s))| .tup as,s,h=>bnd (evs as s h) HL| .lst mu as,s,h=>bnd (evs as s h) (HM mu)| .idx a i,s,h=>bnd (ev a s h) (k2 (ev i s) DC)| .slc a lo hi,s,h=>bnd (ev a s h) (Lv (evs lo s) (evs hi s))| .stp mu k a,s,h=>bnd (ev a s h) (HN mu k)| .call f as,s,h=>bnd (evs as s h) (F (.f f))| .fld a f,s,h=>bnd (ev a s h) (DI f)| .meth o m as,s,h=>bnd (ev o s h) (zH F m (evs as s))| .make c as,s,h=>bnd (evs as s h) (Gq F c)| .bi b mu as,s,h=>bnd (evs as s h) (kBi b mu)| .lsr mu sr as,s,h=>bnd (evs as s h) (kLs mu sr)| .me m o as,s,h=>bnd (ev o s h) (kMe m (evs as s))| .comp mu sr sa tg fv cond elt,s,h=>bnd (evs sa s h) (mQ mu sr tg.length (frees s fv) (evs cond) (ev elt))| .callv i as,s,h=>bnd (evs as s h) (pV F s[i]?)| .methL o m as L fv,s,h=>bnd (ev o s h) (ux F m (evs as s) L (caps s fv))| .dnew,_,h=>XX (.r h.length,h++[.d []])| .isx c a,s,h=>bnd (ev a s h) (LJ c)| .dli o,s,h=>bnd (ev o s h) HQ| .cat a b,s,h=>bnd (ev a s h) (k2 (ev b s) xT)
@[simp] noncomputable def evs:Es->Sl->HH->Option (List W×HH)
 | .nil,_,h=>XX ([],h)| .cons a as,s,h=>bnd (ev a s h) (mR (evs as s))
end
inductive Fl where
 | nx (s:Sl) (h:HH)|rt (w:W) (h:HH)|bk (s:Sl) (h:HH)|ct (s:Sl) (h:HH)
noncomputable def LK (k:Bool->HH->Option Fl) (w:W) (h:HH):Option Fl:=match w with | .p (.bl b)=>k b h|_=>XY
noncomputable def tst (x:Option (W×HH)) (k:Bool->HH->Option Fl):Option Fl:=bnd x (LK k)
@[simp] theorem cu (b:Bool) (h:HH) (k:Bool->HH->Option Fl):tst (XX (.p (.bl b),h)) k=k b h:=rfl
noncomputable def lE (x:Option Fl) (k:Sl->HH->Option Fl):Option Fl:=match x with
 | some (.nx s h)=>k s h| y=>y
@[simp] theorem rQ (s:Sl) (h:HH) (k:Sl->HH->Option Fl):lE (XX (.nx s h)) k=k s h:=rfl
@[simp] theorem LM (w:W) (h:HH) (k:Sl->HH->Option Fl):lE (XX (.rt w h)) k=XX (.rt w h):=rfl
@[simp] theorem LN (s:Sl) (h:HH) (k:Sl->HH->Option Fl):lE (XX (.bk s h)) k=XX (.bk s h):=rfl
@[simp] theorem LP (s:Sl) (h:HH) (k:Sl->HH->Option Fl):lE (XX (.ct s h)) k=XX (.ct s h):=rfl
@[simp] theorem HS (k:Sl->HH->Option Fl):lE XY k=XY:=rfl
noncomputable def fk (x:Option Fl) (k:Sl->HH->Option Fl):Option Fl:=match x with
 | some (.nx s h)=>k s h| some (.ct s h)=>k s h| some (.bk s h)=>XX (.nx s h)| y=>y
@[simp] theorem aX (s:Sl) (h:HH) (k:Sl->HH->Option Fl):fk (XX (.nx s h)) k=k s h:=rfl
@[simp] theorem LQ (s:Sl) (h:HH) (k:Sl->HH->Option Fl):fk (XX (.ct s h)) k=k s h:=rfl
@[simp] theorem LR (s:Sl) (h:HH) (k:Sl->HH->Option Fl):fk (XX (.bk s h)) k=XX (.nx s h):=rfl
@[simp] theorem zL (w:W) (h:HH) (k:Sl->HH->Option Fl):fk (XX (.rt w h)) k=XX (.rt w h):=rfl
@[simp] theorem HU (k:Sl->HH->Option Fl):fk XY k=XY:=rfl
@[simp] noncomputable def sets:List (Nat×ZZ)->List D->Sl->Sl
 | (i,_)::r,d::ds,s=>sets r ds (s.set i (XX (.p d)))| _,_,s=>s
noncomputable def HV (b:Sl->HH->Option Fl) (again:Sl->HH->Option Fl) (s:Sl) (t:Bool) (h:HH):Option Fl:=if t then fk (b s h) again else XX (.nx s h)
@[simp] theorem gK (b again:Sl->HH->Option Fl) (s:Sl) (h:HH):HV b again s XZ h=fk (b s h) again:=rfl
@[simp] theorem gM (b again:Sl->HH->Option Fl) (s:Sl) (h:HH):HV b again s X0 h=XX (.nx s h):=rfl
noncomputable def aQ (c:Sl->HH->Option (W×HH)) (b:Sl->HH->Option Fl):Nat->Sl->HH->Option Fl
 | 0,_,_=>XY| n+1,s,h=>tst (c s h) (HV b (aQ c b n) s)
@[simp] noncomputable def aR (b:Sl->HH->Option Fl) (tg:List (Nat×ZZ)):List D->Sl->HH->Option Fl
 | [],s,h=>XX (.nx s h)
 | d::r,s,h=>match target tg.length d with
  | some ds=>fk (b (sets tg ds s) h) (aR b tg r)| none=>XY
noncomputable def turns:Nat:=100000
@[simp] noncomputable def uy (s:Sl) (i:Nat) (w:W) (h:HH):Option Fl:=XX (.nx (s.set i (XX w)) h)
@[simp] noncomputable def Rc (s:Sl) (xs:List (Nat×ZZ)) (w:W) (h:HH):Option Fl:=match w with
 | .p d=>match unpack xs.length d with|some ds=>XX (.nx (sets xs ds s) h)|none=>XY
 | _=>XY
@[simp] noncomputable def LS (s:Sl) (i:Nat) (o:Bin) (w:W) (h:HH):Option Fl:=match s[i]?,w with
 | some (XX (.p d)),.p d'=>(mL o d d').map λz=>.nx (s.set i (XX (.p z))) h
 | _,_=>XY
@[simp] noncomputable def Gs (s:Sl) (n:Nat) (d:D) (q:W) (h:HH):Option Fl:=match q,lat h n with
 | .p (.int j),XX xs=>match place xs.length j with
  | some m=>XX (.nx s (h.set n (.l (xs.set m d))))| none=>XY
 | _,_=>XY
@[simp] noncomputable def HW (ek:EH) (s:Sl) (i:Nat) (w:W) (h:HH):Option Fl:=match w,s[i]? with
 | .p d,XX (XX (.r n))=>bnd (ek h) (Gs s n d)| _,_=>XY
noncomputable def uz (s:Sl) (n:Nat) (d:D) (q:W) (h:HH):Option Fl:=match q with
 | .p k=>(dat h n).bind λkvs=>(rL k).bind λy=>if kvs.length < lim then XX (.nx s (h.set n (.d (lD kvs y d)))) else XY
 | _=>XY
@[simp] theorem zM (s:Sl) (n:Nat) (d k:D) (h:HH):uz s n d (.p k) h=(dat h n).bind λkvs=>(rL k).bind λy=>if kvs.length < lim then XX (.nx s (h.set n (.d (lD kvs y d)))) else XY:=rfl
noncomputable def vB (ek:EH) (s:Sl) (i:Nat) (w:W) (h:HH):Option Fl:=match w,s[i]? with
 | .p d,XX (XX (.r n))=>bnd (ek h) (uz s n d)| _,_=>XY
@[simp] theorem DK (ek:EH) (s:Sl) (i:Nat) (d:D) (h:HH):vB ek s i (.p d) h=match s[i]? with
 | some (XX (.r n))=>bnd (ek h) (uz s n d)
 | _=>XY:=by
 unfold vB;cases s[i]? with
 | none=>rfl
 | some o=>cases o with
  | none=>rfl| some w=>cases w<;>rfl
noncomputable def pX (s:Sl) (f:ZZ) (v:W) (x:W) (h:HH):Option Fl:=match x with
 | .o n=>match oat h n with
  | some (c,fs)=>if attrOk v&&fs.length < 1000 then XX (.nx s (h.set n (.o c (bL f v fs)))) else XY
  | none=>XY
 | _=>XY
@[simp] theorem zN (s:Sl) (f:ZZ) (v:W) (n:Nat) (h:HH):pX s f v (.o n) h=match oat h n with
 | some (c,fs)=>if attrOk v&&fs.length < 1000 then XX (.nx s (h.set n (.o c (bL f v fs)))) else XY
 | none=>XY:=rfl
noncomputable def zO (eo:EH) (s:Sl) (f:ZZ) (v:W) (h:HH):Option Fl:=bnd (eo h) (pX s f v)
@[simp] theorem zP (eo:EH) (s:Sl) (f:ZZ) (v:W) (h:HH):zO eo s f v h=bnd (eo h) (pX s f v):=rfl
noncomputable def pY (s:Sl) (f:ZZ) (op:Bin) (n:Nat) (c:ZZ) (d:D) (v:W) (h:HH):Option Fl:=match v,oat h n with
 | .p e,XX (c',fs)=>match mL op d e with
  | some z=>if c'=c/\fs.length < 1000 then XX (.nx s (h.set n (.o c' (bL f (.p z) fs)))) else XY
  | none=>XY
 | _,_=>XY
@[simp] theorem zQ (s:Sl) (f:ZZ) (op:Bin) (n:Nat) (c:ZZ) (d e:D) (h:HH):pY s f op n c d (.p e) h=match oat h n with
 | some (c',fs)=>match mL op d e with
  | some z=>if c'=c/\fs.length < 1000 then XX (.nx s (h.set n (.o c' (bL f (.p z) fs)))) else XY
  | none=>XY
 | none=>XY:=by unfold pY;cases oat h n<;>rfl
noncomputable def vC (ee:EH) (s:Sl) (f:ZZ) (op:Bin) (x:W) (h:HH):Option Fl:=match x with
 | .o n=>match oat h n with
  | some (c,fs)=>match bq f fs with
   | some (.p d)=>bnd (ee h) (pY s f op n c d)| _=>XY
  | none=>XY
 | _=>XY
@[simp] theorem DL (ee:EH) (s:Sl) (f:ZZ) (op:Bin) (n:Nat) (h:HH):vC ee s f op (.o n) h=match oat h n with
 | some (c,fs)=>match bq f fs with
  | some (.p d)=>bnd (ee h) (pY s f op n c d)| _=>XY
 | none=>XY:=rfl
@[simp] noncomputable def kEx (s:Sl) (_:W) (h:HH):Option Fl:=XX (.nx s h)
@[simp] noncomputable def zR (w:W) (h:HH):Option Fl:=XX (.rt w h)
@[simp] noncomputable def kIf (fa fb:HH->Option Fl) (t:Bool) (h:HH):Option Fl:=if t then fa h else fb h
@[simp] noncomputable def kFor (b:Sl->HH->Option Fl) (tg:List (Nat×ZZ)) (sr:Sr) (s:Sl) (ws:List W) (h:HH):Option Fl:=match (rds ws h).bind (c9 sr) with
 | some ds=>if eU ws then aR b tg ds s h else XY
 | none=>XY
@[simp] noncomputable def evS:S->Sl->HH->Option Fl
 | .nil,s,h=>XX (.nx s h)| .seq a b,s,h=>lE (evS a s h) (evS b)| .set i e,s,h=>bnd (ev F G e s h) (uy s i)| .aug i o e,s,h=>bnd (ev F G e s h) (LS s i o)| .put i k e,s,h=>bnd (ev F G e s h) (HW (ev F G k s) s i)| .putd i k e,s,h=>bnd (ev F G e s h) (vB (ev F G k s) s i)| .setf o f e,s,h=>bnd (ev F G e s h) (zO (ev F G o s) s f)| .augf o f op e,s,h=>bnd (ev F G o s h) (vC (ev F G e s) s f op)| .ex e,s,h=>bnd (ev F G e s h) (kEx s)| .ret e,s,h=>bnd (ev F G e s h) zR| .ife c a b,s,h=>tst (ev F G c s h) (kIf (evS a s) (evS b s))| .whl c b,s,h=>aQ (ev F G c) (evS b) turns s h| .for tg sr sa b,s,h=>bnd (evs F G sa s h) (kFor (evS b) tg sr s)| .brk,s,h=>XX (.bk s h)| .cnt,s,h=>XX (.ct s h)| .bad,_,_=>XY| .rai _ _,_,_=>XY
open Classical in
noncomputable def fin (h:HH) (w:W) (h':HH):Option (W×HH) :=
 if h'.length=h.length then XX (w,h')
 else if h'.take h.length=h then (match w with
  | .p d=>XX (.p d,h)
  | .r n=>if n < h.length then XX (.r n,h) else (lat h' n).map λxs=>(.p (.lst xs),h)
  | .o n=>if n < h.length then XX (.o n,h) else XX (.o n,h')
  | .k _=>XY| .c _ _=>XY
  | .x _=>XY)
 else XX (w,h')
@[simp] noncomputable def aY (n:Nat) (ws:List W):Sl:=ws.map XX++RO (n - ws.length) XY
noncomputable def jz (x:Option Fl) (k:W->HH->Option (W×HH)):Option (W×HH):=match x with
 | some (.rt w h)=>k w h| some (.nx _ h)=>k (.p .non) h| _=>XY
@[simp] theorem N9 (w:W) (h:HH) (k:W->HH->Option (W×HH)):jz (XX (.rt w h)) k=k w h:=rfl
@[simp] theorem Oa (s:Sl) (h:HH) (k:W->HH->Option (W×HH)):jz (XX (.nx s h)) k=k (.p .non) h:=rfl
@[simp] theorem Ko (k:W->HH->Option (W×HH)):jz XY k=XY:=rfl
end
section
variable (T:FK->Option Fn) (G:ZZ->Option W)
noncomputable def runN:Nat->FK->List W->HH->Option (W×HH)
 | 0,_,_,_=>XY
 | k+1,f,ws,h=>match T f with
  | some fn=>if ws.length=fn.ps.length then jz (evS (runN k) G fn.body (aY fn.ns.length ws) h) (fin h) else XY
  | none=>XY
theorem run_eq {T:FK->Option Fn}{G:ZZ->Option W}{f:FK}{fn:Fn}{ws:List W}{h:HH}{k:Nat} (hT:T f=XX fn) (hl:ws.length=fn.ps.length) :
 runN T G (k+1) f ws h=jz (evS (runN T G k) G fn.body (aY fn.ns.length ws) h) (fin h):=by
 rw[runN,hT];exact if_pos hl
end
noncomputable def Pk:Fn:=⟨["state","thing"],["state","thing"],.ret (.call "worth_in" (Z8 (.var 0) (.var 1)))⟩
noncomputable def Pn:Fn:=⟨["state","thing","worth"],["state","thing","worth"],.ret (.cmp .ne (.call "worth_in" (Z8 (.var 0) (.var 1))) (.var 2))⟩
noncomputable def Po:Fn:=⟨["state","thing","worth"],["state","thing","worth"],.ret (.cmp .ne (.call "worth_in" (Z8 (.var 0) (.var 1))) (.var 2))⟩
noncomputable def Pp:Fn:=⟨["state","term"],["state","term"],.ret (.call "reckoned" (Z8 (.var 1) (.var 0)))⟩
noncomputable def Pq:Fn:=⟨["state","term"],["state","term"],.ret (.cmp .ne (.call "reckoned" (Z8 (.var 1) (.var 0))) (.cst (.int 0)))⟩
noncomputable def Pr:Fn:=⟨["state","term"],["state","term"],.ret (.cmp .ne (.call "reckoned" (Z8 (.var 1) (.var 0))) (.cst (.int 0)))⟩
noncomputable def Pu:Fn:=⟨["state"],["state"],.ret (.idx (.var 0) (.glo "ROW"))⟩
noncomputable def Pv:Fn:=⟨["state","row"],["state","row"],.ret (.cmp .eq (.idx (.var 0) (.glo "ROW")) (.var 1))⟩
noncomputable def Pw:Fn:=⟨["state","number"],["state","number"],.ret (.cmp .gt (.bi .len X0 (Z9 (.idx (.var 0) (.glo "SAID")))) (.var 1))⟩
noncomputable def DM:Fn:=⟨["state","bound"],["state","bound"],.ret (.cmp .le (.call "open_in" (Z9 (.var 0))) (.var 1))⟩
noncomputable def vD:Fn:=⟨["state","bound"],["state","bound"],.ret (.cmp .le (.call "open_in" (Z9 (.var 0))) (.var 1))⟩
noncomputable def LU:Fn:=⟨["state","wanted"],["state","wanted"],.ret (.and (.cmp .eq (.idx (.var 0) (.glo "NAMES")) (.idx (.var 1) (.glo "NAMES"))) (.cmp .eq (.idx (.var 0) (.glo "CELLS")) (.idx (.var 1) (.glo "CELLS"))))⟩
noncomputable def LV:Fn:=⟨["state","tape","thing"],["state","tape","thing"],.ret (.cmp .eq (.call "written_next" (Z8 (.var 1) (.var 0))) (.var 2))⟩
noncomputable def LW:Fn:=⟨[],[],.ret (.cst .non)⟩
noncomputable def LY:Fn:=⟨[],[],.ret (.cst .non)⟩
noncomputable def mT (i:Nat):Option Fn:=([Pk,Pn,Po,Pp,Pq,Pr,Pu,Pv,Pw,DM,vD,LU,LV,LW,LY]:List Fn)[i]?
noncomputable def dR:List ZZ:=["worths_of","last_change","next_change","moments_so","last_so","next_so","visits","last_visit","when_said","next_within","last_within","first_other","writer_of","judged","remade"]
noncomputable def rR (i:Nat):ZZ:=dR.getD i ""
noncomputable def bI (x:ZZ):ZZ:="<"++x++">"
end BT
end
section
namespace BS
open PySem PySem.Spec PyProof.Rows L2
variable {K:Rm}
theorem ay {β:Type}{a:β}{P:Prop} (h:(XY:Option β)=XX a):P:=nomatch h
noncomputable def attrName (f:ZZ):Bool:=(["program","asked","gap","most","kept","farthest","front","now","origins","branches","tape","named"]:List ZZ).contains f
noncomputable def rS:BT.Bi->Option (String×(BT.D->Bool))
 | .isInt=>XX ("int",BT.isI)| .isBool=>XX ("bool",BT.isB)| .isStr=>XX ("str",BT.isS)| .isTuple=>XX ("tuple",BT.isT)| .isList=>XX ("list",BT.isL)| _=>XY
noncomputable def lF (sc:SE) (x:ZZ):Bool:=match sc.names.lookup x with
 | some .local=>XZ| some .cell=>XZ| some .free=>XZ| _=>X0
noncomputable def aA (sc:SE) (x:ZZ):Bool:=sc.names.lookup x==XX .globalImplicit
noncomputable def aB (x:ZZ):Bool:=!(x=="__debug__")&&!(x=="__classdict__")&&!(x=="__name__")
noncomputable def noStar:Rt->Bool
 | .Starred _ _=>X0| _=>XZ
noncomputable def jW:Rt->Bool
 | .Slice _ _ _ _=>X0| _=>XZ
noncomputable def aC:Rt->Bool
 | .Name _ _=>XZ| .Constant _ _ _=>XZ| .Subscript _ _ _=>XZ| .Attribute _ _ _=>XZ| .Call (.Attribute _ _ _) _ _ _=>XZ| _=>X0
noncomputable def LZ:BT.Bin->VT
 | .add=>.Add| .sub=>.Sub| .mul=>.Mult| .mod=>.Mod| .fdiv=>.FloorDiv| .pow=>.Pow
noncomputable def Gu (o:BT.Bin) (op:VT):Bool:=decide (op=LZ o)
noncomputable def Px:BT.Cm->CmpOp
 | .eq=>.Eq| .ne=>.NotEq| .lt=>.Lt| .le=>.LtE| .gt=>.Gt| .ge=>.GtE| .isN=>.Is| .notN=>.IsNot| .mem=>.In| .nmem=>.NotIn
noncomputable def L0 (o:BT.Cm) (op:CmpOp):Bool:=decide (op=Px o)
noncomputable def Gv:BT.D->Const->Bool
 | .non,.none=>XZ| .bl a,.bool b=>a==b| .int i,.int j=>i==j| .str x,.str y=>x==y&&PyData.strOk x| _,_=>X0
noncomputable def zS:BT.Bi->Bool->Option ZZ
 | .len,X0=>XX "len"| .abs,X0=>XX "abs"| .int,X0=>XX "int"| .list,_=>XX "list"| .tuple,X0=>XX "tuple"| _,_=>XY
noncomputable def Gw (b:BT.Bi) (mu:Bool) (x:ZZ):Bool:=zS b mu==XX x
noncomputable def zT:BT.Bi->ZZ->Bool
 | .min2,x=>x=="min"| .max2,x=>x=="max"| _,_=>X0
noncomputable def DN:Rt->Option Const
 | .Constant c _ _=>XX c| _=>XY
noncomputable def cInt:Const->Option Int
 | .int j=>XX j| _=>XY
noncomputable def unE:Rt->Option Rt
 | .UnaryOp o e _=>if o=.USub then XX e else XY
 | _=>XY
noncomputable def pZ (k:Int) (e:Rt):Bool:=((DN e).bind cInt==XX k&&decide (0 < k))||(((unE e).bind DN).bind cInt==XX (-k)&&decide (k < 0))
noncomputable def zU:BT.Me->ZZ
 | .append=>"append"| .pop=>"pop"| .extend=>"extend"| .tindex=>"index"| .sindex=>"index"| .dget=>"get"| .count=>"count"| .lindex=>"index"
noncomputable def uA:BT.E->Bool
 | .glo _=>XZ| _=>X0
noncomputable def HX (m:BT.Me) (o:BT.E):Bool:=match m with
 | .append=>XZ| .pop=>XZ| .extend=>XZ| .sindex=>XZ| .tindex=>uA o| .dget=>X0| .count=>XZ| .lindex=>XZ
noncomputable def fO (c:ZZ):Bool:=(["NoMoment","NoThing","NoRun","NoText"]:List ZZ).contains c
noncomputable def zV (cn:ZZ):Bool:=fO cn||cn=="ValueError"
noncomputable def bV (N:List ZZ):Bool:=!N.contains "_law_flags"
noncomputable def tOK:BT.E->Bool
 | .ite _ _ _=>X0| .not a=>tOK a| .and a b=>tOK a&&tOK b| .or a b=>tOK a&&tOK b| .tup _=>X0| .lst _ _=>X0| .comp _ _ _ _ _ _ _=>X0| _=>XZ
noncomputable def jA:Rt->Bool
 | .Set _ _ _=>X0| _=>XZ
noncomputable def rT:BT.Sr->Rt->Bool
 | .zip2,.Tuple _ _ _=>XZ| .enu,.Tuple _ _ _=>XZ| .zip2,_=>X0| .enu,_=>X0| _,_=>XZ
noncomputable def bF (scope sc:SE):SE :=
 { scope with names:=scope.names.map λ(n,k)=>if (k==.free&&sc.kind==.function&&sc.names.lookup n==XX .cell) then (n,.cell) else (n,k) }
noncomputable def nmE:Rt->Option ZZ
 | .Name y _=>XX y| _=>XY
noncomputable def HY:Rt->List Rt
 | .Tuple xs _ _=>xs| _=>[]
noncomputable def rV (sc:SE) (tg:List ZZ) (te:Rt):Bool:=((tg.map XX==[nmE te])||(tg.length==2&&tg.map XX==(HY te).map nmE))&&tg.all λx=>sc.names.lookup x==XX .local
noncomputable def jB:List ZZ->Bool
 | []=>XZ| x::r=>!r.contains x&&jB r
noncomputable def jC (sc:SE) (N:List ZZ) (tg:List ZZ) (fv:List (Nat×ZZ)) (scope:SE):Bool :=
 scope.kind==.function&&sc.kind==.function&&scope.names.all (λy=>!(y.2==.cell))&&scope.names.all (λy=>!(y.2==.local)||scope.names.lookup y.1==XX .local) &&
 scope.names.all (λy=>!(y.2==.free)||sc.names.lookup y.1==XX .cell) &&
 fv.all (λq=>N[q.1]?==XX q.2&&scope.names.contains (q.2,.free)&&sc.names.lookup q.2==XX .cell&&(bF scope sc).names.lookup q.2==XX .cell)&&jB (tg++fv.map (·.2))
inductive Tq where
 | e (a:BT.E) (x:Rt)|es (as:BT.Es) (xs:List Rt)|o (as:BT.Es) (x:Option Rt)|c (as:BT.Es) (xs:List Rt)|i (sr:BT.Sr) (sa:BT.Es) (x:Rt)
set_option autoImplicit true in
class inductive CQ:SE->List ZZ->Tq->Prop where
 | var (h1:N[i]?=XX x) (h2:lF sc x=XZ) (h3:aB x=XZ):CQ sc N (.e (.var i) (.Name x p))
 | cst (h:Gv d c=XZ):CQ sc N (.e (.cst d) (.Constant c k p))
 | glo (h2:aA sc x=XZ) (h3:aB x=XZ):CQ sc N (.e (.glo x) (.Name x p))
 | bin (h:Gu o op=XZ) (ha:CQ sc N (.e a l)) (hb:CQ sc N (.e b r)):CQ sc N (.e (.bin o a b) (.BinOp l op r p))
 | neg (ha:CQ sc N (.e a x)):CQ sc N (.e (.neg a) (.UnaryOp .USub x p))
 | not (ha:CQ sc N (.e a x)):CQ sc N (.e (.not a) (.UnaryOp .Not x p))
 | and2 (ha:CQ sc N (.e a x)) (hb:CQ sc N (.e b y)):CQ sc N (.e (.and a b) (.BoolOp .And [x,y] p))
 | and3 (ha:CQ sc N (.e a x)) (hb:CQ sc N (.e b (.BoolOp .And (y::z::r) p))):CQ sc N (.e (.and a b) (.BoolOp .And (x::y::z::r) p))
 | or2 (ha:CQ sc N (.e a x)) (hb:CQ sc N (.e b y)):CQ sc N (.e (.or a b) (.BoolOp .Or [x,y] p))
 | or3 (ha:CQ sc N (.e a x)) (hb:CQ sc N (.e b (.BoolOp .Or (y::z::r) p))):CQ sc N (.e (.or a b) (.BoolOp .Or (x::y::z::r) p))
 | cmp (h:L0 o op=XZ) (ha:CQ sc N (.e a l)) (hb:CQ sc N (.e b r)) (hm:Vr op r=X0):CQ sc N (.e (.cmp o a b) (.Compare l [op] [r] p))
 | ite (h:tOK c=XZ) (hc:CQ sc N (.e c t)) (ha:CQ sc N (.e a x)) (hb:CQ sc N (.e b y)):CQ sc N (.e (.ite c a b) (.IfExp t x y p))
 | tup (h:CQ sc N (.es as es)):CQ sc N (.e (.tup as) (.Tuple es k p))
 | lst (h:CQ sc N (.es as es)):CQ sc N (.e (.lst mu as) (.List es p))
 | idx (ha:CQ sc N (.e a x)) (hi:CQ sc N (.e i sl)) (hs:jW sl=XZ):CQ sc N (.e (.idx a i) (.Subscript x sl p))
 | slc {lo:BT.Es} (ha:CQ sc N (.e a x)) (hl:CQ sc N (.o lo l)) (hu:CQ sc N (.o hi u)):CQ sc N (.e (.slc a lo hi) (.Subscript x (.Slice l u XY p2) p))
 | call (hg:aA sc f=XZ) (hn:aB f=XZ) (ha:CQ sc N (.es as es)):CQ sc N (.e (.call f as) (.Call (.Name f np) es [] p))
 | lrev (hu:bV N=XZ) (hg:aA sc "list"=XZ) (hg2:aA sc "reversed"=XZ) (hs:noStar e=XZ) (h:CQ sc N (.e a e)) :
  CQ sc N (.e (.lsr mu .rev (.cons a .nil)) (.Call (.Name "list" np) [.Call (.Name "reversed" zp) [e] [] pos] [] p))
 | bi (hu:bV N=XZ) (hb:Gw b mu x=XZ) (hg:aA sc x=XZ) (hs:noStar e=XZ) (ha:CQ sc N (.e a e)):CQ sc N (.e (.bi b mu (.cons a .nil)) (.Call (.Name x np) [e] [] p))
 | inst (hb:rS b=XX (c,f)) (hg:aA sc "isinstance"=XZ) (hg2:aA sc (RG c)=XZ) (hs:noStar e=XZ) (ha:CQ sc N (.e a e)) :
  CQ sc N (.e (.bi b X0 (.cons a .nil)) (.Call (.Name "isinstance" np) [e,.Name (RG c) p2] [] p))
 | isx (hx:zV cn=XZ) (hn:aB cn=XZ) (hg:aA sc "isinstance"=XZ) (hg2:aA sc cn=XZ) (hs:noStar e=XZ) (ha:CQ sc N (.e a e)) :
  CQ sc N (.e (.isx cn a) (.Call (.Name "isinstance" np) [e,.Name cn p2] [] p))
 | me (h1:HX m o=XZ) (h2:name=zU m) (h3:aC oe=XZ) (h6:(apos.endLine==cpos.line)=XZ) (h7:es.length < 20) (ho:CQ sc N (.e o oe)) (ha:CQ sc N (.es as es)) :
  CQ sc N (.e (.me m o as) (.Call (.Attribute oe name apos) es [] cpos))
 | comp {cond:BT.Es}
  (hu:bV N=XZ) (hk:jC sc N tg fv scope=XZ) (ht:rV (bF scope sc) tg te=XZ) (hz:rT sr te=XZ) (hs:jA iter=XZ) (hi:CQ sc N (.i sr sa iter))
  (hc:CQ (bF scope sc) (tg++fv.map (·.2)) (.c cond ifs)) (he:CQ (bF scope sc) (tg++fv.map (·.2)) (.e elt elt')):CQ sc N (.e (.comp mu sr sa tg fv cond elt) (.ListComp elt' [⟨te,iter,ifs,0⟩] scope pos))
 | fld (hb:aC x=XZ) (hf:attrName f=XZ) (ha:CQ sc N (.e a x)):CQ sc N (.e (.fld a f) (.Attribute x f p))
 | meth (h3:aC oe=XZ) (h6:(apos.endLine==cpos.line)=XZ) (h7:es.length < 20) (ho:CQ sc N (.e o oe)) (ha:CQ sc N (.es as es)) :
  CQ sc N (.e (.meth o m as) (.Call (.Attribute oe m apos) es [] cpos))
 | stp (hk:pZ k se=XZ) (ha:CQ sc N (.e a x)):CQ sc N (.e (.stp mu k a) (.Subscript x (.Slice XY XY (XX se) p2) p))
 | bi2 (hu:bV N=XZ) (hb:zT b x=XZ) (hg:aA sc x=XZ) (hs1:noStar e1=XZ) (hs2:noStar e2=XZ) (h1:CQ sc N (.e a1 e1)) (h2:CQ sc N (.e a2 e2)) :
  CQ sc N (.e (.bi b X0 (.cons a1 (.cons a2 .nil))) (.Call (.Name x np) [e1,e2] [] p))
 | make (hg:aA sc c=XZ) (hn:aB c=XZ) (ha:CQ sc N (.es as es)):CQ sc N (.e (.make c as) (.Call (.Name c np) es [] p))
 | callv (h1:N[i]?=XX x) (h2:lF sc x=XZ) (h3:aB x=XZ) (ha:CQ sc N (.es as (e::es))):CQ sc N (.e (.callv i as) (.Call (.Name x np) (e::es) [] p))
 | dnew:CQ sc N (.e .dnew (.Dict [] [] p))
 | dli (hu:bV N=XZ) (hg:aA sc "list"=XZ) (h3:aC oe=XZ) (h6:(apos.endLine==pos.line)=XZ) (ho:CQ sc N (.e o oe)):CQ sc N (.e (.dli o) (.Call (.Name "list" np) [.Call (.Attribute oe "items" apos) [] [] pos] [] p))
 | cat (ha:CQ sc N (.e a x)) (hb:CQ sc N (.e b y)):CQ sc N (.e (.cat a b) (.BinOp x .Add y p))
 | lrng2 (hu:bV N=XZ) (hg:aA sc "list"=XZ) (hg2:aA sc "range"=XZ) (hs:noStar x=XZ) (hs2:noStar y=XZ) (ha:CQ sc N (.e a x)) (hb:CQ sc N (.e b y)) :
  CQ sc N (.e (.lsr mu .rng2 (.cons a (.cons b .nil))) (.Call (.Name "list" np) [.Call (.Name "range" zp) [x,y] [] pos] [] p))
 | es_nil:CQ sc N (.es .nil [])
 | es_cons (hs:noStar e=XZ) (ha:CQ sc N (.e a e)) (hr:CQ sc N (.es as es)):CQ sc N (.es (.cons a as) (e::es))
 | o_nil:CQ sc N (.o .nil XY)
 | o_one (ha:CQ sc N (.e a e)):CQ sc N (.o (.cons a .nil) (XX e))
 | c_nil:CQ sc N (.c .nil [])
 | c_one (ht:tOK a=XZ) (ha:CQ sc N (.e a e)):CQ sc N (.c (.cons a .nil) [e])
 | rng1 (hg:aA sc "range"=XZ) (hs:noStar e=XZ) (h:CQ sc N (.e a e)):CQ sc N (.i .rng1 (.cons a .nil) (.Call (.Name "range" p) [e] [] pos))
 | rng2 (hg:aA sc "range"=XZ) (hs:noStar x=XZ) (hs2:noStar y=XZ) (ha:CQ sc N (.e a x)) (hb:CQ sc N (.e b y)):CQ sc N (.i .rng2 (.cons a (.cons b .nil)) (.Call (.Name "range" p) [x,y] [] pos))
 | rev (hg:aA sc "reversed"=XZ) (hs:noStar e=XZ) (h:CQ sc N (.e a e)):CQ sc N (.i .rev (.cons a .nil) (.Call (.Name "reversed" p) [e] [] pos))
 | seq (h:CQ sc N (.e a x)):CQ sc N (.i .seq (.cons a .nil) x)
noncomputable abbrev CE' (sc:SE) (N:List ZZ) (a:BT.E) (x:Rt):Prop:=CQ sc N (.e a x)
noncomputable abbrev CEs (sc:SE) (N:List ZZ) (as:BT.Es) (xs:List Rt):Prop:=CQ sc N (.es as xs)
noncomputable abbrev CC (sc:SE) (N:List ZZ) (as:BT.Es) (xs:List Rt):Prop:=CQ sc N (.c as xs)
noncomputable abbrev CI (sc:SE) (N:List ZZ) (sr:BT.Sr) (sa:BT.Es) (x:Rt):Prop:=CQ sc N (.i sr sa x)
inductive LPa:Wp->List ZZ->Prop where
 | one {p:Pos}:LPa ⟨[],[⟨"state",XY,p⟩],XY,[],[],XY,[]⟩ ["state"]
 | two {p q:Pos}:LPa ⟨[],[⟨"row",XY,p⟩,⟨"state",XY,q⟩],XY,[],[],XY,[]⟩ ["row","state"]
noncomputable def lG (ps fs:List ZZ) (sc:SE):Bool :=
 sc.kind==.function&&!sc.isCoroutine&&!sc.isGenerator&&sc.names.all (λy=>!(y.2==.cell))&&ps.all (λx=>sc.names.lookup x==XX .local) &&
 fs.all (λx=>sc.names.lookup x==XX .free&&sc.names.contains (x,.free))&&sc.names.all (λy=>!(y.2==.free)||fs.contains y.1)&&jB (ps++fs)
noncomputable def uB (sc:SE) (N:List ZZ) (fv:List (Nat×ZZ)):Bool:=fv.all λq=>N[q.1]?==XX q.2&&sc.names.lookup q.2==XX .cell
inductive CL (sc:SE) (N:List ZZ):BT.E->ZZ->BT.Es->Nat->List (Nat×ZZ)->Rt->Prop where
 | zero {o bt:BT.E}{m:ZZ}{L:Nat}{fv:List (Nat×ZZ)}{oe be:Rt}{apos cpos lp:Pos}{pa:Wp}{scope:SE}{ns ps:List ZZ} (hl:BT.mT L=XX ⟨ns,ns,.ret bt⟩) (hp:LPa pa ps) (hn:ns=ps++fv.map (·.2)) (hk:lG ps (fv.map (·.2)) scope=XZ) (hv:uB sc N fv=XZ)
  (ht:N.contains (BT.bI (BT.rR L))=XZ) (hc:CE' scope ns bt be) (h3:aC oe=XZ) (h6:(apos.endLine==cpos.line)=XZ) (ho:CE' sc N o oe):CL sc N o m .nil L fv (.Call (.Attribute oe m apos) [.Lambda pa be scope lp] [] cpos)
 | one {o bt a:BT.E}{m:ZZ}{L:Nat}{fv:List (Nat×ZZ)}{oe be e:Rt}{apos cpos lp:Pos}{pa:Wp}{scope:SE}{ns ps:List ZZ} (hl:BT.mT L=XX ⟨ns,ns,.ret bt⟩) (hp:LPa pa ps) (hn:ns=ps++fv.map (·.2)) (hk:lG ps (fv.map (·.2)) scope=XZ) (hv:uB sc N fv=XZ)
  (ht:N.contains (BT.bI (BT.rR L))=XZ) (hc:CE' scope ns bt be) (h3:aC oe=XZ) (h6:(apos.endLine==cpos.line)=XZ) (ho:CE' sc N o oe) (hs:noStar e=XZ) (ha:CE' sc N a e):CL sc N o m (.cons a .nil) L fv (.Call (.Attribute oe m apos) [e,.Lambda pa be scope lp] [] cpos)
def KT (K:Rm) (a:Z0) (xs:List V):Prop :=
 ∃ (o:Obj) (its:Array Z1) (n:Nat),(K.lookup a=XX o/\o.cls=.type "tuple"/\o.data=.seq its n/\its.size<=ZX/\av xs its.toList)/\o.dict=XY
def KL (K:Rm) (a:Z0) (xs:List V):Prop:=∃ (its:List Z1) (n:Nat),K.lookup a=XX { cls:=.type "list",data:=.seq its.toArray n }/\its.length<=ZX/\av xs its
def LL (K:Rm) (H:Hp) (a:Z0) (xs:List V):Prop:=Rd H a (.lst xs)\/KL K a xs
theorem LL.sq (h:LL K H a xs):SqL K H a xs:=by
 rcases h with h|⟨its,n,h1,h2,h3⟩
 exact .inl h;exact .inr ⟨_,its.toArray,n,h1,rfl,rfl,rfl,by simpa using h2,by simpa using h3⟩
def KD (P:Se) (w:SB) (K:Rm) (a:Z0) (es:List (ZZ×V)):Prop :=
 (a==Uu)=X0/\∃ vs:List (Key×Z1),KV (es.map λq=>(Sum.inr q.1,q.2)) vs/\∀ h:Heap,K.In h->h.DictOf (aU P w) a vs
mutual
inductive RD (K:Rm) (m:List Z0) (H:Hp):V->BT.D->Prop where
 | non:RD K m H .non .non
 | bl (b:Bool):RD K m H (.bl b) (.bl b)
 | int (i:Int):RD K m H (.int i) (.int i)
 | str (x:ZZ) (h:PyData.strOk x=XZ):RD K m H (.str x) (.str x)
 | tup {a:Z0}{vs:List V}{ds:List BT.D} (h:(Rd H a (.tup vs)/\a∉m)\/KT K a vs) (r:RDs K m H vs ds):RD K m H (.ref a) (.tup ds)
 | lst {a:Z0}{vs:List V}{ds:List BT.D} (h:(Rd H a (.lst vs)/\a∉m)\/KL K a vs) (r:RDs K m H vs ds):RD K m H (.ref a) (.lst ds)
inductive RDs (K:Rm) (m:List Z0) (H:Hp):List V->List BT.D->Prop where
 | nil:RDs K m H [] []
 | cons {v:V}{d:BT.D}{vs:List V}{ds:List BT.D} (r:RD K m H v d) (t:RDs K m H vs ds):RDs K m H (v::vs) (d::ds)
end
inductive RDk (K:Rm):List (ZZ×V)->List (ZZ×BT.D)->Prop where
 | nil:RDk K [] []
 | cons {x:ZZ}{v:V}{d:BT.D}{es:List (ZZ×V)}{kvs:List (ZZ×BT.D)} (r:∀ m H,RD K m H v d) (t:RDk K es kvs):RDk K ((x,v)::es) ((x,d)::kvs)
inductive RA (K:Rm) (m:List Z0) (H:Hp):V->BT.W->Prop where
 | p {v:V}{d:BT.D} (r:RD K m H v d):RA K m H v (.p d)
 | r {a:Z0}{n:Nat} (h:m[n]?=XX a):RA K m H (.ref a) (.r n)
 | o {a:Z0}{n:Nat} (h:m[n]?=XX a):RA K m H (.ref a) (.o n)
def Tr (m:List Z0) (H:Hp) (a:Z0) (o:Obj):Prop:=H a=XX (.frz o (.own 0))/\a∉m
noncomputable def xU (x:ZZ):ZZ:=x++".<locals>."++"<lambda>"
inductive iE (m:List Z0) (H:Hp) (cl:List (ZZ×Z0)):List ZZ->List V->Prop where
 | nil:iE m H cl [] []
 | cons {x:ZZ}{c:Z0}{o:Obj}{u:Z1}{v:V}{xs:List ZZ}{vs:List V} (h1:cl.lookup x=XX c) (h2:Tr m H c o) (h3:o.data=.cell (XX u)) (r:RelV v u) (t:iE m H cl xs vs):iE m H cl (x::xs) (v::vs)
inductive iC (m:List Z0) (H:Hp) (f:Z0) (L:Nat) (vs:List V):Prop where
 | mk (bt:_) (ps:_) (fs:_) (pa:_) (be:_) (sc:_) (cl:_) (pm:_) (ctv:_) (c':_) (oc:_) (os:_) (t:_) (q:_) (h1:BT.mT L=XX ⟨ps++fs,ps++fs,.ret bt⟩) (h2:LPa pa ps) (h3:lG ps fs sc=XZ) (h4:CE' sc (ps++fs) bt be) (h5:(∀ x y c,cl.lookup x=XX c->cl.lookup y=XX c->x=y)) (h6:(∀ x c,cl.lookup x=XX c->x∈fs)) (h7:Tr m H f (Vg "<lambda>" q pa be sc cl pm c' ctv)) (h8:Tr m H c' oc) (h9:oc.data=.fields os) (h10:os[1]?=XX (.str q t)) (h11:iE m H cl fs vs):iC m H f L vs
inductive RCs (K:Rm) (m:List Z0) (H:Hp):List V->List BT.Cp->Prop where
 | nil:RCs K m H [] []
 | cons {v:V}{x:BT.Cp}{vs:List V}{xs:List BT.Cp} (r:RA K m H v x.w) (t:RCs K m H vs xs):RCs K m H (v::vs) (x::xs)
def TB (K:Rm) (H:Hp):Prop:=∀ x∈BT.dR,∀ c P,Sz K x=XX (c,P)->∃ ps,H P=XX (.tbl ps)/\TriplesOk ps.toList ∧
 ∀ pos v,U4 pos ps.toList=XX v->∃ c' oc os t,v=.ref c'/\H c'=XX (.frz oc (.own 0))/\oc.data=.fields os/\os[1]?=XX (.str (xU x) t)
theorem TB.mono (h:TB K H) (h1:∀ P ps,H P=XX (.tbl ps)->H' P=XX (.tbl ps)) (h2:∀ a o vs,o.data=.fields vs->H a=XX (.frz o (.own 0))->H' a=XX (.frz o (.own 0))):TB K H':=λx hx c P e=>by obtain ⟨ps,e1,e2,e3⟩:=h x hx c P e;refine ⟨ps,h1 _ _ e1,e2,λpos v q=>?_⟩;obtain ⟨c',oc,os,t,q1,q2,q3⟩:=e3 pos v q;exact ⟨c',oc,os,t,q1,h2 _ _ _ q3.1 q2,q3⟩
def CN (K:Rm) (c:ZZ) (C:Z0):Prop:=Sq K RE c=XX (XX (.ref C))
structure XT (K:Rm) (c:ZZ) (C:Z0):Prop where
 ga:Si K (.ref C) "__getattribute__"=XX (XX (.builtin "BaseException.__getattribute__"))
 nga:Si K (.ref C) "__getattr__"=XX XY
 mrb:Vy K C (.type "BaseException")=XX XZ
 dct:T5 K C=XZ
 fnd:Si K (.ref C) "__class__"=XX (XX (.builtin "object.__class__"))
 spc:Xi K (.builtin "object.__class__") "__get__"=XX (XX (.builtin "getset_descriptor.__get__"))
 tak:XM K (.builtin "object.__class__")=XX XZ
 mro:Vy K C (.type "object")=XX XZ
 own:∀ cn,fO cn=XZ->∃ D,CN K cn D/\S7 K (.ref C) (.ref D)=XX (BT.mS c cn)
 val:S7 K (.ref C) (.type "ValueError")=XX XZ
def excAt (K:Rm) (c:ZZ) (a:Z0):Heap->Prop:=λh=>∃ o C,CN K c C/\XT K c C/\h.get? a=XX o/\o.cls=.ref C
inductive RW (P:Se) (w:SB) (K:Rm) (m:List Z0) (H:Hp):V->BT.W->Prop where
 | p {v:V}{d:BT.D} (r:RD K m H v d):RW P w K m H v (.p d)
 | r {a:Z0}{n:Nat} (h:m[n]?=XX a):RW P w K m H (.ref a) (.r n)
 | k {a:Z0}{es:List (ZZ×V)}{kvs:List (ZZ×BT.D)} (h:KD P w K a es) (r:RDk K es kvs):RW P w K m H (.ref a) (.k kvs)
 | o {a:Z0}{n:Nat} (h:m[n]?=XX a):RW P w K m H (.ref a) (.o n)
 | c {f:Z0}{L:Nat}{vs:List V}{cs:List BT.Cp} (h:iC m H f L vs) (r:RCs K m H vs cs):RW P w K m H (.ref f) (.c (.l L) cs)
 | x {a:Z0}{c:ZZ} (h:H a=XX (.ext (excAt K c a))) (n:a∉m) (xt:∃ C,XT K c C):RW P w K m H (.ref a) (.x c)
 | g {f:Z0}{x:ZZ} (h:Sq K RE x=XX (XX (.ref f))) (r:Sd K (.ref f)=XZ):RW P w K m H (.ref f) (.c (.f x) [])
inductive RFs (K:Rm) (m:List Z0) (H:Hp):List (ZZ×V)->List (ZZ×BT.W)->Prop where
 | nil:RFs K m H [] []
 | cons {f:ZZ}{v:V}{x:BT.W}{vs:List (ZZ×V)}{fs:List (ZZ×BT.W)} (r:RA K m H v x) (t:RFs K m H vs fs):RFs K m H ((f,v)::vs) ((f,x)::fs)
inductive RKs (K:Rm) (m:List Z0) (H:Hp):List (Key×V)->List (BT.Ky×BT.D)->Prop where
 | nil:RKs K m H [] []
 | cons {k:Key}{v:V}{d:BT.D}{vs:List (Key×V)}{kvs:List (BT.Ky×BT.D)} (hk:RD K m H (kV k) (BT.uh k)) (r:RD K m H v d) (t:RKs K m H vs kvs):RKs K m H ((k,v)::vs) ((k,d)::kvs)
theorem CN.inj (h:CN K c C) (h':CN K c C'):C=C':=by have e:=h.symm.trans h';simpa using e
structure jX (K:Rm) (c:ZZ) (C:Z0):Prop where
 cn:CN K c C
 cls:Cls K C
 no:∀ f,attrName f=XZ->iH K C f
noncomputable def iM (K:Rm) (m:List Z0) (H:Hp) (a:Z0):BT.Cl->Prop
 | .l xs=>∃ vs,H a=XX (.lst vs)/\RDs K m H vs xs| .o c fs=>∃ C dx vs,H a=XX (.ins C dx vs)/\jX K c C/\RFs K m H vs fs| .d kvs=>∃ vs,H a=XX (.dK vs)/\RKs K m H vs kvs
inductive RWs (P:Se) (w:SB) (K:Rm) (m:List Z0) (H:Hp):List V->List BT.W->Prop where
 | nil:RWs P w K m H [] []
 | cons {v:V}{x:BT.W}{vs:List V}{xs:List BT.W} (r:RW P w K m H v x) (t:RWs P w K m H vs xs):RWs P w K m H (v::vs) (x::xs)
structure RH (K:Rm) (m:List Z0) (H:Hp) (h:BT.HH):Prop where
 nd:m.Nodup
 len:m.length=h.length
 cl:∀ (i:Nat) (a:Z0) (c:BT.Cl),m[i]?=XX a->h[i]?=XX c->iM K m H a c
 tb:TB K H
theorem zW (e:BT.lat h n=XX xs):h[n]?=XX (.l xs):=by
 unfold BT.lat at e;cases g:h[n]? with
 | none=>rw[g] at e;cases e| some c=>rw[g] at e;cases c<;>simp[BT.pQ] at e;rw[e]
theorem zX (e:BT.oat h n=XX (c,fs)):h[n]?=XX (.o c fs):=by
 unfold BT.oat at e;cases g:h[n]? with
 | none=>rw[g] at e;cases e| some c=>rw[g] at e;cases c<;>simp[BT.rK] at e;rw[e.1,e.2]
theorem zY (e:BT.dat h n=XX kvs):h[n]?=XX (.d kvs):=by
 unfold BT.dat at e;cases g:h[n]? with
 | none=>rw[g] at e;cases e| some c=>rw[g] at e;cases c<;>simp[BT.xN] at e;rw[e]
theorem RH.Gx (R:RH K m H h) (i:Nat) (a:Z0) (kvs:List (BT.Ky×BT.D)) (e:m[i]?=XX a) (g:BT.dat h i=XX kvs):∃ vs,H a=XX (.dK vs)/\RKs K m H vs kvs:=R.cl i a _ e (zY g)
theorem RH.cell (R:RH K m H h) (i:Nat) (a:Z0) (xs:List BT.D) (e:m[i]?=XX a) (g:BT.lat h i=XX xs):∃ vs,H a=XX (.lst vs)/\RDs K m H vs xs:=R.cl i a _ e (zW g)
inductive OC (K:Rm) (m:List Z0) (H:Hp) (a:Z0) (c:ZZ) (fs:List (ZZ×BT.W)):Prop where
 | mk (C:Z0) (dx:_) (vs:_) (h1:H a=XX (.ins C dx vs)) (h2:jX K c C) (h3:RFs K m H vs fs):OC K m H a c fs
theorem RH.mU (R:RH K m H h) (i:Nat) (a:Z0) (c:ZZ) (fs:List (ZZ×BT.W)) (e:m[i]?=XX a) (g:BT.oat h i=XX (c,fs)):OC K m H a c fs:=by obtain ⟨C,dx,vs,h1,h2,h3⟩:=R.cl i a _ e (zX g);exact ⟨C,dx,vs,h1,h2,h3⟩
structure RS (P:Se) (w:SB) (K:Rm) (m:List Z0) (H:Hp) (σ:L2.St) (s:BT.Sl):Prop where
 len:σ.length=s.length
 get:∀ (i:Nat) (x:BT.W),s[i]?=XX (XX x)->∃ v,σ[i]?=XX (XX v)/\RW P w K m H v x
noncomputable def zZ:HO->Bool
 | .tbl _=>XZ| _=>X0
structure Ext (m:List Z0) (H:Hp) (m':List Z0) (H':Hp):Prop where
 pre:∃ e,m'=m++e/\∀ a∈e,H a=XY
 keep:∀ a o,H a=XX o->a∉m->zZ o=X0->H' a=XX o
 live:∀ a,H' a=XY->H a=XY
theorem Ext.refl (m:List Z0) (H:Hp):Ext m H m H:=⟨⟨[],by simp,by simp⟩,λ_ _ h _ _=>h,λ_ h=>h⟩
theorem Ext.d8 (x:Ext m H m' H') (h:H a=XX o) (n:a∉m):a∉m':=by
 obtain ⟨e,rfl,he⟩:=x.pre;intro q;rcases List.mem_append.mp q with q|q
 exact n q;rw[he a q] at h;cases h
theorem Ext.trans (x:Ext m H m1 H1) (y:Ext m1 H1 m2 H2):Ext m H m2 H2:=by
 obtain ⟨e,rfl,he⟩:=x.pre;obtain ⟨e',rfl,he'⟩:=y.pre;refine ⟨⟨e++e',by rw[SW],λa ha=>?_⟩,λa o h n t=>y.keep a o (x.keep a o h n t) (x.d8 h n) t,λa h=>x.live a (y.live a h)⟩;rcases List.mem_append.mp ha with q|q
 exact he a q;exact x.live a (he' a q)
theorem Rd.ext (x:Ext m H m' H') (h:Rd H a u) (n:a∉m) (t:zZ u=X0:=by rfl):Rd H' a u/\a∉m':=by
 rcases h with h|⟨o,h⟩
 exact ⟨.inl (x.keep _ _ h n t),x.d8 h n⟩;exact ⟨.inr ⟨o,x.keep _ _ h n rfl⟩,x.d8 h n⟩
theorem Tr.ext (x:Ext m H m' H') (h:Tr m H a o):Tr m' H' a o:=⟨x.keep _ _ h.1 h.2 rfl,x.d8 h.1 h.2⟩
theorem iE.ext (x:Ext m H m' H') (r:iE m H cl xs vs):iE m' H' cl xs vs:=by
 induction r with
 | nil=>exact .nil| cons h1 h2 h3 r t ih=>exact .cons h1 (h2.ext x) h3 r ih
theorem iC.ext (x:Ext m H m' H') (h:iC m H f L vs):iC m' H' f L vs:=by obtain ⟨bt,ps,fs,pa,be,sc,cl,pm,ctv,c',oc,os,t,q,h0,h1,h2,h3,h4,h5,h6,h7,h8,h9,h10⟩:=h;exact ⟨bt,ps,fs,pa,be,sc,cl,pm,ctv,c',oc,os,t,q,h0,h1,h2,h3,h4,h5,h6.ext x,h7.ext x,h8,h9,h10.ext x⟩
section
variable {K:Rm}
mutual
theorem RD.ext (x:Ext m H m' H'):∀ {v:V}{d:BT.D},RD K m H v d->RD K m' H' v d
 | _,_,.non=>.non| _,_,.bl b=>.bl b| _,_,.int i=>.int i| _,_,.str y h=>.str y h| _,_,.tup h r=>.tup (h.elim (λq=>.inl (Rd.ext x q.1 q.2)) .inr) (RDs.ext x r)| _,_,.lst h r=>.lst (h.elim (λq=>.inl (Rd.ext x q.1 q.2)) .inr) (RDs.ext x r)
theorem RDs.ext (x:Ext m H m' H'):∀ {vs:List V}{ds:List BT.D},RDs K m H vs ds->RDs K m' H' vs ds
 | _,_,.nil=>.nil| _,_,.cons r t=>.cons (RD.ext x r) (RDs.ext x t)
end
theorem RA.rw (r:RA K m H v d):RW P w K m H v d:=by
 cases r with
 | p r=>exact .p r| r h=>exact .r h| o h=>exact .o h
theorem RW.ra (r:RW P w K m H v d) (h0:BT.attrOk d=XZ):RA K m H v d:=by
 cases r with
 | p r=>exact .p r| r h=>exact .r h| o h=>exact .o h| _=>cases h0
theorem Ext.ix (x:Ext m H m' H') {n:Nat} (h:m[n]?=XX a):m'[n]?=XX a:=by obtain ⟨e,rfl,_⟩:=x.pre;rw[Rp (by rcases RP _ m.length with q|q;exact q;rw[Rz q] at h;cases h)];exact h
theorem RA.ext (x:Ext m H m' H') (r:RA K m H v d):RA K m' H' v d:=by
 cases r with
 | p r=>exact .p (r.ext x)| r h=>exact .r (x.ix h)| o h=>exact .o (x.ix h)
theorem RCs.ext (x:Ext m H m' H') (r:RCs K m H vs cs):RCs K m' H' vs cs:=by
 induction r with
 | nil=>exact .nil| cons r t ih=>exact .cons (r.ext x) ih
theorem RW.ext (x:Ext m H m' H') (r:RW P w K m H v d):RW P w K m' H' v d:=by
 cases r with
 | p r=>exact .p (r.ext x)
 | r h =>
  obtain ⟨e,rfl,_⟩:=x.pre;refine .r ?_;rw[Rp (by rcases RP _ m.length with q|q;exact q;rw[Rz q] at h;cases h)];exact h
 | k h r=>exact .k h r| c h r=>exact .c (h.ext x) (r.ext x)| g h r=>exact .g h r| x h n xt=>exact .x (x.keep _ _ h n rfl) (x.d8 h n) xt
 | o h =>
  obtain ⟨e,rfl,_⟩:=x.pre;refine .o ?_;rw[Rp (by rcases RP _ m.length with q|q;exact q;rw[Rz q] at h;cases h)];exact h
theorem RFs.ext (x:Ext m H m' H') (r:RFs K m H vs fs):RFs K m' H' vs fs:=by
 induction r with
 | nil=>exact .nil| cons r t ih=>exact .cons (r.ext x) ih
theorem RKs.ext (x:Ext m H m' H') (r:RKs K m H vs kvs):RKs K m' H' vs kvs:=by
 induction r with
 | nil=>exact .nil| cons hk r t ih=>exact .cons (hk.ext x) (r.ext x) ih
theorem iM.ext (x:Ext m H m' H') (e:H' a=H a) (r:iM K m H a c):iM K m' H' a c:=by
 cases c with
 | o c fs=>obtain ⟨C,dx,vs,h1,h2,h3⟩:=r;exact ⟨C,dx,vs,e.trans h1,h2,h3.ext x⟩| _=>obtain ⟨vs,h1,h2⟩:=r;exact ⟨vs,e.trans h1,h2.ext x⟩
theorem iM.some (r:iM K m H a c):∃ o,H a=XX o:=by
 cases c with
 | o c fs=>obtain ⟨C,dx,vs,h1,h2,h3⟩:=r;exact ⟨_,h1⟩| _=>obtain ⟨vs,h1,h2⟩:=r;exact ⟨_,h1⟩
theorem RWs.ext (x:Ext m H m' H') (r:RWs P w K m H vs ds):RWs P w K m' H' vs ds:=by
 induction r with
 | nil=>exact .nil| cons r t ih=>exact .cons (r.ext x) ih
theorem RS.ext (x:Ext m H m' H') (r:RS P w K m H σ s):RS P w K m' H' σ s :=
 ⟨r.len,λi y e=>by obtain ⟨v,h,q⟩:=r.get i y e;exact ⟨v,h,q.ext x⟩⟩
theorem RDs.length:∀ {vs:List V}{ds:List BT.D},RDs K m H vs ds->vs.length=ds.length
 | _,_,.nil=>rfl
 | _,_,.cons _ t=>by rw[R6,R6,RDs.length t]
theorem RWs.length:∀ {vs:List V}{ds:List BT.W},RWs P w K m H vs ds->vs.length=ds.length
 | _,_,.nil=>rfl
 | _,_,.cons _ t=>by rw[R6,R6,RWs.length t]
theorem RDs.get:∀ {vs:List V}{ds:List BT.D}{i:Nat}{d:BT.D},RDs K m H vs ds->ds[i]?=XX d->∃ v,vs[i]?=XX v/\RD K m H v d
 | _,_,_,_,.nil,e=>by simp at e
 | _,_,0,_,.cons r _,e=>by simp at e;subst e;exact ⟨_,rfl,r⟩
 | _,_,i+1,d,.cons _ t,e=>by obtain ⟨u,h1,h2⟩:=RDs.get (i:=i) (d:=d) t (by simpa using e);exact ⟨u,by simpa using h1,h2⟩
theorem RDs.append:∀ {vs ws:List V}{ds es:List BT.D},RDs K m H vs ds->RDs K m H ws es->RDs K m H (vs++ws) (ds++es)
 | _,_,_,_,.nil,s=>s| _,_,_,_,.cons r t,s=>.cons r (RDs.append t s)
theorem RDs.take:∀ {vs:List V}{ds:List BT.D} (n:Nat),RDs K m H vs ds->RDs K m H (vs.take n) (ds.take n)
 | _,_,0,_=>.nil| _,_,_+1,.nil=>.nil| _,_,n+1,.cons r t=>.cons r (RDs.take n t)
theorem RDs.drop:∀ {vs:List V}{ds:List BT.D} (n:Nat),RDs K m H vs ds->RDs K m H (vs.drop n) (ds.drop n)
 | _,_,0,r=>r| _,_,_+1,.nil=>.nil| _,_,n+1,.cons _ t=>RDs.drop n t
theorem RDs.set (r:RD K m H v d):∀ {vs:List V}{ds:List BT.D} (i:Nat),RDs K m H vs ds->RDs K m H (vs.set i v) (ds.set i d)
 | _,_,_,.nil=>.nil| _,_,0,.cons _ t=>.cons r t| _,_,i+1,.cons q t=>.cons q (RDs.set r i t)
theorem RDs.reverse (r:RDs K m H vs ds):RDs K m H vs.reverse ds.reverse:=by
 match r with
 | .nil=>exact .nil| .cons r t=>rw[U8,U8];exact RDs.append (RDs.reverse t) (.cons r .nil)
theorem RDs.pick (r:RDs K m H vs ds):∀ l:List Nat,RDs K m H (l.filterMap λi=>vs[i]?) (l.filterMap λi=>ds[i]?)
 | []=>.nil
 | i::l=>by
  rw[Ss,Ss];cases g:ds[i]? with
  | none =>
   have:vs[i]?=XY:=by have h:=r.length;rw[WB] at g ⊢;lia
   rw[this];exact RDs.pick r l
  | some d =>
   obtain ⟨v,e,q⟩:=r.get g;rw[e];exact .cons q (RDs.pick r l)
theorem RDs.dropLast:∀ {vs:List V}{ds:List BT.D},RDs K m H vs ds->RDs K m H vs.dropLast ds.dropLast
 | _,_,.nil=>.nil| _,_,.cons _ .nil=>.nil| _,_,.cons r (.cons q t)=>.cons r (RDs.dropLast (.cons q t))
theorem RDs.rep (r:RDs K m H vs ds):∀ k:Nat,RDs K m H (RO k vs).flatten (RO k ds).flatten
 | 0=>.nil
 | k+1=>by rw[SH,SH,TM,TM];exact RDs.append r (RDs.rep r k)
theorem oW {N:List Z0} (hN:N.Nodup) {i j:Nat}{x:Z0} (a:N[i]?=XX x) (b:N[j]?=XX x):i=j:=by
 have hi:i < N.length:=by
  rcases RP i N.length with z|z
  exact z;rw[Rz z] at a;cases a
 have hj:j < N.length:=by
  rcases RP j N.length with z|z
  exact z;rw[Rz z] at b;cases b
 rw[Ru hi] at a;rw[Ru hj] at b;exact (List.getElem_inj hN).mp ((Ry a).trans (Ry b).symm)
inductive RR (K:Rm) (m:List Z0) (H:Hp):V->BT.D->Prop where
 | d {v:V}{d:BT.D} (r:RD K m H v d):RR K m H v d
 | l {a:Z0}{vs:List V}{ds:List BT.D} (h:H a=XX (.lst vs)) (r:RDs K m H vs ds):RR K m H (.ref a) (.lst ds)
theorem aL (RHh:RH K m H h) (r:RW P w K m H v x) (e:BT.rd x h=XX d):RR K m H v d:=by
 cases r with
 | p r=>cases e;exact .d r
 | @r a n q =>
  simp only[BT.rd] at e;cases g:BT.lat h n with
  | none=>rw[g] at e;cases e
  | some xs =>
   rw[g] at e;cases e;obtain ⟨vs,h1,h2⟩:=RHh.cell n a xs q g;exact .l h1 h2
 | _=>cases e
inductive RLs (K:Rm) (m:List Z0) (H:Hp) (v:V) (ds:List BT.D):Prop where
 | mk (a:Z0) (vs:List V) (e:v=.ref a) (l:LL K H a vs) (r:RDs K m H vs ds):RLs K m H v ds
inductive RTs (K:Rm) (m:List Z0) (H:Hp) (v:V) (ds:List BT.D):Prop where
 | mk (a:Z0) (vs:List V) (e:v=.ref a) (l:SqT K H a vs) (r:RDs K m H vs ds):RTs K m H v ds
theorem RR.lst {v:V}{ds:List BT.D} (r:RR K m H v (.lst ds)):RLs K m H v ds:=by
 cases r with
 | d r=>cases r with|lst h r=>exact ⟨_,_,rfl,h.elim (λq=>.inl q.1) .inr,r⟩
 | l h r=>exact ⟨_,_,rfl,.inl (.inl h),r⟩
theorem RR.tup {v:V}{ds:List BT.D} (r:RR K m H v (.tup ds)):RTs K m H v ds:=by
 cases r with
 | d r=>cases r with|tup h r=>exact ⟨_,_,rfl,h.elim (λq=>.inl q.1) (λ⟨o,its,n,q,_⟩=>.inr ⟨o,its,n,q⟩),r⟩
theorem RR.int {v:V}{i:Int} (r:RR K m H v (.int i)):v=.int i:=by cases r with|d r=>cases r;rfl
theorem RR.str {v:V}{x:ZZ} (r:RR K m H v (.str x)):v=.str x/\PyData.strOk x=XZ:=by cases r with|d r=>cases r with|str _ h=>exact ⟨rfl,h⟩
theorem RR.bl {v:V}{b:Bool} (r:RR K m H v (.bl b)):v=.bl b:=by cases r with|d r=>cases r;rfl
theorem RR.non (r:RR K m H v .non):v=.non:=by cases r with|d r=>cases r;rfl
theorem TB.new (hp:H p=XY) (h:TB K H):TB K (upd H p o) :=
 h.mono (λP ps e=>by rw[au (aE e hp)];exact e) λa o _ _ e=>by rw[au (aE e hp)];exact e
theorem fQ (hp:H p=XY):Ext m H m (upd H p o) :=
 ⟨⟨[],by simp,by simp⟩,λa q h _ _=>by rw[au (aE h hp)];exact h,λa h=>by
  by_cases e:a=p
  rw[e];exact hp
  ·rw[au e] at h;exact h⟩
theorem RH.d8 (R:RH K m H h) (hp:H p=XY):p∉m:=by
 intro q;obtain ⟨i,hi⟩:=SN q;have hl:i < h.length:=by
  rw[← R.len];rcases RP i m.length with z|z
  exact z;rw[Rz z] at hi;cases hi
 obtain ⟨o,e⟩:=(R.cl i p h[i] hi (Ru hl)).some;rw[e] at hp;cases hp
def Le (H H':Hp):Prop:=∀ a u,H a=XX u->H' a=XX u
theorem Le.tb (q:Le H H') (t:TB K H):TB K H':=t.mono (λ_ _ e=>q _ _ e) λ_ _ _ _ e=>q _ _ e
theorem z4 (hp:H p=XY):Le H (upd H p o):=λa u e=>by rw[au (aE e hp)];exact e
theorem RH.ext (R:RH K m H h) (x:Ext m H m H') (k:Le H H'):RH K m H' h :=
 ⟨R.nd,R.len,λi a c e1 e2=>by obtain ⟨o,e⟩:=(R.cl i a c e1 e2).some;exact (R.cl i a c e1 e2).ext x (by rw[e];exact k _ _ e),k.tb R.tb⟩
noncomputable def HZ:HO->Bool
 | .lst _=>XZ| .ins _ _ _=>XZ| .dK _=>XZ| _=>X0
theorem RH.mu (R:RH K m H h) (ha:a∈m):∃ o,H a=XX o/\HZ o=XZ:=by
 obtain ⟨i,hi⟩:=SN ha;have hl:i < h.length:=by
  rw[← R.len];rcases RP i m.length with z|z
  exact z;rw[Rz z] at hi;cases hi
 have z:=R.cl i a h[i] hi (Ru hl);cases g:h[i] with
 | o c fs=>rw[g] at z;obtain ⟨C,dx,vs,h1,h2,h3⟩:=z;exact ⟨_,h1,rfl⟩| _=>rw[g] at z;obtain ⟨vs,h1,h2⟩:=z;exact ⟨_,h1,rfl⟩
theorem RH.nin (R:RH K m H h) (e:H a=XX o) (n:HZ o=X0):a∉m:=λz=>by obtain ⟨u,h1,h2⟩:=R.mu z;rw[e] at h1;cases h1;rw[n] at h2;cases h2
theorem RH.new (R:RH K m H h) (hp:H p=XY):RH K m (upd H p o) h :=
 R.ext (fQ hp) (z4 hp)
theorem iN (hp:H p=XY):Ext m H (m++[p]) (upd H p o) :=
 ⟨⟨[p],rfl,by simpa using hp⟩,λa q h _ _=>by rw[au (aE h hp)];exact h,λa h=>by
  by_cases e:a=p
  rw[e];exact hp
  ·rw[au e] at h;exact h⟩
theorem RH.Ia (R:RH K m H h) (hp:H p=XY) (r:iM K (m++[p]) (upd H p o) p c):RH K (m++[p]) (upd H p o) (h++[c]):=by
 have np:=R.d8 hp;have x:Ext m H (m++[p]) (upd H p o):=iN hp;refine ⟨List.nodup_append.mpr ⟨R.nd,by simp,λa ha b hb=>by simp at hb;subst hb;exact λe=>np (e ▸ ha)⟩,by simp[R.len],λi a ys e1 e2=>?_,R.tb.new hp⟩
 by_cases c:i < m.length
 ·rw[Rp c] at e1;rw[Rp (by rw[← R.len];exact c)] at e2;have ne:a≠p:=by intro e;subst e;exact np (RC e1)
  exact (R.cl i a ys e1 e2).ext x (au ne)
 ·have e:i=m.length:=by
   rcases RP i (m++[p]).length with z|z
   simp at z;lia;rw[Rz z] at e1;cases e1
  subst e;simp at e1;rw[R.len] at e2;simp at e2;subst e1 e2;exact r
theorem RH.Py (R:RH K m H h) (hp:H p=XY) (r:RDs K m H vs xs):RH K (m++[p]) (upd H p (.lst vs)) (h++[.l xs]) :=
 R.Ia hp ⟨vs,aG,r.ext (iN hp)⟩
theorem TB.set (hm:∃ u,H a=XX u/\HZ u=XZ) (h:TB K H):TB K (upd H a o):=by obtain ⟨w,hw,hu⟩:=hm;refine h.mono (λP ps e=>?_) λb ob _ _ e=>?_;rw[au (λz=>by subst z;rw[hw] at e;cases e;cases hu)];exact e;rw[au (λz=>by subst z;rw[hw] at e;cases e;cases hu)];exact e
theorem jY (ha:a∈m):Ext m H m (upd H a o) :=
 ⟨⟨[],by simp,by simp⟩,λb u q n _=>by
  have ne:b≠a:=by intro e;subst e;exact n ha
  rw[au ne];exact q,λb q=>by
  by_cases e:b=a
  subst e;rw[aG] at q;cases q
  ·rw[au e] at q;exact q⟩
theorem gA (ha:a∈m) (h:H a=XX (.lst us)):Ext m H m (upd H a (.lst vs)):=jY ha
theorem RH.setC {h:BT.HH} (R:RH K m H h) {n:Nat}{a:Z0}{o:HO}{c:BT.Cl} (hn:m[n]?=XX a) (r:iM K m (upd H a o) a c):RH K m (upd H a o) (h.set n c):=by
 have x:Ext m H m (upd H a o):=jY (RC hn);refine ⟨R.nd,by simp[R.len],λi b ys e1 e2=>?_,R.tb.set (R.mu (RC hn))⟩
 by_cases c:i=n
 ·subst c;rw[hn] at e1;cases e1;have hl:i < h.length:=by
   rw[← R.len];rcases RP i m.length with z|z
   exact z;rw[Rz z] at hn;cases hn
  rw[SG hl] at e2;cases e2;exact r
 ·rw[So (Ti c)] at e2;have ne:b≠a:=by intro e;subst e;exact c (oW R.nd e1 hn)
  exact (R.cl i b ys e1 e2).ext x (au ne)
theorem RH.set (R:RH K m H h) (hn:m[n]?=XX a) (hH:H a=XX (.lst us)) (r:RDs K m H vs xs):RH K m (upd H a (.lst vs)) (h.set n (.l xs)) :=
 R.setC hn ⟨vs,aG,r.ext (gA (RC hn) hH)⟩
end
end BS
end
section
namespace BS
open PySem PySem.Spec PyProof.Rows L2 PySem.SeqAt
theorem lK {E:Z1->Rv->Prop} (f:Nat->β->Sem (ForInStep β)) (n:Nat) (I:Nat->β->Rv->Prop) (Q:β->Rv->Prop)
 (turn:∀ i b s,i < n->I i b s->ZY M A (f i b) (λr s'=>match r with | .yield b'=>I (i+1) b' s' | .done b'=>Q b' s') E s)
 (fin:∀ b s,I n b s->Q b s) (b:β) (h:I 0 b s):ZY M A (forIn [:n] b f) Q E s:=by
 rw[Std.Legacy.Range.forIn_eq_forIn_range'];have e:Sy [:n].start [:n].size [:n].step=Sy 0 (n - 0):=by simp[Std.Legacy.Range.size]
 rw[e];refine wpAny_forIn_list f (λrest b s=>∃ i,i<=n/\rest=Sy i (n - i)/\I i b s) Q (λx rest b s ⟨i,hi,hr,q⟩=>?_) (λb s ⟨i,hi,hr,q⟩=>?_) _ b ⟨0,SC _,rfl,h⟩
 ·have hlt:i < n:=by
   rcases RP i n with z|z
   exact z;rw[show n - i=0 by lia] at hr;simp at hr
  rw[show n - i=(n - (i+1))+1 by lia,Wf] at hr
  injection hr with e1 e2
  subst e1;refine wpAny_mono (turn x b s hlt q) (λr s' z=>?_) λ_ _ z=>z;cases r with
  | yield b'=>exact ⟨x+1,hlt,e2,z⟩| done b'=>exact z
 ·have:i=n:=by
   rcases RP i n with z|z
   rw[show n - i=(n - (i+1))+1 by lia,Wf] at hr;simp at hr;lia
  subst this;exact fin b s q
theorem oh (l:Z0) (items:Array Z1) (n:Nat) (dd:Option Z0) (sl:Array (Option Z1)) (x:Z1) (e:Z1->Bool) (j:Nat) (hj:j < items.size)
 (hit:e items[j]=XZ) (hno:∀ m (hm:m < items.size),m < j->e items[m]=X0) :
 Meets (Builtin.«tuple.index» ⟨[.ref l,x],[]⟩)
  (λA R s=>s.heap.get? l=XX { cls:=.type "tuple",dict:=dd,data:=.seq items n,slots:=sl }/\(∀ y,y∈items->EqAt A.in1 s y x (e y))/\R (.ok (.ret (.int j s.toks))) { s with toks:=s.toks+1 }) :=
 .of_wp λprog w A R s h=>by
 obtain ⟨hp,g,d,tk,os⟩:=s;obtain ⟨hl,he,h⟩:=h
 wp_walk using UA hl,lK _ _ (λi b s'=>i<=j/\b.1=XY/\s'=⟨hp,g,d,tk,os⟩) _
 case turn =>
  rintro i b s' hi ⟨hij,hb,rfl⟩
  have hi':i < items.size:=by lia
  rw[Array.getElem?_eq_getElem hi'];refine Rx (he _ (Array.getElem_mem hi') prog w _ _ ?_)
  by_cases c:i=j
  ·subst c;rw[hit]
   wp_walk
   exact ⟨_,rfl,h⟩
  ·rw[hno i hi' (by lia)]
   wp_walk
   exact ⟨by lia,rfl,rfl⟩
 case fin =>
  rintro b s' ⟨hij,_,_⟩
  lia
 case h=>exact ⟨SC _,rfl,rfl⟩
theorem uC (l:Z0) (items:Array Z1) (n:Nat) (dd:Option Z0) (sl:Array (Option Z1)) (k:Int) (t:Tok) (h1:-1000<=k) (h2:k<=1000) (c1:¬ items.isEmpty=XZ) (c2:k≠1) (c3:0 < k) (hz:items.size*k.toNat<=ZX) :
 Meets (Builtin.«tuple.__mul__» ⟨[.ref l,.int k t],[]⟩)
  (λA R s=>s.heap.get? l=XX { cls:=.type "tuple",dict:=dd,data:=.seq items n,slots:=sl }/\R (.ok (.ret (.ref s.heap.objs.size))) { s with heap:=s.heap.push { cls:=.type "tuple",data:=.seq ((RO k.toNat items).foldl (λx1 x2=>x1++x2) #[]) } }) :=
 .of_wp λprog w A R s h=>by
 obtain ⟨hp,g,d,tk,os⟩:=s;obtain ⟨hl,h⟩:=h;have f1:=Xk;have a1:¬ (decide (k < -2 ^ 63)||decide (k ≥ 2 ^ 63))=XZ:=by simp;lia
 have a2:¬ (items.isEmpty||k==1)=XZ:=by simp at c1 ⊢;exact ⟨c1,c2⟩
 have a3:¬ (decide (k<=0)||items.isEmpty)=XZ:=by simp at c1 ⊢;exact ⟨by lia,c1⟩
 have kk:(k.toNat:Int)=k:=by lia
 have a4:¬ ((items.size:Int)*k > (2 ^ 63 - 1) / 8):=by
  have z:((items.size*k.toNat:Nat):Int)<=(ZX:Nat):=Int.ofNat_le.mpr hz;rw[Int.natCast_mul,kk] at z;have z2:((ZX:Nat):Int)<=(2 ^ 63 - 1) / 8:=by decide
  lia
 have a5:¬ VD ((items.size:Int)*k)=XZ:=by have z:((items.size*k.toNat:Nat):Int)<=(ZX:Nat):=Int.ofNat_le.mpr hz;rw[Int.natCast_mul,kk] at z;simp only[VD,decide_eq_true_eq];lia
 have hsz:sizeOk (.seq ((RO k.toNat items).foldl (λx1 x2=>x1++x2) #[])):=by show ((RO k.toNat items).foldl (λx1 x2=>x1++x2) #[]).size<=ZX;rw[AutoListH.size_joined,Array.size_empty,Ur];lia
 wp_walk using UA hl
 rw[if_neg a1]
 wp_walk using UA hl
 refine wpAny_ite_split (λc=>absurd c ?_) (λ_=>?_);intro c;have a6:=a4;simp at a6 c;lia
 wp_walk using UA hl
 refine wpAny_ite_false (decide_eq_false (Nat.not_lt.mpr hsz)) ?_
 wp_walk
 exact ⟨_,rfl,h⟩
theorem kQ:fillsNumberSlot (.type "tuple") "mul"=pure X0 :=
 PySem.fillsNumberSlot_seq (id:="tuple.__mul__") (r:=XX (.builtin "tuple.__rmul__")) F.slot_tuple_mul.lookup (by decide +kernel) F.slot_tuple_rmul.lookup (by decide +kernel)
theorem qa:seqRepeat? (.type "tuple")=pure (XX (.builtin "tuple.__mul__")):=by unfold seqRepeat?;rw[PySem.seqSlot_of (T:="tuple") (name:="__mul__") (id:="tuple.__mul__") F.slot_tuple_mul.lookup (by decide +kernel),PySem.seqSlot_of (T:="tuple") (name:="__rmul__") (id:="tuple.__rmul__") F.slot_tuple_rmul.lookup (by decide +kernel)];rfl
theorem mV (a:Int) (t:Tok) (l:Z0) (items:Array Z1) (n:Nat) (dd:Option Z0) (sl:Array (Option Z1)) :
 Meets (Builtin.«int.__rmul__» ⟨[.int a t,.ref l],[]⟩) (λ_ R s=>s.heap.get? l=XX { cls:=.type "tuple",dict:=dd,data:=.seq items n,slots:=sl }/\R (.ok (.ret Value.notImplemented)) s) :=
 .of_wp λprog w A R s h=>by obtain ⟨hp,g,d,tk,os⟩:=s;obtain ⟨hl,h⟩:=h;wp_walk;exact ⟨_,rfl,h⟩
theorem lM (l:Z0) (items:Array Z1) (n:Nat) (b:Z0) (items2:Array Z1) (n2:Nat) (dd:Option Z0) (sl:Array (Option Z1)) (hs0:¬(!items.isEmpty&&SS (items.size+items2.size))=XZ) (hs1:items.size<=ZX) (hs2:items.size+items2.size<=ZX+1) :
 Meets (Builtin.«list.extend» ⟨[.ref l,.ref b],[]⟩) (λ_ R s=>s.heap.get? l=XX { cls:=.type "list",dict:=XY,data:=.seq items n,slots:=#[] }/\s.heap.get? b=XX { cls:=.type "tuple",dict:=dd,data:=.seq items2 n2,slots:=sl }/\R (.ok (.ret VV)) { s with heap:=s.heap.update l (Uq λx=>x++items2),toks:=s.toks }) :=
 .of_wp λprog w A R s h=>by
  obtain ⟨hp,g,d,tk,os⟩:=s;obtain ⟨hl,hb,h⟩:=h;have f1:=Xk;have f2:=AutoSeq1.sub_tuple_tuple;have f3:=AutoSeq1.sub_list_list;have f4:=AutoSeq1.sub_tuple_list;have f5:=AutoSeq1.sub_list_tuple;have hz':(items++items2).size<=ZX+1:=by rw[Array.size_append];exact hs2
  wp_walk using (wpAny_updateSeq hl rfl (hz:=hs1) (_hz':=hz')),UA hl,UA hb;exact ⟨_,rfl,h⟩
end BS
end
section
namespace BS
open PySem PySem.Spec PyProof.Rows L2
variable {K:Rm}
inductive Bnd {α β:Type} (x:Option (α×BT.HH)) (k:α->BT.HH->Option β) (r:β):Prop where
 | mk (a:α) (g:BT.HH) (h1:x=XX (a,g)) (h2:k a g=XX r):Bnd x k r
inductive L1 {α β:Type} (x:Option α) (f:α->β) (r:β):Prop where
 | mk (a:α) (h1:x=XX a) (h2:f a=r):L1 x f r
inductive Bind (o:BT.Bin) (x y:BT.W) (h:BT.HH) (z:BT.W) (h':BT.HH):Prop where
 | mk (d d' q:BT.D) (h1:BT.rd x h=XX d) (h2:BT.rd y h=XX d') (h3:BT.gJ o d d'=XX q) (h4:z=.p q) (h5:h'=h):Bind o x y h z h'
theorem ak {α β:Type}{x:Option (α×BT.HH)}{k:α->BT.HH->Option β}{r:β} (h:BT.bnd x k=XX r):Bnd x k r:=by
 cases x with
 | none=>cases h| some q=>exact ⟨q.1,q.2,rfl,h⟩
theorem aF {α β:Type}{x:Option α}{f:α->β}{r:β} (h:x.map f=XX r):L1 x f r:=by
 cases x with
 | none=>cases h| some a=>exact ⟨a,rfl,Ry h⟩
def Post (P:Se) (w:SB) (K:Rm) (m:List Z0) (H:Hp) (z:BT.W) (h':BT.HH) (Q:VK):Prop :=
 ∀ v H' m',Ext m H m' H'->RH K m' H' h'->RW P w K m' H' v z->Q v H'
inductive rOp (P:Se) (w:SB) (K:Rm) (f:BT.W->BT.W->BT.HH->Option (BT.W×BT.HH)) (v u:V) (H:Hp) (Q:VK):Prop where
 | mk (m:List Z0) (h:BT.HH) (x y z:BT.W) (h':BT.HH) (R:RH K m H h) (rx:RW P w K m H v x) (ry:RW P w K m H u y) (e:f x y h=XX (z,h')) (p:Post P w K m H z h' Q):rOp P w K f v u H Q
theorem jb {o:BT.Bin}{x y:BT.W}{h:BT.HH}{z:BT.W}{h':BT.HH} (e:BT.nZ o x y h=XX (z,h')):Bind o x y h z h':=by
 unfold BT.nZ at e;cases e1:BT.rd x h with
 | none=>rw[e1] at e;cases e
 | some d =>
  cases e2:BT.rd y h with
  | none=>rw[e1,e2] at e;cases e
  | some d' =>
   rw[e1,e2] at e;obtain ⟨q,eq,er⟩:=aF e;cases er;exact ⟨d,d',q,e1,e2,eq,rfl,rfl⟩
section
variable {X:Cx}
theorem cO:BT.lim<=ZX:=by decide
inductive L3 (s:Rv) (a:Z0) (xs:List V):Prop where
 | mk (z:xs.length<=ZX) (its:List Z1) (n:Nat) (r:av xs its) (l:xs.length=its.length) (e:s.heap.get? a=XX { cls:=.type "list",data:=.seq its.toArray n }):L3 s a xs
theorem rdL (I:Inv X zt σ H s) (r:LL X.K H a xs):L3 s a xs:=by
 rcases r with r|⟨its,n,h1,h2,h3⟩
 ·obtain ⟨z,its,n,r,e⟩:=r.ok I.hok;exact ⟨z,its,n,r,r.length,e⟩
 exact ⟨by rw[h3.length];exact h2,its,n,h3,h3.length,I.kIn a _ h1⟩
theorem rW (I:Inv X zt σ H s) (ha:LL X.K H a xs) (hb:LL X.K H b ys) (hz:xs.length+ys.length<=ZX)
 (q:∀ p,H p=XY->Q (.ref p) (upd H p (.lst (xs++ys)))):ZY (RV X.prog X.w) X.A (Tc .Add (.ref a) (.ref b)) (EP X zt σ Q) X.xe s:=by
 obtain ⟨z,its,n,r,hl,e⟩:=rdL I ha;obtain ⟨z2,its2,n2,r2,hl2,e2⟩:=rdL I hb;refine PySem.P.add_list e e2 ?_ (by rw[Rr,Rr];lia);have ea:its.toArray++its2.toArray=(its++its2).toArray:=by simp
 rw[ea];exact ⟨.ref _,_,I.K8 (t':=s.toks) (r.append r2) (by rw[RI];lia),rfl,q _ I.fresh⟩
theorem xV (I:Inv X zt σ H s) (ha:SqT X.K H a xs) (hb:SqT X.K H b ys) (hz:xs.length+ys.length<=ZX)
 (q0:xs=[]->Q (.ref b) H) (q1:ys=[]->Q (.ref a) H) (q:∀ p,H p=XY->Q (.ref p) (upd H p (.tup (xs++ys)))):ZY (RV X.prog X.w) X.A (Tc .Add (.ref a) (.ref b)) (EP X zt σ Q) X.xe s:=by
 by_cases c:xs=[]
 ·obtain ⟨its,r1,p1,_⟩:=I.tuple ha;obtain ⟨its2,r2,p2,_⟩:=I.tuple hb;obtain ⟨⟨cls,dd,data,sl⟩,ho,hc,n,hd⟩:=id p1;obtain ⟨⟨cls2,dd2,data2,sl2⟩,ho2,hc2,n2,hd2⟩:=id p2;simp only at hc hd hc2 hd2;subst hc hd hc2 hd2;have z:its=[]:=r1.jP.mpr c;exact concat_meets ⟨_,ho,rfl⟩ ⟨_,ho2,rfl⟩ WE Xz Va U6 (UX _ _)
   (tuple_addW0 a b its.toArray its2.toArray n n2 dd dd2 sl sl2 (by simp[z])) ⟨ho,ho2,⟨.ref b,H,I,rfl,q0 c⟩⟩
 exact Dq zt s σ H (.ref a) (.ref b) _ _ Q I rfl rfl ⟨a,b,xs,ys,rfl,rfl,ha,hb,c,hz,q1,λ_=>q⟩
theorem jZ (R:RH X.K m H h) (hp:H p=XY) (r:RDs X.K m H vs ds) (zr:Post X.prog X.w X.K m H (.p (.tup ds)) h Q):Q (.ref p) (upd H p (.tup vs)) :=
 zr _ _ m (fQ hp) (R.new hp) (.p (.tup (.inl ⟨.inl aG,R.d8 hp⟩) (r.ext (fQ hp))))
theorem j6 (R:RH X.K m H h) (hp:H p=XY) (r:RDs X.K m H vs ds) (zr:Post X.prog X.w X.K m H (.p (.lst ds)) h Q):Q (.ref p) (upd H p (.lst vs)) :=
 zr _ _ m (fQ hp) (R.new hp) (.p (.lst (.inl ⟨.inl aG,R.d8 hp⟩) (r.ext (fQ hp))))
theorem vE (R:RH X.K m H h) (hp:H p=XY) (r:RDs X.K m H vs ds) (zr:Post X.prog X.w X.K m H (.r h.length) (h++[.l ds]) Q):Q (.ref p) (upd H p (.lst vs)) :=
 zr _ _ (m++[p]) (iN hp) (R.Py hp r) (.r (by rw[← R.len];simp))
theorem gO (R:RH X.K m H h) (hp:H p=XY) (r:RDs X.K m H vs ds) (zr:Post X.prog X.w X.K m H (BT.new mu ds h).1 (BT.new mu ds h).2 Q):Q (.ref p) (upd H p (.lst vs)):=by
 cases mu with
 | false=>exact j6 R hp r zr| true=>exact vE R hp r zr
theorem Post.here (R:RH X.K m H h) (zr:Post X.prog X.w X.K m H (.p d) h Q) (r:RD X.K m H v d):Q v H:=zr v H m (.refl _ _) R (.p r)
theorem qb (hx:PyData.strOk x=XZ) (hy:PyData.strOk y=XZ):PyData.strOk (x++y)=XZ:=by show (x.cps++y.cps).all _=XZ;rw[Array.all_append];simp only[PyData.strOk] at hx hy;rw[hx,hy];rfl
theorem Ib:OpR X (Tc .Add) (rOp X.prog X.w X.K BT.xT):=by
 intro zt s σ H v u v' u' Q I rv ru h;obtain ⟨m,h,x,y,z,h',R,rx,ry,e,zr⟩:=h;unfold BT.xT at e;cases e1:BT.rd x h with
 | none=>rw[e1] at e;cases e
 | some d =>
  cases e2:BT.rd y h with
  | none=>rw[e1,e2] at e;cases d<;>cases e
  | some d' =>
   rw[e1,e2] at e;have r1:=aL R rx e1;have r2:=aL R ry e2;cases d<;>cases d'<;>first|(cases e;done)|skip
   simp only at e;split at e
   ·rename_i c;obtain ⟨a,vs,rfl,ha,ra⟩:=r1.lst;obtain ⟨b,us,rfl,hb,rb⟩:=r2.lst;cases rv;cases ru;have l1:=ra.length;have l2:=rb.length;have:=cO;have ez:=Ry e;exact rW I ha hb (by lia) λp hp=>gO (mu:=XZ) R hp (ra.append rb) (by rw[ez];exact zr)
   cases e
theorem Ic:OpR X (Tc .Add) (rOp X.prog X.w X.K (BT.nZ .add)):=by
 intro zt s σ H v u v' u' Q I rv ru h;obtain ⟨m,h,x,y,z,h',R,rx,ry,e,zr⟩:=h;obtain ⟨d,d',q,e1,e2,e3,rfl,rfl⟩:=jb e;have r1:=aL R rx e1;have r2:=aL R ry e2;cases d<;>cases d'<;>first|(cases e3;done)|simp only[BT.gq,BT.dJ,BT.cM,BT.aV,BT.gr,BT.gu,BT.dM,BT.dN,BT.gw,BT.eZ,BT.gx] at e3
 ·cases e3;cases r1.int;cases r2.int;exact G9 zt s σ H _ _ _ _ Q I rv ru ⟨_,_,rfl,rfl,zr.here R (.int _)⟩
 ·split at e3
  ·rename_i c;cases e3;obtain ⟨ev,ov⟩:=r1.str;obtain ⟨eu,ou⟩:=r2.str;subst ev;subst eu;have:=cO;exact tX zt s σ H _ _ _ _ Q I rv ru ⟨_,_,rfl,rfl,by lia,zr.here R (.str _ (qb ov ou))⟩
  cases e3
 ·split at e3
  ·rename_i c;cases e3;obtain ⟨a,vs,rfl,ha,ra⟩:=r1.tup;obtain ⟨b,us,rfl,hb,rb⟩:=r2.tup;cases rv;cases ru;have l1:=ra.length;have l2:=rb.length;have:=cO;refine xV I ha hb (by lia) (λz=>?_) (λz=>?_) λp hp=>jZ R hp (ra.append rb) zr
   ·subst z;cases ra;cases r2 with|d r=>exact zr.here R r
   ·subst z;cases rb;rw[R8] at zr;cases r1 with|d r=>exact zr.here R r
  cases e3
 ·split at e3
  ·rename_i c;cases e3;obtain ⟨a,vs,rfl,ha,ra⟩:=r1.lst;obtain ⟨b,us,rfl,hb,rb⟩:=r2.lst;cases rv;cases ru;have l1:=ra.length;have l2:=rb.length;have:=cO;exact rW I ha hb (by lia) λp hp=>j6 R hp (ra.append rb) zr
  cases e3
theorem Ie:OpR X (Tc .Sub) (rOp X.prog X.w X.K (BT.nZ .sub)):=by
 intro zt s σ H v u v' u' Q I rv ru h;obtain ⟨m,h,x,y,z,h',R,rx,ry,e,zr⟩:=h;obtain ⟨d,d',q,e1,e2,e3,rfl,rfl⟩:=jb e;have r1:=aL R rx e1;have r2:=aL R ry e2;cases d<;>cases d'<;>first|(cases e3;done)|simp only[BT.gq,BT.dJ,BT.cM,BT.aV,BT.gr,BT.gu,BT.dM,BT.dN,BT.gw,BT.eZ,BT.gx] at e3
 cases e3;cases r1.int;cases r2.int;exact Hf zt s σ H _ _ _ _ Q I rv ru ⟨_,_,rfl,rfl,zr.here R (.int _)⟩
theorem Ig:OpR X (Tc .Mod) (rOp X.prog X.w X.K (BT.nZ .mod)):=by
 intro zt s σ H v u v' u' Q I rv ru h;obtain ⟨m,h,x,y,z,h',R,rx,ry,e,zr⟩:=h;obtain ⟨d,d',q,e1,e2,e3,rfl,rfl⟩:=jb e;have r1:=aL R rx e1;have r2:=aL R ry e2;cases d<;>cases d'<;>first|(cases e3;done)|simp only[BT.gq,BT.dJ,BT.cM,BT.aV,BT.gr,BT.gu,BT.dM,BT.dN,BT.gw,BT.eZ,BT.gx] at e3
 split at e3
 ·rename_i c;cases e3;cases r1.int;cases r2.int;exact Hh zt s σ H _ _ _ _ Q I rv ru ⟨_,_,rfl,rfl,c,zr.here R (.int _)⟩
 cases e3
theorem DO:OpR X (Tc .FloorDiv) (rOp X.prog X.w X.K (BT.nZ .fdiv)):=by
 intro zt s σ H v u v' u' Q I rv ru h;obtain ⟨m,h,x,y,z,h',R,rx,ry,e,zr⟩:=h;obtain ⟨d,d',q,e1,e2,e3,rfl,rfl⟩:=jb e;have r1:=aL R rx e1;have r2:=aL R ry e2;cases d<;>cases d'<;>first|(cases e3;done)|simp only[BT.gq,BT.dJ,BT.cM,BT.aV,BT.gr,BT.gu,BT.dM,BT.dN,BT.gw,BT.eZ,BT.gx] at e3
 split at e3
 ·rename_i c;simp only[Rn,decide_eq_true_eq] at c;cases e3;cases r1.int;cases r2.int;exact De zt s σ H _ _ _ _ Q I rv ru ⟨_,_,rfl,rfl,⟨c.1,c.2⟩,zr.here R (.int _)⟩
 cases e3
theorem qc (h:BT.big i=XZ):-(2 ^ 64) < i/\i < 2 ^ 64:=by unfold BT.big at h;have:=of_decide_eq_true h;lia
theorem Ih:OpR X (Tc .Pow) (rOp X.prog X.w X.K (BT.nZ .pow)):=by
 intro zt s σ H v u v' u' Q I rv ru h;obtain ⟨m,h,x,y,z,h',R,rx,ry,e,zr⟩:=h;obtain ⟨d,d',q,e1,e2,e3,rfl,rfl⟩:=jb e;have r1:=aL R rx e1;have r2:=aL R ry e2;cases d<;>cases d'<;>first|(cases e3;done)|simp only[BT.gq,BT.dJ,BT.cM,BT.aV,BT.gr,BT.gu,BT.dM,BT.dN,BT.gw,BT.eZ,BT.gx] at e3
 split at e3
 ·rename_i c;simp only[Rn,decide_eq_true_eq] at c;cases e3;cases r1.int;cases r2.int;refine Hi zt s σ H _ _ _ _ Q I rv ru ⟨_,_,rfl,rfl,⟨c.1.1,by lia,?_⟩,zr.here R (.int _)⟩;exact of_decide_eq_true c.2
 cases e3
theorem xW (I:Inv X zt σ H s) (ha:SqT X.K H a xs) (h1:2<=k) (h2:k<=1000) (hne:xs≠[]) (hz:xs.length*k.toNat<=ZX)
 (q:∀ p,H p=XY->Q (.ref p) (upd H p (.tup (RO k.toNat xs).flatten))):ZY (RV X.prog X.w) X.A (Tc .Mult (.ref a) (.int k t)) (EP X zt σ Q) X.xe s:=by
 obtain ⟨its,r,p,_⟩:=I.tuple ha;obtain ⟨⟨cls,dd,data,sl⟩,e,hc,n,hd⟩:=id p;simp only at hc hd;subst hc hd;have hl:=r.length;have hlen:its.toArray.size*k.toNat<=ZX:=by rw[Rr,← hl];exact hz
 have f0:WH (λx1 x2=>x1++x2) #[] (RO k.toNat its.toArray)=(RO k.toNat its).flatten.toArray:=by have:=foldl_rep its k.toNat [];rw[TL] at this;exact this
 have hi:¬ its.toArray.isEmpty=XZ:=by
  intro z;have z2:its=[]:=by simpa using z
  exact hne (r.jP.mp z2)
 refine Xe (T:="tuple") (U:="int") (by decide) ⟨_,e,rfl⟩ (λs'=>typeIs_int s' k t) kQ F.fills_int_mul F.slot_int_rmul qa F.slot_int_index.lookup
  (Uh F.slot_int_rmul (typeIs_int s k t) F.entry_int_rmul (F.args_int_rmul_2 _ _) (mV k t a its.toArray n dd sl)
   ⟨e,rfl,⟨_,e,rfl⟩,Uh F.slot_tuple_mul ⟨_,e,rfl⟩ F.entry_tuple_mul (F.args_tuple_mul_2 _ _) (uC a its.toArray n dd sl k t (by lia) h2 hi (by lia) (by lia) hlen) ⟨e,?_⟩⟩)
 rw[f0];have hf:H s.heap.objs.size=XY:=I.hok.fresh (Rq _);refine ⟨.ref s.heap.objs.size,_,I.laid (t':=s.toks) (o:=.tup (RO k.toNat xs).flatten) (λb ob q=>Ro _ q) (Rq _) ?_,rfl,q _ hf⟩;exact ⟨by rw[len_rep,Ur];exact hz,_,r.rep k.toNat,IsTup.new _ _⟩
theorem z5 (I:Inv X zt σ H s) (hH:LL X.K H l xs) (h1:-(2 ^ 63)<=k) (h2:k<=1000) (hz:xs.length*k.toNat<=ZX)
 (q:∀ p,H p=XY->Q (.ref p) (upd H p (.lst (RO k.toNat xs).flatten))):ZY (RV X.prog X.w) X.A (Tc .Mult (.ref l) (.int k t)) (EP X zt σ Q) X.xe s:=by
 have h2':k < 2 ^ 63:=by lia
 obtain ⟨z,its,n,r,hl,e⟩:=rdL I hH;have hlen:its.toArray.size*k.toNat<=ZX:=by rw[Rr,← hl];exact hz
 have hcap:¬ its.toArray.size*k.toNat > (2 ^ 63 - 1) / 8:=by
  have:(ZX:Nat)<=(2 ^ 63 - 1) / 8:=by decide
  lia
 have hfit:¬ (!Builtin.List.listFitsIndex k)=XZ:=by rw[fitsIndex_both h1 h2'];exact SZ
 have hlong:¬ SS (its.toArray.size*k.toNat)=XZ:=by rw[mJ hlen];exact SZ
 have hnew:WH (λx1 x2=>x1++x2) #[] (RO (if its.toArray.isEmpty=XZ then 0 else k.toNat) its.toArray)=(RO k.toNat its).flatten.toArray:=by
  have f0:∀ m:Nat,WH (λx1 x2=>x1++x2) #[] (RO m its.toArray)=(RO m its).flatten.toArray:=λm=>by have:=foldl_rep its m [];rw[TL] at this;exact this
  rw[f0];cases its with
  | nil=>simp| cons a r'=>rw[if_neg (by simp)]
 refine Xe (T:="list") (U:="int") (by decide) ⟨_,e,rfl⟩ (λs'=>typeIs_int s' k t) noFill_list_mul F.fills_int_mul F.slot_int_rmul repeat_list F.slot_int_index.lookup
  (Uh F.slot_int_rmul (typeIs_int s k t) F.entry_int_rmul (F.args_int_rmul_2 _ _) (int___rmul___int_list k t l its.toArray n)
   ⟨e,rfl,⟨_,e,rfl⟩,Uh F.slot_list_mul ⟨_,e,rfl⟩ F.entry_list_mul (F.args_list_mul_2 _ _) (AutoListH.list___mul___list_int_3 l its.toArray n k t hfit hcap hlong) ⟨e,?_⟩⟩)
 rw[hnew];exact ⟨.ref _,_,I.K8 (t':=s.toks) (r.rep k.toNat) (by rw[len_rep,Ur];exact hz),rfl,q _ I.fresh⟩
theorem Ii:OpR X (Tc .Mult) (rOp X.prog X.w X.K (BT.nZ .mul)):=by
 intro zt s σ H v u v' u' Q I rv ru h;obtain ⟨m,h,x,y,z,h',R,rx,ry,e,zr⟩:=h;obtain ⟨d,d',q,e1,e2,e3,rfl,rfl⟩:=jb e;have r1:=aL R rx e1;have r2:=aL R ry e2;cases d<;>cases d'<;>first|(cases e3;done)|simp only[BT.gq,BT.dJ,BT.cM,BT.aV,BT.gr,BT.gu,BT.dM,BT.dN,BT.gw,BT.eZ,BT.gx] at e3
 ·split at e3
  ·rename_i c;cases e3;cases r1.int;cases r2.int;refine Hg zt s σ H _ _ _ _ Q I rv ru ⟨_,_,rfl,rfl,?_,zr.here R (.int _)⟩;rcases T8 _ _ ▸ c with c|c
   exact .inl (qc c);exact .inr (qc c)
  cases e3
 ·split at e3
  ·rename_i c;simp only[Rn,decide_eq_true_eq] at c;cases e3;obtain ⟨a,vs,rfl,ha,ra⟩:=r1.tup;cases r2.int;obtain ⟨t,rfl⟩:=ru;cases rv;have l1:=ra.length;have:=cO;simp only[T9,List.isEmpty_eq_false_iff] at c;refine xW I ha (by lia) (by lia) (λz=>?_) (by rw[l1];lia) λp hp=>jZ R hp (ra.rep _) zr;subst z;cases ra;exact c.1.2 rfl
  cases e3
 ·split at e3
  ·rename_i c;simp only[Rn,decide_eq_true_eq] at c;cases e3;obtain ⟨a,vs,rfl,ha,ra⟩:=r1.lst;cases r2.int;obtain ⟨t,rfl⟩:=ru;cases rv;have l1:=ra.length;have:=cO;refine z5 I ha (by lia) (by lia) (by rw[l1];lia) λp hp=>j6 R hp (ra.rep _) zr
  cases e3
end
mutual
noncomputable def pd:BT.D->PyData
 | .non=>.none| .bl b=>.bool b| .int i=>.int i| .str x=>.str x| .tup xs=>.tuple (pds xs)| .lst xs=>.list (pds xs)
noncomputable def pds:List BT.D->List PyData
 | []=>[]| x::r=>pd x::pds r
end
mutual
theorem mW:∀ x y:BT.D,PyData.eqv (pd x) (pd y)=BT.eqv x y
 | .non,.non=>rfl| .non,.bl _=>rfl| .non,.int _=>rfl| .non,.str _=>rfl
 | .non,.tup _=>by simp[pd,PyData.eqv,BT.eqv]
 | .non,.lst _=>by simp[pd,PyData.eqv,BT.eqv]
 | .bl _,.non=>rfl| .bl _,.bl _=>rfl| .bl _,.int _=>rfl| .bl _,.str _=>rfl
 | .bl _,.tup _=>by simp[pd,PyData.eqv,BT.eqv]
 | .bl _,.lst _=>by simp[pd,PyData.eqv,BT.eqv]
 | .int _,.non=>rfl| .int _,.bl _=>rfl| .int _,.int _=>rfl| .int _,.str _=>rfl
 | .int _,.tup _=>by simp[pd,PyData.eqv,BT.eqv]
 | .int _,.lst _=>by simp[pd,PyData.eqv,BT.eqv]
 | .str _,.non=>rfl| .str _,.bl _=>rfl| .str _,.int _=>rfl| .str _,.str _=>rfl
 | .str _,.tup _=>by simp[pd,PyData.eqv,BT.eqv]
 | .str _,.lst _=>by simp[pd,PyData.eqv,BT.eqv]
 | .tup _,.non=>by simp[pd,PyData.eqv,BT.eqv]
 | .tup _,.bl _=>by simp[pd,PyData.eqv,BT.eqv]
 | .tup _,.int _=>by simp[pd,PyData.eqv,BT.eqv]
 | .tup _,.str _=>by simp[pd,PyData.eqv,BT.eqv]
 | .tup xs,.tup ys=>by simp only[pd,PyData.eqv,BT.eqv];exact qd xs ys
 | .tup _,.lst _=>by simp[pd,PyData.eqv,BT.eqv]
 | .lst _,.non=>by simp[pd,PyData.eqv,BT.eqv]
 | .lst _,.bl _=>by simp[pd,PyData.eqv,BT.eqv]
 | .lst _,.int _=>by simp[pd,PyData.eqv,BT.eqv]
 | .lst _,.str _=>by simp[pd,PyData.eqv,BT.eqv]
 | .lst _,.tup _=>by simp[pd,PyData.eqv,BT.eqv]
 | .lst xs,.lst ys=>by simp only[pd,PyData.eqv,BT.eqv];exact qd xs ys
theorem qd:∀ xs ys:List BT.D,PyData.eqvAll (pds xs) (pds ys)=BT.nY xs ys
 | [],[]=>by simp[pds,PyData.eqvAll,BT.nY]
 | [],_::_=>by simp[pds,PyData.eqvAll,BT.nY]
 | _::_,[]=>by simp[pds,PyData.eqvAll,BT.nY]
 | x::xs,y::ys=>by simp only[pds,PyData.eqvAll,BT.nY];rw[mW x y,qd xs ys]
end
theorem iO:∀ {xs:List BT.D},(∀ x∈xs,(pd x).depth<=n)->PyData.depthAll (pds xs)<=n
 | [],_=>by simp[pds,PyData.depthAll]
 | x::xs,h=>by simp only[pds,PyData.depthAll];exact Nat.max_le.mpr ⟨h x RL,iO λy hy=>h y (RJ _ hy)⟩
theorem jc:∀ (n:Nat) (d:BT.D),BT.dok n d=XZ->(pd d).depth<=n
 | n,.non,_=>by simp[pd,PyData.depth]
 | n,.bl _,_=>by simp[pd,PyData.depth]
 | n,.int _,_=>by simp[pd,PyData.depth]
 | n,.str _,_=>by simp[pd,PyData.depth]
 | 0,.tup _,h=>by simp[BT.dok] at h
 | 0,.lst _,h=>by simp[BT.dok] at h
 | n+1,.tup xs,h=>by simp only[pd,PyData.depth];rw[BT.vp,Tt] at h;exact Nat.succ_le_succ (iO λx hx=>jc n x (h x hx))
 | n+1,.lst xs,h=>by simp only[pd,PyData.depth];rw[BT.lW,Tt] at h;exact Nat.succ_le_succ (iO λx hx=>jc n x (h x hx))
section
variable {K:Rm}
mutual
theorem e9:∀ {v:V}{d:BT.D},RD K m H v d->(pd d).canLay0=XZ
 | _,_,.non=>rfl| _,_,.bl _=>rfl| _,_,.int _=>rfl
 | _,_,.str _ h=>by simpa [pd,PyData.canLay0] using h
 | _,_,.tup _ r=>by simp only[pd,PyData.canLay0];exact gP r
 | _,_,.lst _ r=>by simp only[pd,PyData.canLay0];exact gP r
theorem gP:∀ {vs:List V}{ds:List BT.D},RDs K m H vs ds->PyData.canLayAll0 (pds ds)=XZ
 | _,_,.nil=>by simp[pds,PyData.canLayAll0]
 | _,_,.cons r t=>by simp only[pds,PyData.canLayAll0];rw[e9 r,gP t];rfl
end
mutual
theorem iP (I:Inv X zt σ H s):∀ {v:V}{d:BT.D}{u:Z1},RD X.K m H v d->RelV v u->∃ as,Reads s.heap u (pd d) as
 | _,_,_,.non,r=>by cases r;exact ⟨_,.none⟩
 | _,_,_,.bl b,r=>by cases r;exact ⟨_,.bool b⟩
 | _,_,_,.int i,r=>by obtain ⟨t,rfl⟩:=r;exact ⟨_,.int i t⟩
 | _,_,_,.str x _,r=>by obtain ⟨t,rfl⟩:=r;exact ⟨_,.str x t⟩
 | _,_,_,.tup h r,q=>by cases q;obtain ⟨its,r1,⟨o,e1,e2,n,e3⟩,_⟩:=I.tuple (h.elim (λq=>.inl q.1) (λ⟨o,its,n,q,_⟩=>.inr ⟨o,its,n,q⟩));obtain ⟨as,ra⟩:=jd I r r1;exact ⟨_,.tuple e1 e2 e3 (by simpa using ra)⟩
 | _,_,_,.lst h r,q=>by cases q;obtain ⟨z,its,n,r1,_,e⟩:=rdL I (h.elim (λq=>.inl q.1) .inr);obtain ⟨as,ra⟩:=jd I r r1;exact ⟨_,.list e rfl rfl (by simpa using ra)⟩
theorem jd (I:Inv X zt σ H s):∀ {vs:List V}{ds:List BT.D}{us:List Z1},RDs X.K m H vs ds->av vs us->∃ as,ReadsAll s.heap us (pds ds) as
 | _,_,_,.nil,q=>by cases q;exact ⟨_,.nil⟩
 | _,_,_,.cons r t,q=>by
  cases q with
  | cons q1 q2 =>
   obtain ⟨as,ra⟩:=iP I r q1;obtain ⟨bs,rb⟩:=jd I t q2;exact ⟨_,.cons ra rb⟩
end
theorem iQ (I:Inv X zt σ H s) (r:RR X.K m H v d) (q:RelV v u):∃ as,Reads s.heap u (pd d) as:=by
 cases r with
 | d r=>exact iP I r q
 | l h r =>
  cases q;obtain ⟨z,its,n,r1,_,e⟩:=rdL I (.inl (.inl h));obtain ⟨as,ra⟩:=jd I r r1;exact ⟨_,.list e rfl rfl (by simpa using ra)⟩
theorem gB (r:RR K m H v d):(pd d).canLay0=XZ:=by
 cases r with
 | d r=>exact e9 r| l h r=>simp only[pd,PyData.canLay0];exact gP r
theorem qe (h:BT.bE x y=XZ):min (pd x).depth (pd y).depth<=100:=by
 unfold BT.bE at h;rcases T8 _ _ ▸ h with h|h
 have:=jc 100 x h;lia;have:=jc 100 y h;lia
theorem dS (e:BT.jV o x y h=XX (z,h')) :
 (∃ kvs b,y=.k kvs/\BT.inK o x kvs=XX b/\z=.p (.bl b)/\h'=h)\/∃ d d' b,BT.rd x h=XX d/\BT.rd y h=XX d'/\BT.cL o d d'=XX b/\z=.p (.bl b)/\h'=h:=by
 unfold BT.jV at e;split at e
 ·rename_i kvs;obtain ⟨b,e1,e2⟩:=aF e;cases e2;exact .inl ⟨kvs,b,rfl,e1,rfl,rfl⟩
 ·refine .inr ?_;cases e1:BT.rd x h with
  | none=>rw[e1] at e;cases e
  | some d =>
   cases e2:BT.rd y h with
   | none=>rw[e1,e2] at e;cases e
   | some d' =>
    rw[e1,e2] at e;obtain ⟨q,eq,er⟩:=aF e;cases er;exact ⟨d,d',q,rfl,rfl,eq,rfl,rfl⟩
theorem L4 (hu:X.A.units+150 < Xf):OpR X (SK .Eq) (rOp X.prog X.w X.K (BT.jV .eq)):=by
 intro zt s σ H v u v' u' Q I rv ru h;obtain ⟨m,h,x,y,z,h',R,rx,ry,e,zr⟩:=h;rcases dS e with ⟨kvs,b,rfl,e1,_,_⟩|⟨d,d',b,e1,e2,e3,rfl,rfl⟩
 exact absurd e1 (BT.iL rfl)
 ·have r1:=aL R rx e1;have r2:=aL R ry e2;rw[BT.jS] at e3;split at e3
  ·rename_i c;cases e3;obtain ⟨as,ra⟩:=iQ I r1 rv;obtain ⟨bs,rb⟩:=iQ I r2 ru;have:=qe c;refine SeqAt.compareEq_reads ra rb (gB r1) (gB r2) (by lia) ?_;rw[mW];exact ⟨.bl _,H,I,rfl,zr.here R (.bl _)⟩
  cases e3
theorem L5 (hu:X.A.units+150 < Xf):OpR X (SK .NotEq) (rOp X.prog X.w X.K (BT.jV .ne)):=by
 intro zt s σ H v u v' u' Q I rv ru h;obtain ⟨m,h,x,y,z,h',R,rx,ry,e,zr⟩:=h;rcases dS e with ⟨kvs,b,rfl,e1,_,_⟩|⟨d,d',b,e1,e2,e3,rfl,rfl⟩
 exact absurd e1 (BT.iL rfl)
 ·have r1:=aL R rx e1;have r2:=aL R ry e2;rw[BT.jT] at e3;split at e3
  ·rename_i c;cases e3;obtain ⟨as,ra⟩:=iQ I r1 rv;obtain ⟨bs,rb⟩:=iQ I r2 ru;have:=qe c;refine SeqAt.compareNe_reads ra rb (gB r1) (gB r2) (by lia) ?_;rw[mW];exact ⟨.bl _,H,I,rfl,zr.here R (.bl _)⟩
  cases e3
theorem L6:OpR X (SK .Lt) (rOp X.prog X.w X.K (BT.jV .lt)):=by
 intro zt s σ H v u v' u' Q I rv ru h;obtain ⟨m,h,x,y,z,h',R,rx,ry,e,zr⟩:=h;rcases dS e with ⟨kvs,b,rfl,e1,_,_⟩|⟨d,d',b,e1,e2,e3,rfl,rfl⟩
 exact absurd e1 (BT.iL rfl)
 ·have r1:=aL R rx e1;have r2:=aL R ry e2;cases d<;>cases d'<;>first|(cases e3;done)|simp only[BT.fK,BT.fL,BT.fM,BT.fN,BT.dZ,BT.cX,BT.bP,BT.bU,BT.bM,BT.bN] at e3
  cases e3;cases r1.int;cases r2.int;exact KU zt s σ H _ _ _ _ Q I rv ru ⟨_,_,rfl,rfl,zr.here R (.bl _)⟩
theorem L7:OpR X (SK .LtE) (rOp X.prog X.w X.K (BT.jV .le)):=by
 intro zt s σ H v u v' u' Q I rv ru h;obtain ⟨m,h,x,y,z,h',R,rx,ry,e,zr⟩:=h;rcases dS e with ⟨kvs,b,rfl,e1,_,_⟩|⟨d,d',b,e1,e2,e3,rfl,rfl⟩
 exact absurd e1 (BT.iL rfl)
 ·have r1:=aL R rx e1;have r2:=aL R ry e2;cases d<;>cases d'<;>first|(cases e3;done)|simp only[BT.fK,BT.fL,BT.fM,BT.fN,BT.dZ,BT.cX,BT.bP,BT.bU,BT.bM,BT.bN] at e3
  cases e3;cases r1.int;cases r2.int;exact KW zt s σ H _ _ _ _ Q I rv ru ⟨_,_,rfl,rfl,zr.here R (.bl _)⟩
theorem L8:OpR X (SK .Gt) (rOp X.prog X.w X.K (BT.jV .gt)):=by
 intro zt s σ H v u v' u' Q I rv ru h;obtain ⟨m,h,x,y,z,h',R,rx,ry,e,zr⟩:=h;rcases dS e with ⟨kvs,b,rfl,e1,_,_⟩|⟨d,d',b,e1,e2,e3,rfl,rfl⟩
 exact absurd e1 (BT.iL rfl)
 ·have r1:=aL R rx e1;have r2:=aL R ry e2;cases d<;>cases d'<;>first|(cases e3;done)|simp only[BT.fK,BT.fL,BT.fM,BT.fN,BT.dZ,BT.cX,BT.bP,BT.bU,BT.bM,BT.bN] at e3
  cases e3;cases r1.int;cases r2.int;exact KY zt s σ H _ _ _ _ Q I rv ru ⟨_,_,rfl,rfl,zr.here R (.bl _)⟩
theorem Ma:OpR X (SK .GtE) (rOp X.prog X.w X.K (BT.jV .ge)):=by
 intro zt s σ H v u v' u' Q I rv ru h;obtain ⟨m,h,x,y,z,h',R,rx,ry,e,zr⟩:=h;rcases dS e with ⟨kvs,b,rfl,e1,_,_⟩|⟨d,d',b,e1,e2,e3,rfl,rfl⟩
 exact absurd e1 (BT.iL rfl)
 ·have r1:=aL R rx e1;have r2:=aL R ry e2;cases d<;>cases d'<;>first|(cases e3;done)|simp only[BT.fK,BT.fL,BT.fM,BT.fN,BT.dZ,BT.cX,BT.bP,BT.bU,BT.bM,BT.bN] at e3
  cases e3;cases r1.int;cases r2.int;exact KZ zt s σ H _ _ _ _ Q I rv ru ⟨_,_,rfl,rfl,zr.here R (.bl _)⟩
theorem vF (r:RR K m H v d):decide (v=.non)=BT.iJ d:=by
 cases r with
 | d r=>cases r<;>rfl| l h r=>rfl
theorem Ij:OpR X (SK .Is) (rOp X.prog X.w X.K (BT.jV .isN)):=by
 intro zt s σ H v u v' u' Q I rv ru h;obtain ⟨m,h,x,y,z,h',R,rx,ry,e,zr⟩:=h;rcases dS e with ⟨kvs,b,rfl,e1,_,_⟩|⟨d,d',b,e1,e2,e3,rfl,rfl⟩
 exact absurd e1 (BT.iL rfl)
 ·have r1:=aL R rx e1;have r2:=aL R ry e2;cases d'<;>first|(cases e3;done)|simp only[BT.fK,BT.fL,BT.fM,BT.fN,BT.dZ,BT.cX,BT.bP,BT.bU,BT.bM,BT.bN] at e3
  cases e3;cases r2.non;refine Hj zt s σ H _ _ _ _ Q I rv ru ⟨rfl,?_⟩;rw[vF r1];exact zr.here R (.bl _)
theorem DP:OpR X (SK .IsNot) (rOp X.prog X.w X.K (BT.jV .notN)):=by
 intro zt s σ H v u v' u' Q I rv ru h;obtain ⟨m,h,x,y,z,h',R,rx,ry,e,zr⟩:=h;rcases dS e with ⟨kvs,b,rfl,e1,_,_⟩|⟨d,d',b,e1,e2,e3,rfl,rfl⟩
 exact absurd e1 (BT.iL rfl)
 ·have r1:=aL R rx e1;have r2:=aL R ry e2;cases d'<;>first|(cases e3;done)|simp only[BT.fK,BT.fL,BT.fM,BT.fN,BT.dZ,BT.cX,BT.bP,BT.bU,BT.bM,BT.bN] at e3
  cases e3;cases r2.non;refine Df zt s σ H _ _ _ _ Q I rv ru ⟨rfl,?_⟩;rw[vF r1];exact zr.here R (.bl _)
open Classical in
noncomputable def cj (h:Heap) (dx:PyData) (y:Z1):Bool:=if q:∃ db as,Reads h y db as/\db.canLay0=XZ then PyData.eqv (Classical.choose q) dx else X0
theorem uD (r:Reads h y db as) (c:db.canLay0=XZ):cj h dx y=PyData.eqv db dx:=by have q:∃ db as,Reads h y db as/\db.canLay0=XZ:=⟨db,as,r,c⟩;unfold cj;rw[dif_pos q];obtain ⟨as',r',c'⟩:=Classical.choose_spec q;rw[SeqAt.Reads.unique _ _ _ _ _ c r r']
theorem j7 (I:Inv X zt σ H s):∀ {vs:List V}{ds:List BT.D}{us:List Z1},RDs X.K m H vs ds->av vs us->us.any (cj s.heap (pd d))=ds.any λy=>BT.eqv y d
 | _,_,_,.nil,q=>by cases q;rfl
 | _,_,_,.cons r t,q=>by
  cases q with
  | cons q1 q2 =>
   obtain ⟨as,ra⟩:=iP I r q1;rw[UO,UO,j7 I t q2,uD ra (e9 r),mW]
theorem fR (hu:X.A.units+150 < Xf) (I:Inv X zt σ H s) (rx:RR X.K m H v d) (rv:RelV v u):∀ {vs:List V}{ds:List BT.D}{us:List Z1},RDs X.K m H vs ds->av vs us->(ds.all λy=>BT.bE y d)=XZ →
 ∀ y∈us,SeqAt.EqAt X.A.in1 s y u (cj s.heap (pd d) y)
 | _,_,_,.nil,q,_=>by cases q;intro y hy;simp at hy
 | _,_,_,.cons r t,q,c=>by
  cases q with
  | cons q1 q2 =>
   rw[WN,Rn] at c;intro y hy;rcases List.mem_cons.mp hy with rfl|hy
   ·obtain ⟨as,ra⟩:=iP I r q1;obtain ⟨bs,rb⟩:=iQ I rx rv;rw[uD ra (e9 r)];have:=qe c.1;refine SeqAt.eqAt_reads _ _ _ _ _ _ _ _ ra rb (e9 r) (gB rx) ?_;show X.A.units+1+_ < _;lia
   exact fR hu I rx rv t q2 c.2 y hy
theorem Ik (hu:X.A.units+150 < Xf) (hk:∀ {kvs:List (ZZ×BT.D)}{x:BT.W}{b:Bool}{m:List Z0}{H:Hp}{v u:V}{v' u':Z1}{zt σ s Q},Inv X zt σ H s->RelV v v'->RelV u u'->RW X.prog X.w X.K m H v x->RW X.prog X.w X.K m H u (.k kvs)->BT.inK .mem x kvs=XX b->Q (V.bl b) H →
 ZY (RV X.prog X.w) X.A (SK .In v' u') (EP X zt σ Q) X.xe s):OpR X (SK .In) (rOp X.prog X.w X.K (BT.jV .mem)):=by
 intro zt s σ H v u v' u' Q I rv ru h;obtain ⟨m,h,x,y,z,h',R,rx,ry,e,zr⟩:=h;rcases dS e with ⟨kvs,b,rfl,e1,rfl,rfl⟩|⟨d,d',b,e1,e2,e3,rfl,rfl⟩
 exact hk I rv ru rx ry e1 (zr.here R (.bl _))
 ·have r1:=aL R rx e1;have r2:=aL R ry e2;cases d'<;>first|(cases e3;done)|simp only[BT.fK,BT.fL,BT.fM,BT.fN,BT.dZ,BT.cX,BT.bP,BT.bU,BT.bM,BT.bN] at e3
  ·split at e3
   ·rename_i c;cases e3;obtain ⟨a,vs,rfl,ha,ra⟩:=r2.tup;cases ru;obtain ⟨its,q1,q2,_⟩:=I.tuple ha;refine SeqAt.in_tupleAt (cj s.heap (pd d)) q2 (λy hy=>fR hu I r1 rv ra q1 c y (by simpa using hy)) ⟨.bl _,H,I,rfl,?_⟩;rw[show its.toArray.any (cj s.heap (pd d))=its.any (cj s.heap (pd d)) by simp,j7 I ra q1];exact zr.here R (.bl _)
   cases e3
  ·split at e3
   ·rename_i c;cases e3;obtain ⟨a,vs,rfl,ha,ra⟩:=r2.lst;cases ru;obtain ⟨z,its,n,q1,_,q2⟩:=rdL I ha;refine SeqAt.in_listAt (cj s.heap (pd d)) ⟨_,q2,rfl,_,rfl⟩ (λy hy=>fR hu I r1 rv ra q1 c y (by simpa using hy)) ⟨.bl _,H,I,rfl,?_⟩;rw[show its.toArray.any (cj s.heap (pd d))=its.any (cj s.heap (pd d)) by simp,j7 I ra q1];exact zr.here R (.bl _)
   cases e3
theorem DQ (hu:X.A.units+150 < Xf) (hk:∀ {kvs:List (ZZ×BT.D)}{x:BT.W}{b:Bool}{m:List Z0}{H:Hp}{v u:V}{v' u':Z1}{zt σ s Q},Inv X zt σ H s->RelV v v'->RelV u u'->RW X.prog X.w X.K m H v x->RW X.prog X.w X.K m H u (.k kvs)->BT.inK .nmem x kvs=XX b->Q (V.bl b) H →
 ZY (RV X.prog X.w) X.A (SK .NotIn v' u') (EP X zt σ Q) X.xe s):OpR X (SK .NotIn) (rOp X.prog X.w X.K (BT.jV .nmem)):=by
 intro zt s σ H v u v' u' Q I rv ru h;obtain ⟨m,h,x,y,z,h',R,rx,ry,e,zr⟩:=h;rcases dS e with ⟨kvs,b,rfl,e1,rfl,rfl⟩|⟨d,d',b,e1,e2,e3,rfl,rfl⟩
 exact hk I rv ru rx ry e1 (zr.here R (.bl _))
 ·have r1:=aL R rx e1;have r2:=aL R ry e2;cases d'<;>first|(cases e3;done)|simp only[BT.fK,BT.fL,BT.fM,BT.fN,BT.dZ,BT.cX,BT.bP,BT.bU,BT.bM,BT.bN] at e3
  ·split at e3
   ·rename_i c;cases e3;obtain ⟨a,vs,rfl,ha,ra⟩:=r2.tup;cases ru;obtain ⟨its,q1,q2,_⟩:=I.tuple ha;refine SeqAt.notIn_tupleAt (cj s.heap (pd d)) q2 (λy hy=>fR hu I r1 rv ra q1 c y (by simpa using hy)) ⟨.bl _,H,I,rfl,?_⟩;rw[show its.toArray.any (cj s.heap (pd d))=its.any (cj s.heap (pd d)) by simp,j7 I ra q1];exact zr.here R (.bl _)
   cases e3
  ·split at e3
   ·rename_i c;cases e3;obtain ⟨a,vs,rfl,ha,ra⟩:=r2.lst;cases ru;obtain ⟨z,its,n,q1,_,q2⟩:=rdL I ha;refine SeqAt.notIn_listAt (cj s.heap (pd d)) ⟨_,q2,rfl,_,rfl⟩ (λy hy=>fR hu I r1 rv ra q1 c y (by simpa using hy)) ⟨.bl _,H,I,rfl,?_⟩;rw[show its.toArray.any (cj s.heap (pd d))=its.any (cj s.heap (pd d)) by simp,j7 I ra q1];exact zr.here R (.bl _)
   cases e3
end
section
theorem RDs.atI {K:Rm} (r:RDs K m H vs ds) (e:BT.atP ds i=XX d):∃ v,L2.atI vs i=XX v/\RD K m H v d:=by unfold BT.atP at e;unfold L2.atI;obtain ⟨j,h1,h2⟩:=Option.bind_eq_some_iff.mp e;obtain ⟨v,q1,q2⟩:=r.get h2;refine ⟨v,?_,q2⟩;rw[r.length];show ((BT.place ds.length i).bind λj=>vs[j]?)=XX v;rw[h1];exact q1
theorem DR (e:BT.DC x y h=XX (z,h')) :
 (∃ kvs k d,x=.k kvs/\y=.p (.str k)/\BT.dH k kvs=XX d/\z=.p d/\h'=h)\/∃ d d' b,BT.rd x h=XX d/\BT.rd y h=XX d'/\BT.az d d'=XX b/\z=.p b/\h'=h:=by
 unfold BT.DC at e;split at e
 ·rename_i kvs;obtain ⟨b,e1,e2⟩:=aF e;cases e2;cases y with
  | p d =>
   cases d<;>simp only[BT.atK] at e1<;>try contradiction
   exact .inl ⟨kvs,_,b,rfl,rfl,e1,rfl,rfl⟩
  | _=>simp[BT.atK] at e1
 ·refine .inr ?_;cases e1:BT.rd x h with
  | none=>rw[e1] at e;cases e
  | some d =>
   cases e2:BT.rd y h with
   | none=>rw[e1,e2] at e;cases e
   | some d' =>
    rw[e1,e2] at e;obtain ⟨q,eq,er⟩:=aF e;cases er;exact ⟨d,d',q,rfl,rfl,eq,rfl,rfl⟩
theorem z6 {K:Rm}:∀ {es:List (ZZ×V)}{kvs:List (ZZ×BT.D)}{vs:List (Key×Z1)},RDk K es kvs->KV (es.map λq=>((Sum.inr q.1:Key),q.2)) vs->BT.dH k kvs=XX d →
 ∃ u v,valueAt vs (Sum.inr k)=XX u/\RelV v u/\∀ m H,RD K m H v d
 | _,_,_,.nil,_,e=>by simp[BT.dH] at e
 | _,_,_,@RDk.cons _ x v dd es kvs r t,q,e=>by
  cases q with
  | @cons p z l1 l2 q1 q2 =>
   obtain ⟨z1,z2⟩:=z;obtain ⟨q11,q12⟩:=q1;simp only at q11 q12;subst q11;rw[BT.dH] at e
   by_cases c:k=x
   ·rw[if_pos c] at e;cases e;subst c;exact ⟨z2,v,by simp[valueAt],q12,r⟩
   ·rw[if_neg c] at e;obtain ⟨u,v',h1,h2,h3⟩:=z6 t q2 e;refine ⟨u,v',?_,h2,h3⟩;have ne:¬ ((Sum.inr x:Key)=Sum.inr k):=λz=>c (Sum.inr.inj z).symm;simp only[valueAt] at h1 ⊢;rw[WX (by simpa using ne)];exact h1
theorem xX (h:PyData.strOk x=XZ) (hc:c∈x.cps.toList):PyData.strOk ⟨#[c]⟩=XZ:=by simp only[PyData.strOk,Array.all_eq_true_iff_forall_mem] at h ⊢;intro y hy;simp at hy;subst hy;exact h y (by simpa using hc)
theorem Il:IxR X (rOp X.prog X.w X.K BT.DC):=by
 intro value slice zt s σ H v u v' u' Q I rv ru h hs;obtain ⟨m,h,x,y,z,h',R,rx,ry,e,zr⟩:=h;rcases DR e with ⟨kvs,k,d,rfl,rfl,e1,rfl,rfl⟩|⟨d,d',b,e1,e2,e3,rfl,rfl⟩
 ·cases rx with
  | @k a es _ kd rk =>
   cases rv;cases ry with
   | p ry =>
    cases ry with
    | str _ ok =>
     obtain ⟨t,rfl⟩:=ru;obtain ⟨hm,vs,kv,dd⟩:=kd;obtain ⟨w',z,h1,h2,h3⟩:=z6 rk kv e1;have D:=dd s.heap I.kIn;refine tail_any (ops:=[.ref a,.str k t]) D.typeIs slot_dict_getitem.lookup ?_ hs;exact wpAny_getItem_of (knd:=aU X.prog X.w) (fH _ _ k t) D.mapOf h1 ⟨z,H,I.tok _,h2,zr.here R (h3 _ _)⟩
 ·have r1:=aL R rx e1;have r2:=aL R ry e2;cases d<;>cases d'<;>first|(cases e3;done)|simp only[BT.br,BT.aJ,BT.iK] at e3
  ·split at e3
   ·rename_i c;obtain ⟨cc,e4,e5⟩:=aF e3;subst e5;obtain ⟨rfl,ok⟩:=r1.str;cases r2.int;have:=cO;refine Hw value slice zt s σ H _ _ _ _ Q I rv ru ⟨_,_,cc,rfl,rfl,by lia,e4,zr.here R (.str _ (xX ok ?_))⟩ hs;obtain ⟨j,h1,h2⟩:=Option.bind_eq_some_iff.mp e4;exact RC h2
   cases e3
  ·obtain ⟨a,vs,rfl,ha,ra⟩:=r1.tup;cases r2.int;obtain ⟨z,q1,q2⟩:=ra.atI e3;exact Hv value slice zt s σ H _ _ _ _ Q I rv ru ⟨a,vs,_,z,rfl,rfl,ha,q1,zr.here R q2⟩ hs
  ·obtain ⟨a,vs,rfl,ha,ra⟩:=r1.lst;cases r2.int;obtain ⟨z,q1,q2⟩:=ra.atI e3;exact Dr value slice zt s σ H _ _ _ _ Q I rv ru ⟨a,vs,_,z,rfl,rfl,ha.sq,q1,zr.here R q2⟩ hs
theorem j8 (n d:Nat) (o:Option Int):BT.clip n d o=HT.sIx n d o:=by
 cases o with
 | none=>rfl
 | some v =>
  simp only[BT.clip,HT.sIx];split;rfl
  ·split;lia;lia
theorem oi {E:Z1->Rv->Prop}{lo:Option Int} (ht:IsTup s.heap t items) (hs:s.heap.IsSliceOf sl vl vu .none) (pl:WD vl lo) (pu:WD vu hi)
 (hw:HT.sIx items.size 0 lo=0/\HT.sIx items.size items.size hi=items.size) (h:Q (.ref t) s):ZY (RV prog w) A (Wq (.ref t) (.ref sl)) Q E s:=by
 obtain ⟨os,hos,hcs,hds⟩:=id hs;have hTs:s.TypeIs (.ref sl) "slice":=⟨os,hos,hcs⟩;unfold Wq
 try with_reducible refine Ug ?_
 first|refine Rx (wpAny_pure ?_)|skip
 refine Rx (wpAny_sequenceKey ht.typeIs (by decide) ?_);refine Rx (Xw (name:=RG "__getitem__") ht.typeIs Tn
  (wpAny_call_entry Tn ht.typeIs entry_tuple_getitem ?_ (args_tuple_getitem _ _)))
 show ZY _ _ (VE (.ref t) >>= _) _ _ s;refine Rx (tupleItemsOf_ ht ?_);refine Rx (Wz hTs ?_);rw[if_pos (by decide)];refine Rx (HT.gn hs pl pu ?_);have hno:(((HT.sIx items.size 0 lo:Nat):Int)==0&&(1:Int)==1&&(HT.sIx items.size items.size hi - HT.sIx items.size 0 lo)==items.size)=XZ:=by rw[hw.1,hw.2];simp
 show ZY _ _ (if (((HT.sIx items.size 0 lo:Nat):Int)==0&&(1:Int)==1&&(HT.sIx items.size items.size hi - HT.sIx items.size 0 lo)==items.size)=XZ then _ else _) _ _ s;rw[if_pos hno];unfold Builtin.Tuple.tupleIsExact;refine Rx (Rx (Wz ht.typeIs (wpAny_pure ?_)));rw[if_pos (by decide)];refine Rx (wpAny_rule ?_)
 first
  | exact wpAny_pure ⟨_,rfl,wpAny_pure h⟩
  | exact wpAny_pure ⟨_,rfl,h⟩
  | exact Rx (wpAny_pure (wpAny_pure ⟨_,rfl,wpAny_pure h⟩))
inductive rSl (P:Se) (w:SB) (K:Rm) (v:V) (lo hi:Option Int) (H:Hp) (Q:VK):Prop where
 | mk (m:List Z0) (h:BT.HH) (x:BT.W) (d b:BT.D) (R:RH K m H h) (rx:RW P w K m H v x) (e:BT.rd x h=XX d) (e2:BT.pS d lo hi=XX b) (p:Post P w K m H (.p b) h Q):rSl P w K v lo hi H Q
theorem RDs.cut {K:Rm} (r:RDs K m H vs ds) (lo hi:Option Int):RDs K m H (rF vs lo hi) (BT.cut ds lo hi):=by unfold rF BT.cut;rw[j8,j8,r.length];exact (r.drop _).take _
theorem xY {lo:Option Int} (h1:HT.sIx ds.length 0 lo=0) (h2:HT.sIx ds.length ds.length hi=ds.length):BT.cut ds lo hi=ds:=by unfold BT.cut;rw[j8,j8,h1,h2];simp
theorem osl:SlR X (rSl X.prog X.w X.K):=by
 intro zt s σ H v v' vl vu lo hi sl Q I rv hs pl pu h;obtain ⟨m,h,x,d,b,R,rx,e1,e2,zr⟩:=h;have r1:=aL R rx e1;cases d<;>simp only[BT.pS] at e2<;>try contradiction
 ·cases e2;obtain ⟨a,vs,rfl,ha,ra⟩:=r1.tup;cases rv
  by_cases c:HT.sIx vs.length 0 lo=0/\HT.sIx vs.length vs.length hi=vs.length
  ·obtain ⟨its,q1,q2,_⟩:=I.tuple ha;have hl:its.toArray.size=vs.length:=by rw[Rr];exact q1.length.symm
   refine ⟨"tuple",_,PyProof.Rows.slot_tuple_getitem.lookup,q2.typeIs,oi q2 hs pl pu (by rw[hl];exact c) ⟨.ref a,H,I,rfl,?_⟩⟩;cases r1 with
   | d r =>
    refine zr.here R ?_;rw[xY (by rw[← ra.length];exact c.1) (by rw[← ra.length];exact c.2)];exact r
  exact Hu zt s σ H (.ref a) (.ref a) vl vu lo hi sl Q I rfl hs pl pu ⟨a,vs,rfl,ha,c,λp hp=>jZ R hp (ra.cut lo hi) zr⟩
 ·cases e2;obtain ⟨a,vs,rfl,ha,ra⟩:=r1.lst;exact Ds zt s σ H _ _ vl vu lo hi sl Q I rv hs pl pu ⟨a,vs,rfl,ha.sq,λp hp=>j6 R hp (ra.cut lo hi) zr⟩
end
theorem rX (m:BT.Me) (d:BT.D) (as:List BT.W) (h:BT.HH):BT.meW m (.p d) as h=(match BT.aP as with|some ds=>(BT.meD m d ds).map λx=>(.p x,h)|none=>XY):=by cases m<;>rfl
section
inductive rMe (P:Se) (w:SB) (K:Rm) (me:BT.Me) (v:V) (vs:List V) (H:Hp) (Q:VK):Prop where
 | mk (m:List Z0) (h:BT.HH) (x:BT.W) (ws:List BT.W) (z:BT.W) (h':BT.HH) (R:RH K m H h) (rx:RW P w K m H v x) (rs:RWs P w K m H vs ws) (e:BT.meW me x ws h=XX (z,h')) (p:Post P w K m H z h' Q):rMe P w K me v vs H Q
theorem getD_some {α:Type}{xs:List α}{n:Nat}{a:α} (h:xs[n]?=XX a):n < xs.length:=by
 rcases RP n xs.length with z|z
 exact z;rw[Rz z] at h;cases h
theorem xZ:MtR X "list.append" (rMe X.prog X.w X.K .append):=by
 intro zt s σ H v vs v' us Q I rv rus h;obtain ⟨m,h,x,ws,z,h',R,rx,rws,e,zr⟩:=h;cases x with
 | p d=>cases ws with
  | nil=>exact ay e| cons _ _=>rw[rX] at e;split at e<;>(try cases e)
 | r n =>
  cases rws with
  | nil=>(first|(cases e;done)|simp[BT.meW] at e)
  | @cons y wy _ _ ry t =>
   cases t with
   | cons _ _=>cases ry<;>(first|(cases e;done)|simp[BT.meW] at e)
   | nil =>
    cases ry with
    | p ry =>
     rw[BT.um] at e;cases g:BT.lat h n with
     | none=>rw[g] at e;cases e
     | some xs =>
      rw[g] at e;simp only at e;split at e
      ·rename_i c;cases e;cases rx with
       | @r a _ hn =>
        obtain ⟨us',hH,r⟩:=R.cell n a xs hn g;have:=cO;have hl:=r.length;exact xH zt s σ H _ _ _ _ Q I rv rus ⟨a,us',y,rfl,rfl,hH,by lia,zr _ _ m (gA (RC hn) hH) (R.set hn hH (r.append (.cons ry .nil))) (.p .non)⟩
      cases e
    | _=>(first|(cases e;done)|simp[BT.meW] at e)
 | _=>(first|(cases e;done)|simp[BT.meW] at e)
theorem z7 {α:Type}{xs:List α}{d:α} (h:xs.getLast?=XX d):xs[xs.length - 1]?=XX d:=by rw[← Uc];exact h
theorem Im:MtR X "list.pop" (rMe X.prog X.w X.K .pop):=by
 intro zt s σ H v vs v' us Q I rv rus h;obtain ⟨m,h,x,ws,z,h',R,rx,rws,e,zr⟩:=h;cases x with
 | p d=>cases ws with
  | nil=>exact ay e| cons _ _=>rw[rX] at e;split at e<;>(try cases e)
 | r n =>
  cases rws with
  | cons _ _=>(first|(cases e;done)|simp[BT.meW] at e)
  | nil =>
   rw[BT.DB] at e;cases g:BT.lat h n with
   | none=>rw[g] at e;cases e
   | some xs =>
    rw[g] at e;simp only at e;cases gl:xs.getLast? with
    | none=>rw[gl] at e;cases e
    | some d =>
     rw[gl] at e;cases e;cases rx with
     | @r a _ hn =>
      obtain ⟨us',hH,r⟩:=R.cell n a xs hn g;have hl:=r.length;obtain ⟨y,hy,ry⟩:=r.get (z7 gl);have x1:Ext m H m (upd H a (.lst us'.dropLast)):=gA (RC hn) hH;exact Hz zt s σ H _ _ _ _ Q I rv rus ⟨a,us',y,rfl,rfl,hH,by rw[hl];exact hy,zr _ _ m x1 (R.set hn hH r.dropLast) (.p (ry.ext x1))⟩
 | _=>(first|(cases e;done)|simp[BT.meW] at e)
theorem z8 (I:Inv X zt σ H s) (hH:H l=XX (.lst xs)) (hB:LL X.K H b zs) (hz:xs.length+zs.length<=ZX) (q:Q .non (upd H l (.lst (xs++zs)))) :
 ZY (RV X.prog X.w) X.A (call (.builtin "list.extend") [.ref l,.ref b]) (EP X zt σ Q) X.xe s:=by
 obtain ⟨z,its,n,r,hl,e⟩:=I.Dv hH;obtain ⟨z2,its2,n2,r2,hl2,e2⟩:=rdL I hB;have hsz:its.toArray.size+its2.toArray.size<=ZX:=by rw[Rr,Rr];lia
 have hlong:¬ (!its.toArray.isEmpty&&SS (its.toArray.size+its2.toArray.size))=XZ:=by rw[mJ hsz,Bool.and_false];exact SZ
 refine Uh F.slot_list_extend ⟨_,e,rfl⟩ F.entry_list_extend (F.args_list_extend_2 _ _)
  (AutoSeq1.list_extend_list_list_0 l its.toArray n b its2.toArray n2 hlong (by rw[Rr];lia) (by lia)) ⟨e,e2,?_⟩
 refine ⟨.non,_,I.Dt (its':=its++its2) hH e (by simp) (r.append r2) ?_,rfl,q⟩;rw[RI];lia
theorem DS (I:Inv X zt σ H s) (hH:H l=XX (.lst xs)) (hB:SqT X.K H b zs) (hz:xs.length+zs.length<=ZX) (q:Q .non (upd H l (.lst (xs++zs)))) :
 ZY (RV X.prog X.w) X.A (call (.builtin "list.extend") [.ref l,.ref b]) (EP X zt σ Q) X.xe s:=by
 obtain ⟨z,its,n,r,hl,e⟩:=I.Dv hH;obtain ⟨its2,r2,p2,_⟩:=I.tuple hB;obtain ⟨⟨cls,dd,data,sl⟩,e2,hc,n2,hd⟩:=id p2;simp only at hc hd;subst hc hd;have hl2:=r2.length;have hsz:its.toArray.size+its2.toArray.size<=ZX:=by rw[Rr,Rr];lia
 have hlong:¬ (!its.toArray.isEmpty&&SS (its.toArray.size+its2.toArray.size))=XZ:=by rw[mJ hsz,Bool.and_false];exact SZ
 refine Uh F.slot_list_extend ⟨_,e,rfl⟩ F.entry_list_extend (F.args_list_extend_2 _ _)
  (lM l its.toArray n b its2.toArray n2 dd sl hlong (by rw[Rr];lia) (by lia)) ⟨e,e2,?_⟩
 refine ⟨.non,_,I.Dt (its':=its++its2) hH e (by simp) (r.append r2) ?_,rfl,q⟩;rw[RI];lia
theorem ya:MtR X "list.extend" (rMe X.prog X.w X.K .extend):=by
 intro zt s σ H v vs v' us Q I rv rus h;obtain ⟨m,h,x,ws,z,h',R,rx,rws,e,zr⟩:=h;cases x with
 | p d=>cases ws with
  | nil=>exact ay e| cons _ _=>rw[rX] at e;split at e<;>(try cases e)
 | r n =>
  cases rws with
  | nil=>(first|(cases e;done)|simp[BT.meW] at e)
  | @cons y wy _ _ ry t =>
   cases t with
   | cons _ _=>(first|(cases e;done)|simp[BT.meW] at e)
   | nil =>
    rw[BT.uq] at e;cases g:BT.lat h n with
    | none=>rw[g] at e;cases e
    | some xs =>
     cases g2:(BT.rd wy h).bind BT.pT with
     | none=>rw[g,g2] at e;cases e
     | some ys =>
      rw[g,g2] at e;simp only at e;split at e
      ·rename_i c;cases e;obtain ⟨d,e1,e2⟩:=Option.bind_eq_some_iff.mp g2;have r2:=aL R ry e1;cases rx with
       | @r a _ hn =>
        obtain ⟨us',hH,r⟩:=R.cell n a xs hn g;cases rv;obtain ⟨u,rfl,ru⟩:=rus.one;have:=cO;have hl:=r.length;cases d<;>simp only[BT.pT] at e2<;>try contradiction
        ·cases e2;obtain ⟨b,vb,rfl,hb,rb⟩:=r2.tup;cases ru;have hl2:=rb.length;exact DS I hH hb (by lia) (zr _ _ m (gA (RC hn) hH) (R.set hn hH (r.append rb)) (.p .non))
        ·cases e2;obtain ⟨b,vb,rfl,hb,rb⟩:=r2.lst;cases ru;have hl2:=rb.length;exact z8 I hH hb (by lia) (zr _ _ m (gA (RC hn) hH) (R.set hn hH (r.append rb)) (.p .non))
      cases e
 | _=>(first|(cases e;done)|simp[BT.meW] at e)
theorem RWs.pure:∀ {vs:List V}{ws:List BT.W}{ds:List BT.D},RWs P w K m H vs ws->BT.aP ws=XX ds->RDs K m H vs ds:=by
 intro vs ws
 induction ws generalizing vs with
 | nil =>
  intro ds r e;cases r;cases e;exact .nil
 | cons x ws ih =>
  intro ds r e;cases r with
  | cons r t =>
   cases r with
   | p r =>
    simp only[BT.aP] at e;obtain ⟨q,e1,e2⟩:=aF e;subst e2;exact .cons r (ih t e1)
   | _=>cases e
theorem jD:∀ {ds:List BT.D}{k j:Nat},BT.gi x ds k=XX j->∃ i,j=k+i/\∃ (hi:i < ds.length),BT.eqv ds[i] x=XZ/\∀ m (hm:m < ds.length),m < i->BT.eqv ds[m] x=X0
 | [],_,_,e=>by cases e
 | y::r,k,j,e=>by
  simp only[BT.gi] at e;split at e
  ·rename_i c;cases e;exact ⟨0,rfl,by simp,c,λm _ h=>by lia⟩
  ·rename_i c;obtain ⟨i,rfl,hi,h1,h2⟩:=jD e;refine ⟨i+1,by lia,by simp;lia,by simpa using h1,λm hm hlt=>?_⟩;cases m with
   | zero=>simpa using c| succ m=>simpa using h2 m (by simpa using hm) (by lia)
theorem jf (I:Inv X zt σ H s):∀ {vs:List V}{ds:List BT.D}{us:List Z1},RDs X.K m H vs ds->av vs us->∀ (i:Nat) (h1:i < us.length) (h2:i < ds.length),cj s.heap (pd d) us[i]=BT.eqv ds[i] d
 | _,_,_,.nil,q=>by cases q;intro i h1;simp at h1
 | _,_,_,.cons r t,q=>by
  cases q with
  | cons q1 q2 =>
   intro i h1 h2;cases i with
   | zero =>
    obtain ⟨as,ra⟩:=iP I r q1;simp only[List.getElem_cons_zero];rw[uD ra (e9 r),mW]
   | succ i=>simpa using jf I t q2 i (by simpa using h1) (by simpa using h2)
theorem yb (hu:X.A.units+150 < Xf):MtR X "tuple.index" (rMe X.prog X.w X.K .tindex):=by
 intro zt s σ H v vs v' us Q I rv rus h;obtain ⟨m,h,x,ws,z,h',R,rx,rws,e,zr⟩:=h;cases x with
 | r n=>cases ws with
  | _=>(first|(cases e;done)|simp[BT.meW] at e)
 | p d =>
  rw[BT.mO] at e;cases g:BT.aP ws with
  | none=>rw[g] at e;cases e
  | some ds =>
   rw[g] at e;obtain ⟨b,e1,e2⟩:=aF e;cases e2;have rds:=rws.pure g;cases d<;>first|exact ay e1|skip
   rename_i xs;cases ds with
   | nil=>exact ay e1
   | cons d0 dr =>
    cases dr with
    | cons _ _=>exact ay e1
    | nil =>
     rw[BT.zC] at e1;split at e1
     ·rename_i c;obtain ⟨j,e3,e4⟩:=aF e1;subst e4;obtain ⟨i,rfl,hi,h1,h2⟩:=jD e3;cases rds with
      | cons r0 rn =>
       cases rn;obtain ⟨u,rfl,ru⟩:=rus.one;cases rx with
       | p rx =>
        obtain ⟨a,vt,rfl,ha,ra⟩:=RR.tup (.d rx);cases rv;obtain ⟨its,q1,q2,_⟩:=I.tuple ha;obtain ⟨⟨cls,dd,data,sl⟩,ho,hc,n,hd⟩:=id q2;simp only at hc hd;subst hc hd;have hl:=q1.length;have hl2:=ra.length;have hi':i < its.toArray.size:=by rw[Rr];lia
        refine Uh F.slot_tuple_index ⟨_,ho,rfl⟩ F.entry_tuple_index (F.args_tuple_index_2 _ _)
         (oh a its.toArray n dd sl u (cj s.heap (pd d0)) i hi' ?_ ?_) ⟨ho,?_,?_⟩
        rw[show its.toArray[i]=its[i]'(by lia) by simp,jf I ra q1 i (by lia) hi];exact h1
        ·intro k hk hlt;have hk':k < its.length:=by simpa using hk
         rw[show its.toArray[k]=its[k]'hk' by simp,jf I ra q1 k hk' (by lia)];exact h2 k (by lia) hlt
        ·intro y hy;exact fR hu I (.d r0) ru ra q1 c y (by simpa using hy)
        ·refine ⟨.int (((0+i:Nat):Nat):Int),H,I.tok _,⟨s.toks,?_⟩,zr.here R (.int _)⟩;simp
     cases e1
 | _=>(first|(cases e;done)|simp[BT.meW] at e)
theorem yc:MtR X "str.index" (rMe X.prog X.w X.K .sindex):=by
 intro zt s σ H v vs v' us Q I rv rus h;obtain ⟨m,h,x,ws,z,h',R,rx,rws,e,zr⟩:=h;cases x with
 | r n=>cases ws with
  | _=>(first|(cases e;done)|simp[BT.meW] at e)
 | p d =>
  rw[BT.mP] at e;cases g:BT.aP ws with
  | none=>rw[g] at e;cases e
  | some ds =>
   rw[g] at e;obtain ⟨b,e1,e2⟩:=aF e;cases e2;have rds:=rws.pure g;cases d<;>first|exact ay e1|skip
   cases ds with
   | nil=>exact ay e1
   | cons d0 dr =>
    cases dr with
    | cons _ _=>cases d0<;>exact ay e1
    | nil =>
     cases d0<;>first|exact ay e1|skip
     rename_i x y;rw[BT.zD] at e1;cases ho:Ub x y 0 x.length 1 with
     | nil=>rw[ho] at e1;cases e1
     | cons j rest =>
      rw[ho] at e1;cases e1;cases rds with
      | cons r0 rn =>
       cases rn;cases r0;obtain ⟨u,rfl,t0,rfl⟩:=rus.one;cases rx with
       | p rx =>
        cases rx;obtain ⟨t,rfl⟩:=rv;exact call_gives F.slot_str_index (typeIs_str s x t) F.entry_str_index (F.args_str_index_2 _ _) (gives_str_index x y t t0 j rest ho) ⟨.int j,H,I.tok _,⟨_,rfl⟩,zr.here R (.int _)⟩
 | _=>(first|(cases e;done)|simp[BT.meW] at e)
end
section
inductive rBi (P:Se) (w:SB) (K:Rm) (b:BT.Bi) (mu:Bool) (vs:List V) (H:Hp) (Q:VK):Prop where
 | mk (m:List Z0) (h:BT.HH) (ws:List BT.W) (z:BT.W) (h':BT.HH) (R:RH K m H h) (rs:RWs P w K m H vs ws) (e:BT.kBi b mu ws h=XX (z,h')) (p:Post P w K m H z h' Q):rBi P w K b mu vs H Q
inductive RRs (K:Rm) (m:List Z0) (H:Hp):List V->List BT.D->Prop where
 | nil:RRs K m H [] []
 | cons {v:V}{d:BT.D}{vs:List V}{ds:List BT.D} (r:RR K m H v d) (t:RRs K m H vs ds):RRs K m H (v::vs) (d::ds)
theorem fm {K:Rm} (R:RH K m H h):∀ {vs:List V}{ws:List BT.W}{ds:List BT.D},RWs P w K m H vs ws->BT.rds ws h=XX ds->RRs K m H vs ds
 | _,_,_,.nil,e=>by cases e;exact .nil
 | _,_,_,.cons r t,e=>by simp only[BT.rds] at e;obtain ⟨d,e1,e2⟩:=Option.bind_eq_some_iff.mp e;obtain ⟨q,e3,e4⟩:=aF e2;subst e4;exact .cons (aL R r e1) (fm R t e3)
inductive BiI (b:BT.Bi) (mu:Bool) (ws:List BT.W) (h:BT.HH) (z:BT.W) (h':BT.HH):Prop where
 | mk (ds:List BT.D) (d:BT.D) (h1:BT.rds ws h=XX ds) (h2:BT.biD b ds=XX d) (h3:(mu=X0/\z=.p d/\h'=h)\/∃ xs,mu=XZ/\d=.lst xs/\z=.r h.length/\h'=h++[.l xs]):BiI b mu ws h z h'
theorem jE (e:BT.kBi b mu ws h=XX (z,h')):BiI b mu ws h z h':=by
 unfold BT.kBi at e;cases e1:BT.rds ws h with
 | none=>rw[e1] at e;cases e
 | some ds =>
  rw[e1] at e;simp only at e;cases e2:BT.biD b ds with
  | none=>rw[e2] at e;cases e
  | some d =>
   rw[e2] at e;simp only at e;cases mu with
   | false=>cases e;exact ⟨ds,d,e1,e2,.inl ⟨rfl,rfl,rfl⟩⟩
   | true =>
    simp only[if_true] at e;cases d<;>simp only at e<;>try contradiction
    cases e;exact ⟨ds,_,e1,e2,.inr ⟨_,rfl,rfl,rfl,rfl⟩⟩
theorem RRs.one {K:Rm}{m:List Z0}{H:Hp}{vs:List V}{d:BT.D} (r:RRs K m H vs [d]):∃ v,vs=[v]/\RR K m H v d:=by
 cases r with
 | cons r t=>cases t;exact ⟨_,rfl,r⟩
theorem Io:cW X (.builtin "len") (rBi X.prog X.w X.K .len X0):=by
 intro zt s σ H vs us Q I rus h;obtain ⟨m,h,ws,z,h',R,rws,e,zr⟩:=h;obtain ⟨ds,d,e1,e2,⟨_,rfl,rfl⟩|⟨_,q,_⟩⟩:=jE e
 ·have rr:=fm R rws e1
  match ds,e2 with
  | [.tup xs],e2 =>
   cases e2;obtain ⟨v,rfl,r⟩:=rr.one;obtain ⟨a,vt,rfl,ha,ra⟩:=r.tup;exact jQ zt s σ H _ us Q I rus ⟨a,vt,rfl,.inr ha,by rw[ra.length];exact zr.here R (.int _)⟩
  | [.lst xs],e2 =>
   cases e2;obtain ⟨v,rfl,r⟩:=rr.one;obtain ⟨a,vt,rfl,ha,ra⟩:=r.lst;exact jQ zt s σ H _ us Q I rus ⟨a,vt,rfl,.inl ha.sq,by rw[ra.length];exact zr.here R (.int _)⟩
  | [.str x],e2 =>
   rw[BT.xP] at e2;split at e2
   ·rename_i c;cases e2;obtain ⟨v,rfl,r⟩:=rr.one;obtain ⟨rfl,_⟩:=r.str;have:=cO;exact pP zt s σ H _ us Q I rus ⟨x,rfl,by lia,zr.here R (.int _)⟩
   cases e2
 cases q
theorem Ip:cW X (.builtin "abs") (rBi X.prog X.w X.K .abs X0):=by
 intro zt s σ H vs us Q I rus h;obtain ⟨m,h,ws,z,h',R,rws,e,zr⟩:=h;obtain ⟨ds,d,e1,e2,⟨_,rfl,rfl⟩|⟨_,q,_⟩⟩:=jE e
 ·have rr:=fm R rws e1
  match ds,e2 with
  | [.int i],e2 =>
   cases e2;obtain ⟨v,rfl,r⟩:=rr.one;cases r.int;exact zg zt s σ H _ us Q I rus ⟨i,rfl,zr.here R (.int _)⟩
 cases q
theorem Iq:cW X (.type "int") (rBi X.prog X.w X.K .int X0):=by
 intro zt s σ H vs us Q I rus h;obtain ⟨m,h,ws,z,h',R,rws,e,zr⟩:=h;obtain ⟨ds,d,e1,e2,⟨_,rfl,rfl⟩|⟨_,q,_⟩⟩:=jE e
 ·have rr:=fm R rws e1
  match ds,e2 with
  | [.int i],e2 =>
   cases e2;obtain ⟨v,rfl,r⟩:=rr.one;cases r.int;exact oM zt s σ H _ us Q I rus (.inl ⟨i,rfl,zr.here R (.int _)⟩)
  | [.bl i],e2 =>
   cases e2;obtain ⟨v,rfl,r⟩:=rr.one;cases r.bl;exact oM zt s σ H _ us Q I rus (.inr ⟨i,rfl,zr.here R (.int _)⟩)
 cases q
theorem vG:cW X (.type "list") (rBi X.prog X.w X.K .list mu):=by
 intro zt s σ H vs us Q I rus h;obtain ⟨m,h,ws,z,h',R,rws,e,zr⟩:=h;obtain ⟨ds,d,e1,e2,hz⟩:=jE e;have rr:=fm R rws e1;have fin:∀ {p:Z0}{vt:List V}{xs:List BT.D},d=.lst xs->H p=XY->RDs X.K m H vt xs->Q (.ref p) (upd H p (.lst vt)):=by
  intro p vt xs ed hp r;rcases hz with ⟨_,rfl,rfl⟩|⟨ys,_,e3,rfl,rfl⟩
  subst ed;exact j6 R hp r zr;rw[ed] at e3;cases e3;exact vE R hp r zr
 match ds,e2 with
 | [.tup xs],e2 =>
  cases e2;obtain ⟨v,rfl,r⟩:=rr.one;obtain ⟨a,vt,rfl,ha,ra⟩:=r.tup;exact jR zt s σ H _ us Q I rus ⟨a,vt,rfl,.inr ha,λp hp=>fin rfl hp ra⟩
 | [.lst xs],e2 =>
  cases e2;obtain ⟨v,rfl,r⟩:=rr.one;obtain ⟨a,vt,rfl,ha,ra⟩:=r.lst;exact jR zt s σ H _ us Q I rus ⟨a,vt,rfl,.inl ha.sq,λp hp=>fin rfl hp ra⟩
theorem j9 {K:Rm}:∀ {ns:List Int}{vs:List V},RDs K m H vs (ns.map BT.D.int)->vs=ns.map V.int
 | [],vs,r=>by cases r;rfl
 | n::ns,vs,r=>by
  cases r with
  | cons r t=>cases r;rw[j9 t];rfl
theorem mX {K:Rm}:∀ (ns:List Int),RDs K m H (ns.map V.int) (ns.map BT.D.int)
 | []=>.nil| n::ns=>.cons (.int n) (mX ns)
theorem z9:cW X (.type "tuple") (rBi X.prog X.w X.K .tuple X0):=by
 intro zt s σ H vs us Q I rus h;obtain ⟨m,h,ws,z,h',R,rws,e,zr⟩:=h;obtain ⟨ds,d,e1,e2,⟨_,rfl,rfl⟩|⟨_,q,_⟩⟩:=jE e
 ·have rr:=fm R rws e1
  match ds,e2 with
  | [.tup xs],e2 =>
   cases e2;obtain ⟨v,rfl,r⟩:=rr.one;obtain ⟨a,vt,rfl,ha,ra⟩:=r.tup;refine jn zt s σ H _ us Q I rus ⟨a,vt,rfl,.inr ⟨ha,?_⟩⟩;cases r with
   | d r=>exact zr.here R r
  | [.lst xs],e2 =>
   cases e2;obtain ⟨v,rfl,r⟩:=rr.one;obtain ⟨a,vt,rfl,ha,ra⟩:=r.lst;exact jn zt s σ H _ us Q I rus ⟨a,vt,rfl,.inl ⟨ha.sq,λp hp=>jZ R hp ra zr⟩⟩
 cases q
noncomputable def tyD:BT.D->String
 | .non=>"NoneType"| .bl _=>"bool"| .int _=>"int"| .str _=>"str"| .tup _=>"tuple"| .lst _=>"list"
theorem DT {E:Z1->Rv->Prop}
 (I:Inv X zt σ H s) (r:RR X.K m H v d) (rv:RelV v u) (e:S7 X.K (.type (tyD d)) (.type c)=XX b) (h:∀ tk,Q (.bool b) { s with toks:=tk }) :
 ZY (RV X.prog X.w) A (call (.builtin "isinstance") [u,.type c]) Q E s:=by
 cases d with
 | non=>cases r.non;cases rv;exact TV PySem.W.kitx_none I.kIn Ul e (λz=>nomatch z) h| bl y=>cases r.bl;cases rv;exact TV PySem.W.kitx_bool I.kIn Ul e (λz=>nomatch z) h| int i=>cases r.int;obtain ⟨t,rfl⟩:=rv;exact TV PySem.W.kitx_int I.kIn Ul e (λz=>nomatch z) h| str y=>obtain ⟨rfl,_⟩:=r.str;obtain ⟨t,rfl⟩:=rv;exact TV PySem.W.kitx_str I.kIn Ul e (λz=>nomatch z) h
 | tup xs =>
  obtain ⟨a,vt,rfl,ha,_⟩:=r.tup;cases rv;obtain ⟨its,_,⟨o,h1,h2,_⟩,_⟩:=I.tuple ha;exact TV PySem.W.kitx_tuple I.kIn ⟨o,h1,h2⟩ e (λz=>nomatch z) h
 | lst xs =>
  obtain ⟨a,vt,rfl,ha,_⟩:=r.lst;cases rv;obtain ⟨_,its,n,_,_,h1⟩:=rdL I ha;exact TV PySem.W.kitx_list I.kIn ⟨_,h1,rfl⟩ e (λz=>nomatch z) h
theorem Aa (K:Rm) (t:String):S7 K (.type t) (.type t)=XX XZ:=by unfold S7;rw[if_pos (by simp)]
theorem Ab (h:rS b=XX (c,f)) (d:BT.D):BT.biD b [d]=XX (.bl (f d)):=by
 cases b<;>simp only[rS] at h<;>try contradiction
 all_goals (cases h;rfl)
theorem Ac (h:rS b=XX (c,f)) (K:Rm) (d:BT.D):S7 K (.type (tyD d)) (.type c)=XX (f d):=by
 cases b<;>simp only[rS] at h<;>try contradiction
 all_goals (cases h;cases d)
 all_goals first
  | exact Aa K _
  | (simp only[tyD];unfold S7;rw[if_neg (by decide)];unfold PySem.W.kitCls;first|rfl|kernel_rfl|decide +kernel)
end
noncomputable abbrev FT:=BT.FK->List BT.W->BT.HH->Option (BT.W×BT.HH)
inductive spF (P:Se) (w:SB) (K:Rm) (g:List BT.W->BT.HH->Option (BT.W×BT.HH)) (vs:List V) (H:Hp) (Q:VK) (E:XK):Prop where
 | mk (m:List Z0) (ws:List BT.W) (h:BT.HH) (z:BT.W) (h':BT.HH) (R:RH K m H h) (r:RWs P w K m H vs ws) (e:g ws h=XX (z,h')) (p:Post P w K m H z h' Q):spF P w K g vs H Q E
inductive tD (X:Cx) (F:FT) (G:ZZ->Option BT.W) (e:BT.E) (σ:L2.St) (H:Hp) (Q:VK):Prop where
 | mk (m:List Z0) (s:BT.Sl) (h:BT.HH) (z:BT.W) (h':BT.HH) (R:RH X.K m H h) (S:RS X.prog X.w X.K m H σ s) (q:BT.ev F G e s h=XX (z,h')) (p:Post X.prog X.w X.K m H z h' Q):tD X F G e σ H Q
inductive tDs (X:Cx) (F:FT) (G:ZZ->Option BT.W) (es:BT.Es) (σ:L2.St) (H:Hp) (Q:List V->Hp->Prop):Prop where
 | mk (m:List Z0) (s:BT.Sl) (h:BT.HH) (zs:List BT.W) (h':BT.HH) (R:RH X.K m H h) (S:RS X.prog X.w X.K m H σ s) (q:BT.evs F G es s h=XX (zs,h')) (p:∀ vs H' m',Ext m H m' H'->RH X.K m' H' h'->RWs X.prog X.w X.K m' H' vs zs->Q vs H'):tDs X F G es σ H Q
inductive tDT (X:Cx) (F:FT) (G:ZZ->Option BT.W) (e:BT.E) (σ:L2.St) (H:Hp) (Q:Bool->Hp->Prop):Prop where
 | mk (m:List Z0) (s:BT.Sl) (h:BT.HH) (b:Bool) (h':BT.HH) (R:RH X.K m H h) (S:RS X.prog X.w X.K m H σ s) (q:BT.ev F G e s h=XX (.p (.bl b),h')) (p:∀ H' m',Ext m H m' H'->RH X.K m' H' h'->Q b H'):tDT X F G e σ H Q
def rY (P:Se) (w:SB) (K:Rm) (mg:ZZ->Option Z1) (base:Heap) (k L:Nat) (g:List BT.W->BT.HH->Option (BT.W×BT.HH)):Prop :=
 ∀ (A:TR) (outer:List Env) (s:Rv) (H:Hp) (f:Z0) (us:List Z1) (vs cvs:List V) (m:List Z0) (ws:List BT.W) (cs:List BT.Cp) (h:BT.HH) (z:BT.W) (h':BT.HH) (Q:VK) (E:XK),bG k A->jN P w K mg base A outer s H->av vs us →
  RH K m H h->RWs P w K m H vs ws->BT.noC ws=XZ->iC m H f L cvs->RCs K m H cvs cs->g (ws++cs.map BT.Cp.w) h=XX (z,h')->Post P w K m H z h' Q->codeAny (RV P w) A (.call (.ref f) ⟨us,[]⟩) (CR CX0 outer P w H s Q E) s
structure LX (X:Cx) (x:ZZ):Prop where
 mem:x∈BT.dR
 ex:∃ c P,Sz X.K x=XX (c,P)/\X.env.code=.ref c/\PySem.W.CodeHd X.base c P/\∀ y∈BT.dR,∀ c2,Sz X.K y=XX (c2,P)->y=x
 ql:X.env.qual=x++".<locals>."
 bm:∃ bm ob,X.mg "__builtins__"=XX (.ref bm)/\bm≠T6/\X.base.get? bm=XX ob/\ob.cls=.type "module"/\ob.dict=XX T6/\ob.data=.plain
noncomputable def DU:List ZZ:=["len","abs","int","list","tuple","isinstance","str","bool","range","reversed","enumerate","zip","min","max","sorted","sum","all","any","set","ValueError"]
inductive OkC (P:Se) (w:SB) (K:Rm) (mg:ZZ->Option Z1) (base:Heap) (A:TR) (f:ZZ) (sp:Sp):Prop where
 | mk (fa:Z0) (fd:Tz) (ps:List ZZ) (k:Nat) (h1:mg f=XX (.ref fa)) (h2:Sd K (.ref fa)=XZ) (h3:Binds K fd ps []) (h4:bG k A) (h5:cK P w K mg base CX0 k fa fd ps sp):OkC P w K mg base A f sp
inductive OkM (P:Se) (w:SB) (K:Rm) (mg:ZZ->Option Z1) (base:Heap) (A:TR) (CX:CXT) (c m:ZZ) (sp:Sp):Prop where
 | mk (C g:Z0) (fd:Tz) (ps:List ZZ) (k:Nat) (h1:jX K c C) (h2:rA K C m g) (h3:Binds K fd ps []) (h4:bG k A) (h5:cK P w K mg base CX k g fd ps sp):OkM P w K mg base A CX c m sp
inductive OkN (P:Se) (w:SB) (K:Rm) (mg:ZZ->Option Z1) (base:Heap) (A:TR) (c:ZZ) (sp:Sp):Prop where
 | mk (C g:Z0) (fd:Tz) (ps:List ZZ) (k:Nat) (h1:jX K c C) (h2:mg c=XX (.ref C)) (h3:Mk K C g) (h4:Binds K fd ps []) (h5:bG (k+1) A) (h6:cK P w K mg base CX0 k g fd ps sp):OkN P w K mg base A c sp
structure Ok (X:Cx) (F:FT) (G:ZZ->Option BT.W) (sc:SE) (N:List ZZ):Prop where
 hsc:X.env.scope=sc
 hN:X.N=N
 nd:X.N.Nodup
 calm:bV N=XZ->X.calm=XZ
 hu:X.A.units+150 < Xf
 own:WW (RV X.prog X.w) X.A X.env X.xe
 glob:∀ x z,G x=XX z->∃ u v,X.mg x=XX u/\RelV v u/\∀ m H,RW X.prog X.w X.K m H v z
 call:∀ (f:ZZ) ws h r,F (.f f) ws h=XX r->OkC X.prog X.w X.K X.mg X.base X.A f (spF X.prog X.w X.K (F (.f f)))
 meth:∀ (c m:ZZ) ws h r,F (.m c m) ws h=XX r->OkM X.prog X.w X.K X.mg X.base X.A CX0 c m (spF X.prog X.w X.K (F (.m c m)))
 mkc:∀ (c:ZZ) ws h r,F (.m c "__init__") ws h=XX r->OkN X.prog X.w X.K X.mg X.base X.A c (spF X.prog X.w X.K (F (.m c "__init__")))
 blt:∀ x∈DU,X.mg x=XY
 lam:∀ (L:Nat) ws h r,F (.l L) ws h=XX r->∃ k,bG k X.A/\rY X.prog X.w X.K X.mg X.base k L (F (.l L))
 lamx:(∀ x,X.fn x=XZ)->∀ x,N.contains (BT.bI x)=XZ->LX X x
theorem PE.weak (h:PE X e t) (q:∀ σ H Q,t' σ H Q->t σ H Q):PE X e t':=λzt s σ H Q I hw=>h zt s σ H Q I (q _ _ _ hw)
theorem PT.weak (h:PT X e t) (q:∀ σ H Q,t' σ H Q->t σ H Q):PT X e t':=λzt s σ H Q I hw=>h zt s σ H Q I (q _ _ _ hw)
theorem PW.weak (h:PW X e t) (q:∀ σ H Q,t' σ H Q->t σ H Q):PW X e t':=λwh zt s σ H Q I hw=>h wh zt s σ H Q I (q _ _ _ hw)
theorem PA.weak (h:PA X es t) (q:∀ σ H Q,t' σ H Q->t σ H Q):PA X es t':=λpos zt s σ H Q I hw=>h pos zt s σ H Q I (q _ _ _ hw)
theorem ai (h:noStar e=XZ):RX (e::es) env=(X0,eval e env)::RX es env:=by cases e<;>first|rfl|cases h
theorem Ad (h:jW b=XZ):vo b:=λo i=>by cases b<;>first|rfl|cases h
theorem kg (h:aC o=XZ):Vs o name env (eval o env)=eval o env:=by
 cases o with
 | Call fn as ks p =>
  cases fn with
  | Attribute _ _ _=>rfl| _=>cases h
 | _=>first|rfl|cases h
noncomputable def ao:List Rt->Bool
 | []=>XZ| e::es=>noStar e&&ao es
theorem aH:∀ {es:List Rt},ao es=XZ->(TH pos (RX es env)).any (·.1)=X0
 | [],_=>rfl
 | e::es,h=>by simp only[ao,Rn] at h;rw[ai h.1];show (X0||(TH pos (RX es env)).any (·.1))=X0;rw[aH h.2];rfl
theorem kh:∀ {es:List Rt},ao es=XZ->(TH pos (RX es env)).all (λx=>!x.1)=XZ
 | [],_=>rfl
 | e::es,h=>by simp only[ao,Rn] at h;rw[ai h.1];show (!X0&&(TH pos (RX es env)).all (λx=>!x.1))=XZ;rw[kh h.2];rfl
noncomputable def Mb:Tq->Prop
 | .es _ xs=>ao xs=XZ| _=>True
theorem Ae {sc:SE}{N:List ZZ}{t:Tq} (h:CQ sc N t):Mb t:=by
 induction h with
 | es_nil=>exact rfl
 | es_cons hs _ _ _ ih =>
  show (noStar _&&ao _)=XZ;rw[Rn];exact ⟨hs,ih⟩
 | _=>exact Ul
theorem cZ {sc:SE}{N:List ZZ}{as:BT.Es}{es:List Rt} (h:CEs sc N as es):ao es=XZ:=Ae h
noncomputable def noM:Tq->Prop
 | .es (.cons _ _) []=>False| _=>True
theorem Ir {sc:SE}{N:List ZZ}{t:Tq} (h:CQ sc N t):noM t:=by cases h<;>exact Ul
theorem jF {sc:SE}{N:List ZZ}{a:BT.E}{r:BT.Es} (h:CEs sc N (.cons a r) []):False:=Ir h
section
theorem mY (he:∀ s h,BT.ev F G e s h=BT.bnd (BT.ev F G a s h) (BT.k2 (BT.ev F G b s) f)) (σ:L2.St) (H:Hp) (Q:VK) (q:tD X F G e σ H Q) :
 tOp (rOp X.prog X.w X.K f) (tD X F G a) (tD X F G b) σ H Q:=by
 obtain ⟨m,s,h,z,h',R,S,ee,zr⟩:=q;rw[he] at ee;obtain ⟨x,h1,e1,e2⟩:=ak ee;simp only[BT.k2] at e2;obtain ⟨y,h2,e3,e4⟩:=ak e2;refine ⟨m,s,h,x,h1,R,S,e1,λv H1 m1 x1 R1 r1=>?_⟩;refine ⟨m1,s,h1,y,h2,R1,S.ext x1,e3,λu H2 m2 x2 R2 r2=>?_⟩;exact ⟨m2,h2,x,y,z,h',R2,r1.ext x2,r2,e4,λw' H3 m3 x3 R3 r3=>zr w' H3 m3 ((x1.trans x2).trans x3) R3 r3⟩
theorem Af (h:∀ σ H Q,tD X F G e σ H Q->t σ H Q) (σ:L2.St) (H:Hp) (Q:Bool->Hp->Prop) (q:tDT X F G e σ H Q):Gf t σ H Q:=by
 obtain ⟨m,s,h0,b,h',R,S,ee,zr⟩:=q;refine h σ H _ ⟨m,s,h0,_,h',R,S,ee,λv H' m' x R' r=>?_⟩;cases r with
 | p r=>cases r;exact ⟨b,rfl,zr H' m' x R'⟩
theorem opB (h:Gu o op=XZ):OpR X (Tc op) (rOp X.prog X.w X.K (BT.nZ o)):=by rw[of_decide_eq_true h];cases o;exact Ic;exact Ie;exact Ii;exact Ig;exact DO;exact Ih
theorem Gy:∀ {es:List (ZZ×V)}{kvs:List (ZZ×BT.D)}{K:Rm},RDk K es kvs->KV (es.map λq=>((Sum.inr q.1:Key),q.2)) vs->(valueAt vs (Sum.inr k)).isSome=(BT.dH k kvs).isSome:=by
 intro es
 induction es generalizing vs with
 | nil =>
  intro kvs K r q;cases r;cases q;rfl
 | cons p es ih =>
  intro kvs K r q;cases r with
  | @cons x v dd _ kvs r t =>
   cases q with
   | @cons p z l1 l2 q1 q2 =>
    obtain ⟨z1,z2⟩:=z;obtain ⟨q11,q12⟩:=q1;simp only at q11 q12;subst q11;rw[BT.dH]
    by_cases c:k=x
    ·subst c;simp[valueAt]
    ·rw[if_neg c];have ne:¬ ((Sum.inr x:Key)=Sum.inr k):=λz=>c (Sum.inr.inj z).symm;have:=ih t q2;simp only[valueAt] at this ⊢;rw[WX (by simpa using ne)];exact this
theorem opC (O:Ok X F G sc N) (h:L0 o op=XZ):OpR X (SK op) (rOp X.prog X.w X.K (BT.jV o)):=by
 rw[of_decide_eq_true h];cases o;exact L4 O.hu;exact L5 O.hu;exact L6;exact L7;exact L8;exact Ma;exact Ij;exact DP
 ·refine Ik O.hu ?_;intro kvs x b m H v u v' u' zt σ s Q I rv ru rx rk e q;cases x with
  | p d =>
   cases d<;>first|exact ay e|skip
   obtain rfl:=Ry e;cases rk with
   | @k a es _ kd rk =>
    cases ru;cases rx with
    | p rx =>
     cases rx with
     | str x ok =>
      obtain ⟨t,rfl⟩:=rv;obtain ⟨hm,vs,kv,dd⟩:=kd;have D:=dd s.heap I.kIn;refine wpAny_in_of (knd:=aU X.prog X.w) (fH _ _ _ t) hm D.mapOf ?_;rw[Gy rk kv];exact ⟨.bl _,H,I.tok _,rfl,q⟩
  | _=>exact ay e
 ·refine DQ O.hu ?_;intro kvs x b m H v u v' u' zt σ s Q I rv ru rx rk e q;cases x with
  | p d =>
   cases d<;>first|exact ay e|skip
   obtain rfl:=Ry e;cases rk with
   | @k a es _ kd rk =>
    cases ru;cases rx with
    | p rx =>
     cases rx with
     | str x ok =>
      obtain ⟨t,rfl⟩:=rv;obtain ⟨hm,vs,kv,dd⟩:=kd;have D:=dd s.heap I.kIn;refine wpAny_notIn_of (knd:=aU X.prog X.w) (fH _ _ _ t) hm D.mapOf ?_;rw[Gy rk kv];exact ⟨.bl _,H,I.tok _,rfl,q⟩
  | _=>exact ay e
end
section
variable {X:Cx}{F:FT}{G:ZZ->Option BT.W}{sc:SE}{N:List ZZ}
theorem DV (O:Ok X F G sc N) (x:ZZ):X.env.kindOf x=sc.names.lookup x:=by rw[← O.hsc];rfl
theorem bJ (h:aB x=XZ):(x==("__debug__":ZZ))=X0/\(x==("__classdict__":ZZ))=X0/\x≠"__name__":=by simp only[aB,Rn,T9] at h;exact ⟨h.1.1,h.1.2,λe=>by rw[e] at h;simp at h⟩
theorem aM (O:Ok X F G sc N) (h:aA sc x=XZ):Gl X x:=by show X.env.kindOf x=_;rw[DV O];exact eq_of_beq h
theorem Ag (O:Ok X F G sc N) (h:lF sc x=XZ):Vis X.env.scope x:=by
 rw[O.hsc];unfold lF at h;unfold Vis;cases e:sc.names.lookup x with
 | none=>rw[e] at h;cases h
 | some k=>rw[e] at h;cases k<;>first|(exact .inl rfl)|(exact .inr (.inl rfl))|(exact .inr (.inr rfl))|cases h
theorem qf (O:Ok X F G sc N) (h2:N[i]?=XX y) (h3:lF sc y=XZ) (h4:aB y=XZ):PE X (.Name y pos) (tD X F G (.var i)):=by
 obtain ⟨d1,d2,_⟩:=bJ h4;refine PE.weak (tR (i:=i) (by rw[O.hN];exact h2) (Ag O h3) d1 d2) fun σ H Q q=>?_;obtain ⟨m,s,h,z,h',R,S,ee,zr⟩:=q;simp only[BT.ev] at ee;split at ee
 ·rename_i w e;cases ee;obtain ⟨v,hv,r⟩:=S.get i _ e;exact ⟨v,hv,zr v H m (.refl _ _) R r⟩
 cases ee
theorem DW (h:Gv d c=XZ):PE X (.Constant c k pos) (tD X F G (.cst d)):=by
 have fin:∀ {v:V},(∀ m H,RD X.K m H v d)->∀ σ H Q,tD X F G (.cst d) σ H Q->tC v σ H Q:=λr σ H Q q=>by obtain ⟨m,s,h,z,h',R,S,ee,zr⟩:=q;simp only[BT.ev] at ee;cases ee;exact zr _ H m (.refl _ _) R (.p (r m H))
 cases d<;>cases c<;>first|(cases h;done)|skip
 exact PE.weak GS (fin λ_ _=>.non);cases eq_of_beq h;exact PE.weak Kx (fin λ_ _=>.bl _);cases eq_of_beq h;exact PE.weak tS (fin λ_ _=>.int _)
 ·have h:=Bool.and_eq_true_iff.mp h;cases eq_of_beq h.1;exact PE.weak GT (fin λ_ _=>.str _ h.2)
theorem DX (O:Ok X F G sc N) (h2:aA sc y=XZ) (h3:aB y=XZ):PE X (.Name y pos) (tD X F G (.glo y)):=by obtain ⟨d1,d2,_⟩:=bJ h3;intro zt s σ H Q I q;obtain ⟨m,s',h,z,h',R,S,ee,zr⟩:=q;simp only[BT.ev] at ee;obtain ⟨w,e1,e2⟩:=aF ee;cases e2;obtain ⟨u,v,hm,r,rw⟩:=O.glob _ _ e1;exact pK (aM O h2) hm r d1 zt s σ H Q I (zr v H m (.refl _ _) R (rw m H))
theorem Gz (he:∀ s h,BT.ev F G e s h=BT.bnd (BT.ev F G a s h) k) (q:tD X F G e σ H Q)
 (h1:∀ m h x z h' v H1,RH X.K m H1 h->RW X.prog X.w X.K m H1 v x->k x h=XX (z,h')->Post X.prog X.w X.K m H1 z h' Q->R' v H1):tD X F G a σ H R':=by
 obtain ⟨m,s,h,z,h',R,S,ee,zr⟩:=q;rw[he] at ee;obtain ⟨x,g,e1,e2⟩:=ak ee;exact ⟨m,s,h,x,g,R,S,e1,λv H1 m1 x1 R1 r1=>h1 m1 g x z h' v H1 R1 r1 e2 λw' H3 m3 x3 R3 r3=>zr w' H3 m3 (x1.trans x3) R3 r3⟩
theorem gQ (he:∀ s h,BT.ev F G e s h=BT.bnd (BT.evs F G as s h) k) (q:tD X F G e σ H Q)
 (h1:∀ m h xs z h' vs H1,RH X.K m H1 h->RWs X.prog X.w X.K m H1 vs xs->k xs h=XX (z,h')->Post X.prog X.w X.K m H1 z h' Q->R' vs H1):tDs X F G as σ H R':=by
 obtain ⟨m,s,h,z,h',R,S,ee,zr⟩:=q;rw[he] at ee;obtain ⟨x,g,e1,e2⟩:=ak ee;exact ⟨m,s,h,x,g,R,S,e1,λv H1 m1 x1 R1 r1=>h1 m1 g x z h' v H1 R1 r1 e2 λw' H3 m3 x3 R3 r3=>zr w' H3 m3 (x1.trans x3) R3 r3⟩
theorem ty_list (R:RH X.K m H h) (r:RW X.prog X.w X.K m H v (.r n)) (ok:BT.n8 (.r n) h=XZ):tyV X.K "list" v H:=by
 cases r with
 | @r a _ hn =>
  obtain ⟨xs,e⟩:=Option.isSome_iff_exists.mp ok;obtain ⟨vs,e,_⟩:=R.cell n a xs hn e;exact .inl ⟨rfl,vs,.inl (.inl e)⟩
theorem vH (e:BT.kMe m ea x h=XX r):BT.n8 x h=XZ/\BT.bnd (ea h) (BT.meW m x)=XX r:=by unfold BT.kMe at e;split at e;rename_i c;exact ⟨c,e⟩;cases e
theorem Pz (hm:m=.append\/m=.pop\/m=.extend) (e:BT.meW m x ws h=XX (z,h')):∃ n,x=.r n:=by
 cases x with
 | r n=>exact ⟨n,rfl⟩
 | p d =>
  rcases hm with rfl|rfl|rfl<;>cases ws<;>rw[rX] at e<;>(split at e<;>(try cases e))<;>exact ay e
 | k q =>
  rcases hm with rfl|rfl|rfl<;>cases ws<;>(first|(cases e;done)|simp[BT.meW] at e)
 | x _ =>
  rcases hm with rfl|rfl|rfl<;>cases ws<;>(first|(cases e;done)|simp[BT.meW] at e)
 | c _ _ =>
  rcases hm with rfl|rfl|rfl<;>cases ws<;>(first|(cases e;done)|simp[BT.meW] at e)
 | o q =>
  rcases hm with rfl|rfl|rfl<;>cases ws<;>(first|(cases e;done)|simp[BT.meW] at e)
end
section
theorem qh {X:Cx}{e a:BT.E}{k:BT.Sl->BT.W->BT.HH->Option (BT.W×BT.HH)} (he:∀ s h,BT.ev F G e s h=BT.bnd (BT.ev F G a s h) (k s)) {σ:L2.St}{H:Hp}{Q:VK} (q:tD X F G e σ H Q) {R':V->Hp->Prop}
 (h1:∀ m s h x z h' v H1,RH X.K m H1 h->RS X.prog X.w X.K m H1 σ s->RW X.prog X.w X.K m H1 v x->k s x h=XX (z,h')->Post X.prog X.w X.K m H1 z h' Q->R' v H1):tD X F G a σ H R':=by
 obtain ⟨m,s,h,z,h',R,S,ee,zr⟩:=q;rw[he] at ee;obtain ⟨x,g,e1,e2⟩:=ak ee;exact ⟨m,s,h,x,g,R,S,e1,λv H1 m1 x1 R1 r1=>h1 m1 s g x z h' v H1 R1 (S.ext x1) r1 e2 λw' H3 m3 x3 R3 r3=>zr w' H3 m3 (x1.trans x3) R3 r3⟩
theorem Iu {X:Cx}{e a:BT.E}{k:BT.Sl->Bool->BT.HH->Option (BT.W×BT.HH)}{kk:BT.Sl->BT.W->BT.HH->Option (BT.W×BT.HH)} (he:∀ s h,BT.ev F G e s h=BT.bnd (BT.ev F G a s h) (kk s))
 (hk:∀ s x h r,kk s x h=XX r->∃ b,x=.p (.bl b)/\k s b h=XX r) {σ:L2.St}{H:Hp}{Q:VK} (q:tD X F G e σ H Q) {R':Bool->Hp->Prop}
 (h1:∀ m s h b z h' H1,RH X.K m H1 h->RS X.prog X.w X.K m H1 σ s->k s b h=XX (z,h')->Post X.prog X.w X.K m H1 z h' Q->R' b H1):tDT X F G a σ H R':=by
 obtain ⟨m,s,h,z,h',R,S,ee,zr⟩:=q;rw[he] at ee;obtain ⟨x,g,e1,e2⟩:=ak ee;obtain ⟨b,rfl,e3⟩:=hk _ _ _ _ e2;exact ⟨m,s,h,b,g,R,S,e1,λH1 m1 x1 R1=>h1 m1 s g b z h' H1 R1 (S.ext x1) e3 λw' H3 m3 x3 R3 r3=>zr w' H3 m3 (x1.trans x3) R3 r3⟩
theorem mZ (r:RW P w K m H v (.p (.bl b))):v=.bl b:=by cases r with|p r=>cases r;rfl
theorem vI (e:BT.DG eb x h=XX r):∃ b,x=.p (.bl b)/\(if b=XZ then eb h else XX (.p (.bl X0),h))=XX r:=by
 cases x with
 | p d =>
  cases d<;>simp only[BT.DG] at e<;>try contradiction
  exact ⟨_,rfl,e⟩
 | _=>cases e
theorem Ah (e:BT.kOr eb x h=XX r):∃ b,x=.p (.bl b)/\(if b=XZ then XX (.p (.bl XZ),h) else eb h)=XX r:=by
 cases x with
 | p d =>
  cases d<;>simp only[BT.kOr] at e<;>try contradiction
  exact ⟨_,rfl,e⟩
 | _=>cases e
theorem DY (e:BT.DH ea eb x h=XX r):∃ b,x=.p (.bl b)/\(if b=XZ then ea h else eb h)=XX r:=by
 cases x with
 | p d =>
  cases d<;>simp only[BT.DH] at e<;>try contradiction
  exact ⟨_,rfl,e⟩
 | _=>cases e
theorem vJ (e:BT.DF x h=XX r):∃ b,x=.p (.bl b)/\r=(.p (.bl (!b)),h):=by
 cases x with
 | p d =>
  cases d<;>simp only[BT.DF] at e<;>try contradiction
  cases e;exact ⟨_,rfl,rfl⟩
 | _=>cases e
theorem DZ (e:BT.DE x h=XX r):∃ i,x=.p (.int i)/\r=(.p (.int (-i)),h):=by
 cases x with
 | p d =>
  cases d<;>simp only[BT.DE] at e<;>try contradiction
  cases e;exact ⟨_,rfl,rfl⟩
 | _=>cases e
theorem vK {X:Cx}{a b:BT.E} (σ:L2.St) (H:Hp) (Q:VK) (q:tD X F G (.and a b) σ H Q):F9 (tD X F G a) (tD X F G b) σ H Q:=by
 refine qh (k:=λs=>BT.DG (BT.ev F G b s)) (λs h=>by simp only[BT.ev]) q λm s h x z h' v H1 R S r e zr=>?_;obtain ⟨c,rfl,e2⟩:=vI e;refine ⟨c,mZ r,?_⟩;cases c with
 | true=>rw[if_pos rfl] at e2 ⊢;exact ⟨m,s,h,z,h',R,S,e2,zr⟩| false=>rw[if_neg (by decide)] at e2 ⊢;cases e2;exact zr.here R (.bl _)
theorem Ai {X:Cx}{a b:BT.E} (σ:L2.St) (H:Hp) (Q:VK) (q:tD X F G (.or a b) σ H Q):KB (tD X F G a) (tD X F G b) σ H Q:=by
 refine qh (k:=λs=>BT.kOr (BT.ev F G b s)) (λs h=>by simp only[BT.ev]) q λm s h x z h' v H1 R S r e zr=>?_;obtain ⟨c,rfl,e2⟩:=Ah e;refine ⟨c,mZ r,?_⟩;cases c with
 | true=>rw[if_pos rfl] at e2 ⊢;cases e2;exact zr.here R (.bl _)| false=>rw[if_neg (by decide)] at e2 ⊢;exact ⟨m,s,h,z,h',R,S,e2,zr⟩
theorem vL (σ:L2.St) (H:Hp) (Q:Bool->Hp->Prop) (q:tDT X F G (.and a b) σ H Q):Kz (tDT X F G a) (tDT X F G b) σ H Q:=by
 obtain ⟨m,s,h,c,h',R,S,ee,zr⟩:=q;simp only[BT.ev] at ee;obtain ⟨x,g,e1,e2⟩:=ak ee;obtain ⟨d,rfl,e3⟩:=vI e2;refine ⟨m,s,h,d,g,R,S,e1,λH1 m1 x1 R1=>?_⟩;cases d with
 | true=>rw[if_pos rfl] at e3 ⊢;exact ⟨m1,s,g,c,h',R1,S.ext x1,e3,λH2 m2 x2 R2=>zr H2 m2 (x1.trans x2) R2⟩| false=>rw[if_neg (by decide)] at e3 ⊢;cases e3;exact zr H1 m1 x1 R1
theorem Aj (σ:L2.St) (H:Hp) (Q:Bool->Hp->Prop) (q:tDT X F G (.or a b) σ H Q):tOr (tDT X F G a) (tDT X F G b) σ H Q:=by
 obtain ⟨m,s,h,c,h',R,S,ee,zr⟩:=q;simp only[BT.ev] at ee;obtain ⟨x,g,e1,e2⟩:=ak ee;obtain ⟨d,rfl,e3⟩:=Ah e2;refine ⟨m,s,h,d,g,R,S,e1,λH1 m1 x1 R1=>?_⟩;cases d with
 | true=>rw[if_pos rfl] at e3 ⊢;cases e3;exact zr H1 m1 x1 R1| false=>rw[if_neg (by decide)] at e3 ⊢;exact ⟨m1,s,g,c,h',R1,S.ext x1,e3,λH2 m2 x2 R2=>zr H2 m2 (x1.trans x2) R2⟩
theorem D0 (σ:L2.St) (H:Hp) (Q:Bool->Hp->Prop) (q:tDT X F G (.not a) σ H Q):KA (tDT X F G a) σ H Q:=by obtain ⟨m,s,h,c,h',R,S,ee,zr⟩:=q;simp only[BT.ev] at ee;obtain ⟨x,g,e1,e2⟩:=ak ee;obtain ⟨d,rfl,e3⟩:=vJ e2;cases e3;exact ⟨m,s,h,d,h',R,S,e1,λH1 m1 x1 R1=>zr H1 m1 x1 R1⟩
theorem D3 {X:Cx}{a:BT.E} (σ:L2.St) (H:Hp) (Q:VK) (q:tD X F G (.not a) σ H Q):Ga (tD X F G a) σ H Q:=by refine qh (k:=λs=>BT.DF) (λs h=>by simp only[BT.ev]) q λm s h x z h' v H1 R S r e zr=>?_;obtain ⟨c,rfl,e2⟩:=vJ e;cases e2;exact ⟨c,mZ r,zr.here R (.bl _)⟩
theorem Iv {X:Cx}{c a b:BT.E} (σ:L2.St) (H:Hp) (Q:VK) (q:tD X F G (.ite c a b) σ H Q):tIf (tDT X F G c) (tD X F G a) (tD X F G b) σ H Q:=by
 refine Iu (k:=λs t h=>if t=XZ then BT.ev F G a s h else BT.ev F G b s h) (kk:=λs=>BT.DH (BT.ev F G a s) (BT.ev F G b s)) (λs h=>by simp only[BT.ev]) (λs x h r e=>DY e) q λm s h t z h' H1 R S e zr=>?_;cases t with
 | true=>rw[if_pos rfl] at e ⊢;exact ⟨m,s,h,z,h',R,S,e,zr⟩| false=>rw[if_neg (by decide)] at e ⊢;exact ⟨m,s,h,z,h',R,S,e,zr⟩
theorem Iw {X:Cx}{a:BT.E} (σ:L2.St) (H:Hp) (Q:VK) (q:tD X F G (.neg a) σ H Q):tUn (rU λi=>.int (-i)) (tD X F G a) σ H Q:=by refine qh (k:=λs=>BT.DE) (λs h=>by simp only[BT.ev]) q λm s h x z h' v H1 R S r e zr=>?_;obtain ⟨c,rfl,e2⟩:=DZ e;cases e2;cases r with|p r=>cases r;exact ⟨c,rfl,zr.here R (.int _)⟩
theorem Iz {lo:BT.Es} (hl:∀ σ H (Q:Option Int->Hp->Prop),(∃ m s h l zs h',RH X.K m H h/\RS X.prog X.w X.K m H σ s/\BT.evs F G lo s h=XX (zs,h')/\(BT.aP zs).bind BT.pR=XX l/\∀ H' m',Ext m H m' H'->RH X.K m' H' h'->Q l H')->tl σ H Q)
 (hh:∀ σ H (Q:Option Int->Hp->Prop),(∃ m s h l zs h',RH X.K m H h/\RS X.prog X.w X.K m H σ s/\BT.evs F G hi s h=XX (zs,h')/\(BT.aP zs).bind BT.pR=XX l/\∀ H' m',Ext m H m' H'->RH X.K m' H' h'->Q l H')->th σ H Q)
 (σ:L2.St) (H:Hp) (Q:VK) (q:tD X F G (.slc a lo hi) σ H Q):tSl (rSl X.prog X.w X.K) (tD X F G a) tl th σ H Q:=by
 obtain ⟨m,s,h,z,h',R,S,ee,zr⟩:=q;simp only[BT.ev] at ee;obtain ⟨x,h1,e1,e2⟩:=ak ee;simp only[BT.Lv] at e2;obtain ⟨ls,h2,e3,e4⟩:=ak e2;simp only[BT.Lu] at e4;obtain ⟨us,h3,e5,e6⟩:=ak e4;unfold BT.Ls at e6;cases g1:BT.rd x h3 with
 | none=>rw[g1] at e6;cases e6
 | some d =>
  cases g2:(BT.aP ls).bind BT.pR with
  | none=>rw[g1,g2] at e6;cases e6
  | some l =>
   cases g3:(BT.aP us).bind BT.pR with
   | none=>rw[g1,g2,g3] at e6;cases e6
   | some u =>
    rw[g1,g2,g3] at e6;simp only at e6;obtain ⟨b,e7,e8⟩:=aF e6;cases e8;refine ⟨m,s,h,x,h1,R,S,e1,λv H1 m1 x1 R1 r1=>hl σ H1 _ ⟨m1,s,h1,l,ls,h2,R1,S.ext x1,e3,g2,λH2 m2 x2 R2=>hh σ H2 _ ⟨m2,s,h2,u,us,h',R2,(S.ext x1).ext x2,e5,g3,λH3 m3 x3 R3=>?_⟩⟩⟩;exact ⟨m3,h',x,d,b,R3,(r1.ext x2).ext x3,g1,e7,λv5 H5 m5 x5 R5 r5=>zr v5 H5 m5 (((x1.trans x2).trans x3).trans x5) R5 r5⟩
end
section
theorem vM (hs:sp=spF X.prog X.w X.K (F (.f f))) (q:tD X F G (.call f as) σ H Q):vf sp [] E0 (tDs X F G as) σ H Q:=by subst hs;refine gQ (k:=λws h=>F (.f f) ws h) (λs h=>by simp only[BT.ev]) q λm h xs z h' vs H1 R r e zr=>?_;rw[R8];exact ⟨m,xs,h,z,h',R,r,e,zr⟩
theorem gR (q:tDs X F G .nil σ H Q):zk σ H Q:=by obtain ⟨m,s,h,zs,h',R,S,ee,zr⟩:=q;simp only[BT.evs] at ee;cases ee;exact zr [] H m (.refl _ _) R .nil
theorem Ak (O:Ok X F G sc N) (hg:aA sc f=XZ) (hn:aB f=XZ) (hc:CEs sc N as es) (ha:PA X es (tDs X F G as)) :
 PE X (.Call (.Name f p) es [] pos) (tD X F G (.call f as)):=by
 have hst:=cZ hc;intro zt s σ H Q I q;have q0:=q;obtain ⟨m,s',h,z,h',R,S,ee,zr⟩:=q;simp only[BT.ev] at ee;obtain ⟨ws,h1,e1,e2⟩:=ak ee;obtain ⟨fa,fd,ps,k,hm,hk,hb,hr,ok⟩:=O.call _ _ _ _ e2;cases es with
 | nil =>
  cases as with
  | cons a r=>exact (jF hc).elim| nil=>exact (PE.weak (rB ok hr (aM O hg) hm hk hb .nil mK (bJ hn).1) (fun σ H Q z=>gR (vM (X:=X) rfl z))) zt s σ H Q I q0
 | cons e es =>
  simp only[ao,Rn] at hst;exact (PE.weak (vh ok hr (aM O hg) hm hk hb .nil mK ha (bJ hn).1 (ai hst.1) (aH hst.2)) (fun σ H Q z=>vM rfl z)) zt s σ H Q I q0
theorem kR {id:String} (pa:PlainAttrs T) (slot:Slot T name id)
 (hty:typeOf (.builtin id)=pure (.type "method_descriptor")) (hm:MtR X id (rMe X.prog X.w X.K me)) (hb:aC oe=XZ) (hl:(apos.endLine==cpos.line)=XZ) (hlen:es.length < 20) (ho:PE X oe (tD X F G o)) (hc:CEs sc N as es) (ha:PA X es (tDs X F G as))
 (ty:∀ (m:List Z0) (h h2:BT.HH) (H:Hp) (v:V) (x:BT.W) ws r,RH X.K m H h->RW X.prog X.w X.K m H v x->BT.n8 x h=XZ->BT.meW me x ws h2=XX r->(∃ σ s,RS X.prog X.w X.K m H σ s/\∃ h0,BT.ev F G o s h0=XX (x,h))->tyV X.K T v H) :
 PE X (.Call (.Attribute oe name apos) es [] cpos) (tD X F G (.me me o as)):=by
 have hst:=cZ hc;have key:∀ σ H Q,tD X F G (.me me o as) σ H Q->tBM X.K T (rMe X.prog X.w X.K me) (tD X F G o) (tDs X F G as) σ H Q:=by intro σ H Q q;obtain ⟨m,s,h,z,h',R,S,ee,zr⟩:=q;simp only[BT.ev] at ee;obtain ⟨x,h1,e1,e2⟩:=ak ee;obtain ⟨ok,e2⟩:=vH e2;obtain ⟨ws,h2,e3,e4⟩:=ak e2;refine ⟨m,s,h,x,h1,R,S,e1,λv H1 m1 x1 R1 r1=>⟨ty m1 h1 h2 H1 v x ws _ R1 r1 ok e4 ⟨σ,s,S.ext x1,h,e1⟩,m1,s,h1,ws,h2,R1,S.ext x1,e3,λvs H2 m2 x2 R2 r2=>?_⟩⟩;exact ⟨m2,h2,x,ws,z,h',R2,r1.ext x2,r2,e4,λv5 H5 m5 x5 R5 r5=>zr v5 H5 m5 ((x1.trans x2).trans x5) R5 r5⟩
 cases es with
 | nil =>
  cases as with
  | cons a r=>exact (jF hc).elim
  | nil =>
   refine PE.weak (Hy pa slot hty hm ho (kg hb) hl) fun σ H Q q=>?_;obtain ⟨m,s,h,z,h',R,S,ee,zr⟩:=key σ H Q q;exact ⟨m,s,h,z,h',R,S,ee,λv H1 m1 x1 R1 r1=>⟨(zr v H1 m1 x1 R1 r1).1,gR (zr v H1 m1 x1 R1 r1).2⟩⟩
 | cons e es =>
  simp only[ao,Rn] at hst;refine PE.weak (Gk pa slot hty hm ho ha (kg hb) ?_ hl (ai hst.1) (aH hst.2)) key;rw[kh (es:=e::es) (by simp only[ao,Rn];exact hst)];have h30:decide ((e::es).length+([]:List Wy).length+(if ([]:List Wy).isEmpty then 0 else 1) < 30)=XZ:=decide_eq_true (by
   simp only[R6,SY,List.isEmpty_nil,if_true] at hlen ⊢;lia)
  rw[h30];rfl
theorem lH (q:tD X F G (.bi b mu as) σ H Q):tCB (rBi X.prog X.w X.K b mu) (tDs X F G as) σ H Q:=by refine gQ (k:=λws h=>BT.kBi b mu ws h) (λs h=>by simp only[BT.ev]) q λm h xs z h' vs H1 R r e zr=>?_;exact ⟨m,h,xs,z,h',R,r,e,zr⟩
theorem IA (O:Ok X F G sc N) (hu:bV N=XZ) (hb:Gw b mu x=XZ) (hg:aA sc x=XZ) (hst:ao (e::es)=XZ) (ha:PA X (e::es) (tDs X F G as)) :
 PE X (.Call (.Name x p) (e::es) [] pos) (tD X F G (.bi b mu as)):=by
 simp only[ao,Rn] at hst;have hx:zS b mu=XX x:=eq_of_beq hb;have hB:=O.blt;cases b<;>cases mu<;>first|(cases hx;done)|(change XX _=XX _ at hx)
 all_goals (cases hx)
 exact PE.weak (fh Io (aM O hg) (hB _ (by decide)) PySem.boot_len ha (by decide) (by decide) (ai hst.1) (aH hst.2)) (fun σ H Q z=>lH z);exact PE.weak (fh Ip (aM O hg) (hB _ (by decide)) (by decide +kernel) ha (by decide) (by decide) (ai hst.1) (aH hst.2)) (fun σ H Q z=>lH z);exact PE.weak (i9 Iq (aM O hg) (hB _ (by decide)) (by decide +kernel) ha (by decide) (by decide) (ai hst.1) (aH hst.2)) (fun σ H Q z=>lH z);exact PE.weak (i9 vG (aM O hg) (hB _ (by decide)) (by decide +kernel) ha (by decide) (by decide) (ai hst.1) (aH hst.2)) (fun σ H Q z=>lH z);exact PE.weak (i9 vG (aM O hg) (hB _ (by decide)) (by decide +kernel) ha (by decide) (by decide) (ai hst.1) (aH hst.2)) (fun σ H Q z=>lH z);exact PE.weak (i9 z9 (aM O hg) (hB _ (by decide)) (by decide +kernel) ha (by decide) (by decide) (ai hst.1) (aH hst.2)) (fun σ H Q z=>lH z)
theorem yd (hb:rS b=XX (c,f)):cW X (.builtin "isinstance") (λvs H Q=>∃ v,vs=[v,.ty c]/\rBi X.prog X.w X.K b X0 [v] H Q):=by
 intro zt s σ H vs us Q I rus h;obtain ⟨v,rfl,m,h,ws,z,h',R,rws,e,zr⟩:=h;obtain ⟨u,u2,rfl,ru,ru2⟩:=rus.two;cases ru2;obtain ⟨ds,d,e1,e2,⟨_,rfl,rfl⟩|⟨_,q,_⟩⟩:=jE e
 ·have rr:=fm R rws e1;cases rr with
  | cons r t =>
   cases t;rw[Ab hb] at e2;cases e2;exact DT I r ru (Ac hb X.K _) λtk=>⟨.bl _,H,I.tok tk,rfl,zr.here R (.bl _)⟩
 cases q
theorem Al (O:Ok X F G sc N) (hb:rS b=XX (c,f)) (hg:aA sc "isinstance"=XZ) (hg2:aA sc (RG c)=XZ) (hst:noStar e=XZ) (ha:PE X e (tD X F G a)) :
 PE X (.Call (.Name "isinstance" p) [e,.Name (RG c) p2] [] pos) (tD X F G (.bi b X0 (.cons a .nil))):=by
 have hB:=O.blt;have hc:PE X (.Name (RG c) p2) (tC (.ty c)):=by
  cases b<;>simp only[rS] at hb<;>try contradiction
  all_goals (cases hb)
  exact i8 (aM O hg2) (hB _ (by decide)) (u:=.type "int") (by decide +kernel) rfl (by decide) (by decide);exact i8 (aM O hg2) (hB _ (by decide)) (u:=.type "bool") (by decide +kernel) rfl (by decide) (by decide);exact i8 (aM O hg2) (hB _ (by decide)) (u:=.type "str") (by decide +kernel) rfl (by decide) (by decide);exact i8 (aM O hg2) (hB _ (by decide)) (u:=.type "tuple") (by decide +kernel) rfl (by decide) (by decide);exact i8 (aM O hg2) (hB _ (by decide)) (u:=.type "list") (by decide +kernel) rfl (by decide) (by decide)
 refine PE.weak (fh (yd hb) (aM O hg) (hB _ (by decide)) (by decide +kernel) (dg ha (dg hc jw) (ai hst)) (by decide) (by decide) (ai hst) rfl) fun σ H Q q=>?_;obtain ⟨m,s,h,z,h',R,S,ee,zr⟩:=q;simp only[BT.ev,BT.evs] at ee;obtain ⟨ws,h1,e1,e2⟩:=ak ee;obtain ⟨x,h2,e3,e4⟩:=ak e1;simp only[BT.mR,BT.bH,BT.jy] at e4;cases e4;refine ⟨m,s,h,x,h1,R,S,e3,λv H1 m1 x1 R1 r1=>?_⟩;exact ⟨v,rfl,m1,h1,[x],z,h',R1,.cons r1 .nil,e2,λv5 H5 m5 x5 R5 r5=>zr v5 H5 m5 (x1.trans x5) R5 r5⟩
theorem IB (σ:L2.St) (H:Hp) (Q:VK) (q:tD X F G (.tup as) σ H Q):K3 (tDs X F G as) σ H Q:=by
 refine gQ (k:=λws h=>BT.HL ws h) (λs h=>by simp only[BT.ev]) q λm h xs z h' vs H1 R r e zr=>?_;unfold BT.HL at e;cases g:BT.aP xs with
 | none=>rw[g] at e;cases e
 | some ds =>
  rw[g] at e;simp only at e;split at e
  ·rename_i c;cases e;have rd:=r.pure g;have:=cO;have hl:=rd.length;exact ⟨by lia,λp hp=>jZ R hp rd zr⟩
  cases e
theorem IC (σ:L2.St) (H:Hp) (Q:VK) (q:tD X F G (.lst mu as) σ H Q):K4 (tDs X F G as) σ H Q:=by
 refine gQ (k:=λws h=>BT.HM mu ws h) (λs h=>by simp only[BT.ev]) q λm h xs z h' vs H1 R r e zr=>?_;unfold BT.HM at e;cases g:BT.aP xs with
 | none=>rw[g] at e;cases e
 | some ds =>
  rw[g] at e;simp only at e;split at e
  ·rename_i c;have rd:=r.pure g;have:=cO;have hl:=rd.length;have ez:BT.new mu ds h=(z,h'):=Ry e;exact ⟨by lia,λp hp=>gO (mu:=mu) R hp rd (by rw[ez];exact zr)⟩
  cases e
theorem cons_of (σ:L2.St) (H:Hp) (Q:List V->Hp->Prop) (q:tDs X F G (.cons a as) σ H Q):Gi (tD X F G a) (tDs X F G as) σ H Q:=by obtain ⟨m,s,h,zs,h',R,S,ee,zr⟩:=q;simp only[BT.evs] at ee;obtain ⟨x,h1,e1,e2⟩:=ak ee;simp only[BT.mR] at e2;obtain ⟨xs,h2,e3,e4⟩:=ak e2;simp only[BT.jy] at e4;cases e4;exact ⟨m,s,h,x,h1,R,S,e1,λv H1 m1 x1 R1 r1=>⟨m1,s,h1,xs,h',R1,S.ext x1,e3,λvs H2 m2 x2 R2 r2=>zr _ H2 m2 (x1.trans x2) R2 (.cons (r1.ext x2) r2)⟩⟩
end
section
variable {K:Rm}
theorem RFs.get:∀ {vs:List (ZZ×V)}{fs:List (ZZ×BT.W)},RFs K m H vs fs->BT.bq f fs=XX x->∃ v,vs.lookup f=XX v/\RA K m H v x
 | _,_,.nil,e=>by cases e
 | _,_,.cons (f:=g) r t,e=>by
  rw[BT.oV] at e
  by_cases c:f=g
  rw[if_pos c] at e;cases e;subst c;exact ⟨_,by simp,r⟩
  ·rw[if_neg c] at e;obtain ⟨v,h1,h2⟩:=RFs.get t e;exact ⟨v,by rw[SO];rw[beq_false_of_ne c];exact h1,h2⟩
theorem RFs.none:∀ {vs:List (ZZ×V)}{fs:List (ZZ×BT.W)},RFs K m H vs fs->(BT.bq f fs).isNone=XZ->vs.lookup f=XY
 | _,_,.nil,_=>rfl
 | _,_,.cons (f:=g) r t,e=>by
  rw[BT.oV] at e
  by_cases c:f=g
  rw[if_pos c] at e;cases e
  ·rw[if_neg c] at e;rw[SO,beq_false_of_ne c];exact RFs.none t e
theorem RFs.put (q:RA K m H v x):∀ {vs:List (ZZ×V)}{fs:List (ZZ×BT.W)},RFs K m H vs fs->RFs K m H (L2.bL f v vs) (BT.bL f x fs)
 | _,_,.nil=>.cons q .nil
 | _,_,.cons (f:=g) r t=>by
  rw[L2.bL,BT.xQ]
  by_cases c:f=g
  rw[if_pos c,if_pos c.symm];subst c;exact .cons q t;rw[if_neg c,if_neg (Ti c)];exact .cons r (RFs.put q t)
theorem RFs.length:∀ {vs:List (ZZ×V)}{fs:List (ZZ×BT.W)},RFs K m H vs fs->vs.length=fs.length
 | _,_,.nil=>rfl
 | _,_,.cons _ t=>by rw[R6,R6,RFs.length t]
end
section
theorem D4 (e:BT.DI f x h=XX r):∃ n c fs w,x=.o n/\BT.oat h n=XX (c,fs)/\BT.bq f fs=XX w/\r=(w,h):=by
 cases x with
 | o n =>
  rw[BT.HP] at e;cases g:BT.oat h n with
  | none=>rw[g] at e;cases e
  | some q =>
   obtain ⟨c,fs⟩:=q;rw[g] at e;obtain ⟨w,e1,e2⟩:=aF e;exact ⟨n,c,fs,w,rfl,g,e1,e2.symm⟩
 | _=>cases e
theorem D5 {sc:SE}{N:List ZZ} (hb:aC x=XZ) (hf:attrName f=XZ) (ha:PE X x (tD X F G a)):PE X (.Attribute x f p) (tD X F G (.fld a f)):=by
 refine PE.weak (Hl ha (kg hb)) fun σ H Q q=>?_;refine Gz (k:=BT.DI f) (λs h=>by simp only[BT.ev]) q λm h x z h' v H1 R r e zr=>?_;obtain ⟨n,c,fs,w,rfl,e1,e2,e3⟩:=D4 e;cases e3;cases r with
 | o hn =>
  obtain ⟨C,dx,vs,h1,h2,h3⟩:=R.mU _ _ _ _ hn e1;obtain ⟨u,l,ra⟩:=h3.get e2;exact ⟨_,C,dx,vs,u,rfl,h1,h2.cls,h2.no f hf,l,zr u H1 m (.refl _ _) R ra.rw⟩
theorem gC (hb:aC o=XZ) (hst:ao args=XZ) (hlen:args.length < 20) (hl:(apos.endLine==pos.line)=XZ) :
 eval (.Call (.Attribute o m apos) args [] pos) env=(do
  let ov ← eval o env
  standAt apos.atName
  let (f,first) ← holding [ov] (Wi ov m (do return (← importBound o env).getD XZ))
  callWith pos f first (TH pos (RX args env)) (VQ pos (UK [] env))):=by
 have hf:methodCallForm (args.length+([]:List Wy).length) (TH pos (RX args env)) (VQ pos (UK [] env))=XZ:=by
  unfold methodCallForm;have h30:decide (args.length+([]:List Wy).length+(if (VQ pos (UK [] env)).isEmpty then 0 else 1) < 30)=XZ:=decide_eq_true (by
   show args.length+0+0 < 30;lia)
  rw[h30,kh hst];rfl
 rw[arm_eval_Call,kg hb];unfold methodCall;rw[hf];have hp:methodCallPos XZ o env apos pos=pure pos:=by unfold methodCallPos;rw[hl];rfl
 rw[hp];rfl
theorem Am (e:BT.zH F m ea x h=XX r) :
 ∃ n c fs ws g,x=.o n/\BT.oat h n=XX (c,fs)/\(BT.bq m fs).isNone=XZ/\ea h=XX (ws,g)/\F (.m c m) (.o n::ws) g=XX r:=by
 cases x with
 | o n =>
  rw[BT.DJ] at e;cases g:BT.oat h n with
  | none=>rw[g] at e;cases e
  | some q =>
   obtain ⟨c,fs⟩:=q;rw[g] at e;simp only at e;split at e
   ·rename_i c1;obtain ⟨ws,g2,e1,e2⟩:=ak e;exact ⟨n,c,fs,ws,g2,rfl,g,c1,e1,e2⟩
   cases e
 | _=>cases e
theorem An (O:Ok X F G sc N) (hb:aC oe=XZ) (hl:(apos.endLine==cpos.line)=XZ) (hlen:es.length < 20) (ho:PE X oe (tD X F G o)) (hc:CEs sc N as es) (ha:PA X es (tDs X F G as)) :
 PE X (.Call (.Attribute oe m apos) es [] cpos) (tD X F G (.meth o m as)):=by
 have hst:=cZ hc;intro zt s σ H Q I q;obtain ⟨m0,s',h,z,h',R,S,ee,zr⟩:=q;simp only[BT.ev] at ee;obtain ⟨x,h1,e1,e2⟩:=ak ee;obtain ⟨n,c,fs,ws,g,rfl,e3,e4,e5,e6⟩:=Am e2;obtain ⟨C,ga,fd,ps,k,hC,hM,hB,hR,ok⟩:=O.meth _ _ _ _ _ e6;have key:vg C m (spF X.prog X.w X.K (F (.m c m))) [] E0 (tD X F G o) (tDs X F G as) σ H Q:=by
  refine ⟨m0,s',h,.o n,h1,R,S,e1,λv H1 m1 x1 R1 r1=>?_⟩;cases r1 with
  | @o a _ hn =>
   obtain ⟨C',dx,vs,q1,q2,q3⟩:=R1.mU _ _ _ _ hn e3;cases q2.cn.inj hC.cn;refine ⟨a,dx,vs,rfl,q1,q3.none e4,m1,s',h1,ws,g,R1,S.ext x1,e5,λus H2 m2 x2 R2 r2=>?_⟩;show spF X.prog X.w X.K (F (.m c m)) (V.ref a::(us++[])) H2 Q E0;rw[R8];exact ⟨m2,.o n::ws,g,z,h',R2,.cons (.o (x2.ix hn)) r2,e6,λv5 H5 m5 x5 R5 r5=>zr v5 H5 m5 ((x1.trans x2).trans x5) R5 r5⟩
 cases es with
 | nil =>
  cases as with
  | cons a r=>exact (jF hc).elim
  | nil =>
   refine rC ho hC.cls hM ok hR hB .nil mK (gC hb hst hlen hl) zt s σ H Q I ?_;obtain ⟨m,s,h,z,h',R,S,ee,zr⟩:=key;refine ⟨m,s,h,z,h',R,S,ee,λv H1 m1 x1 R1 r1=>?_⟩;obtain ⟨a,dx,fs,q1,q2,q3,q4⟩:=zr v H1 m1 x1 R1 r1;exact ⟨a,dx,fs,q1,q2,q3,gR q4⟩
 | cons e es =>
  have hst':=hst;simp only[ao,Rn] at hst';exact vj ho hC.cls hM ok hR hB .nil mK ha (ai hst'.1) (aH hst'.2) (gC hb hst hlen hl) zt s σ H Q I key
theorem Ao (O:Ok X F G sc N) (hg:aA sc c=XZ) (hn:aB c=XZ) (hc:CEs sc N as es) (ha:PA X es (tDs X F G as)) :
 PE X (.Call (.Name c p) es [] pos) (tD X F G (.make c as)):=by
 have hst:=cZ hc;intro zt s σ H Q I q;obtain ⟨m0,s',h,z,h',R,S,ee,zr⟩:=q;simp only[BT.ev] at ee;obtain ⟨ws,h1,e1,e2⟩:=ak ee;rw[BT.zI] at e2;obtain ⟨y,h2,e3,e4⟩:=ak e2;have e5:y=.p .non/\(z,h')=(.o h1.length,h2):=by
  cases y with
  | p d=>cases d<;>simp[BT.vA] at e4;exact ⟨rfl,by rw[e4.1,e4.2]⟩| _=>cases e4
 obtain ⟨rfl,e5⟩:=e5;cases e5;obtain ⟨C,ga,fd,ps,k,hC,hmg,hM,hB,hR,ok⟩:=O.mkc _ _ _ _ e3;have key:zl C (spF X.prog X.w X.K (F (.m c "__init__"))) [] E0 (tDs X F G as) σ H Q:=by
  refine ⟨m0,s',h,ws,h1,R,S,e1,λus H1 m1 x1 R1 r1 x dx nx ndx ne=>?_⟩;rw[R8];have xa:Ext m1 H1 m1 (upd H1 dx (.own x)):=fQ ndx;have Ra:RH X.K m1 (upd H1 dx (.own x)) h1:=R1.new ndx;have nx':upd H1 dx (.own x) x=XY:=by rw[au (Ti ne)];exact nx
  have xb:Ext m1 (upd H1 dx (.own x)) (m1++[x]) (upd (upd H1 dx (.own x)) x (.ins C dx [])):=iN nx';have Rb:RH X.K (m1++[x]) (upd (upd H1 dx (.own x)) x (.ins C dx [])) (h1++[.o c []]):=Ra.Ia nx' ⟨C,dx,[],aG,hC,.nil⟩;have ix:(m1++[x])[h1.length]?=XX x:=by rw[← R1.len];simp
  refine ⟨m1++[x],.o h1.length::ws,h1++[.o c []],.p .non,h',Rb,.cons (.o ix) (r1.ext (xa.trans xb)),e3,λv H2 m2 x2 R2 r2=>?_⟩;cases r2 with
  | p r2 =>
   cases r2;exact ⟨rfl,zr _ H2 m2 (((x1.trans xa).trans xb).trans x2) R2 (.o (x2.ix ix))⟩
 cases es with
 | nil =>
  cases as with
  | cons a r=>exact (jF hc).elim
  | nil =>
   refine zm hM ok hR (aM O hg) hmg hB .nil mK (bJ hn).1 zt s σ H Q I ?_;exact gR key
 | cons e es =>
  simp only[ao,Rn] at hst;exact Dl hM ok hR (aM O hg) hmg hB .nil mK ha (bJ hn).1 (ai hst.1) (aH hst.2) zt s σ H Q I key
def ID (o:BT.Bin):TIp:=λx y H Q=>∃ i j z,x=.int i/\y=.int j/\BT.mL o (.int i) (.int j)=XX (.int z)/\Q (.int z) H
noncomputable def Aq:BT.Bin->VT->Bool
 | .add,.Add=>XZ| .sub,.Sub=>XZ| .mul,.Mult=>XZ| _,_=>X0
theorem vN (h:Aq o op=XZ):PIp X op (ID o):=by
 rintro zt s σ H x y u v Q I rx ry ⟨i,j,z,rfl,rfl,e,q⟩
 obtain ⟨t,rfl⟩:=(show ∃ t,u=Vo i t from rx);obtain ⟨t',rfl⟩:=(show ∃ t',v=Vo j t' from ry);cases o<;>cases op<;>cases h;cases e;exact PyProof.Rows.iadd_int ⟨.int (i+j),H,I.tok _,⟨_,rfl⟩,q⟩;cases e;exact PyProof.Rows.isub_int ⟨.int (i - j),H,I.tok _,⟨_,rfl⟩,q⟩
 ·rw[BT.rM] at e;split at e
  ·rename_i c;cases e;have hc:Dc i j:=by
    rcases T8 _ _ ▸ c with c|c
    exact .inl (qc c);exact .inr (qc c)
   exact PyProof.Rows.imul_int ⟨.int (i*j),H,I.tok _,⟨_,rfl⟩,q⟩ hc.ok
  cases e
theorem vO (h:BT.mL o d e=XX z):∃ i j k,d=.int i/\e=.int j/\z=.int k:=by
 cases d with
 | int i =>
  cases e with
  | int j =>
   refine ⟨i,j,?_⟩;cases o with
   | add=>exact ⟨_,rfl,rfl,(Ry h).symm⟩| sub=>exact ⟨_,rfl,rfl,(Ry h).symm⟩
   | mul =>
    rw[BT.rM] at h;split at h;exact ⟨_,rfl,rfl,(Ry h).symm⟩;cases h
   | _=>exact ay h
  | _=>cases o<;>exact ay h
 | _=>cases o<;>exact ay h
end
section
variable {K:Rm}
end
theorem kT (r:av vs us):∀ l:List Nat,av (l.filterMap λi=>vs[i]?) (l.filterMap λi=>us[i]?)
 | []=>.nil
 | i::l=>by
  rw[Ss,Ss];cases g:vs[i]? with
  | none =>
   have:us[i]?=XY:=by have h:=r.length;rw[WB] at g ⊢;lia
   rw[this];exact kT r l
  | some d =>
   obtain ⟨v,e,q⟩:=r.get g;rw[e];exact .cons q (kT r l)
noncomputable def rZ (k:Int) (xs:List V):List V:=(VP (Sn XY XY (XX k) xs.length).1 (Sn XY XY (XX k) xs.length).2.1 (Sn XY XY (XX k) xs.length).2.2).filterMap λi=>xs[i]?
section
theorem IE (hk:k≠0) (he:PE X e te) (hs:PE X se (tC (.int k))) :
 PE X (.Subscript e (.Slice XY XY (XX se) p2) pos) (fun σ H Q=>te σ H λx H1=>∃ a xs,x=.ref a/\SqL X.K H1 a xs/\∀ p,H1 p=XY->Q (.ref p) (upd H1 p (.lst (rZ k xs)))):=by
 intro zt s σ H Q I h;refine Subscript_ (thn (he zt s σ H _ I h) λv s1 zq=>?_);obtain ⟨x,H1,I1,r1,a,xs,ex,hx,q⟩:=zq;subst ex;cases r1;refine wpAny_Slice ?_;rw[XD];refine wpAny_pure (wpAny_pure ?_);rw[evalPart_some];refine thn (hs zt s1 σ H1 (λv H'=>v=.int k/\H'=H1) I1 ⟨rfl,rfl⟩) λvs s3 zq=>?_;obtain ⟨y,H3,I3,r3,hy,hh⟩:=zq;subst hy hh;obtain ⟨t,rfl⟩:=r3;have I4:Inv X zt σ H3 { s3 with heap:=s3.heap.push { cls:=.type "slice",data:=.fields #[.none,.none,.int k t] } }:=I3.kept (t':=s3.toks) λb ob q=>Ro _ q;obtain ⟨its,rv,p,hz⟩:=I4.list hx;have hg:ZY (RV X.prog X.w) X.A (Wq (.ref a) (.ref s3.heap.objs.size)) (EP X zt σ Q) X.xe { s3 with heap:=s3.heap.push { cls:=.type "slice",data:=.fields #[.none,.none,.int k t] } }:=by
  have hlen:=rv.length;refine Xl p.isList (Wm ..) .none .none (.int k t) (by intro z;exact hk (Ry z)) ?_ (by rw[Rr];lia);have hp:slicePick its.toArray XY XY (XX k)=((VP (Sn XY XY (XX k) xs.length).1 (Sn XY XY (XX k) xs.length).2.1 (Sn XY XY (XX k) xs.length).2.2).filterMap λi=>its[i]?).toArray:=by unfold slicePick;rw[Rr,← hlen];simp
  rw[hp];have hq:=kT rv (VP (Sn XY XY (XX k) xs.length).1 (Sn XY XY (XX k) xs.length).2.1 (Sn XY XY (XX k) xs.length).2.2);have hz':(rZ k xs).length<=xs.length:=by have:=slicePick_size_le its.toArray XY XY (XX k);rw[hp,Rr,Rr] at this;have e:=hq.length;unfold rZ;lia
  refine ⟨.ref (s3.heap.push { cls:=.type "slice",data:=.fields #[.none,.none,.int k t] }).objs.size,_,I4.laid (t':=s3.toks) (o:=.lst (rZ k xs)) (λb ob q=>Ro _ q) (Rq _) ?_,rfl,q _ (I4.hok.fresh (Rq _))⟩;exact ⟨by lia,_,0,hq,RT _ rfl⟩
 show ZY (RV X.prog X.w) X.A (Xy e (.Slice XY XY (XX se) p2) (.ref a) (.ref s3.heap.objs.size)) (EP X zt σ Q) X.xe { s3 with heap:=s3.heap.push { cls:=.type "slice",data:=.fields #[.none,.none,.int k t] } };exact tail_any (ops:=[.ref a,.ref s3.heap.objs.size]) p.isList.typeIs slot_list_getitem.lookup hg (by with_unfolding_all rfl)
theorem vP (h:(DN e).bind cInt=XX k):∃ a b,e=.Constant (.int k) a b:=by
 cases e with
 | Constant c a b =>
  cases c with
  | int j=>cases h;exact ⟨a,b,rfl⟩| _=>exact absurd (show (XY:Option Int)=XX _ from h) (λz=>nomatch z)
 | _=>exact absurd (show (XY:Option Int)=XX _ from h) (λz=>nomatch z)
theorem Ar (h:pZ k e=XZ):(∃ a b,e=.Constant (.int k) a b/\0 < k)\/∃ j a b p,e=.UnaryOp .USub (.Constant (.int j) a b) p/\k=-j/\0 < j:=by
 unfold pZ at h;rw[T8,Rn,Rn,decide_eq_true_eq,decide_eq_true_eq] at h;rcases h with ⟨h1,h2⟩|⟨h1,h2⟩
 ·obtain ⟨a,b,e1⟩:=vP (eq_of_beq h1);exact .inl ⟨a,b,e1,h2⟩
 ·have h1:=eq_of_beq h1;cases e with
  | UnaryOp o e p =>
   by_cases c:o=.USub
   ·subst c;have h3:(DN e).bind cInt=XX (-k):=h1;obtain ⟨a,b,rfl⟩:=vP h3;exact .inr ⟨-k,a,b,p,rfl,by lia,by lia⟩
   ·have:unE (.UnaryOp o e p)=XY:=if_neg c;rw[this] at h1;cases h1
  | _=>exact absurd (show (XY:Option Int)=XX _ from h1) (λz=>nomatch z)
theorem D6 (hk:pZ k se=XZ) (ha:PE X x (tD X F G a)):PE X (.Subscript x (.Slice XY XY (XX se) p2) p) (tD X F G (.stp mu k a)):=by
 have hs:k≠0/\PE X se (tC (.int k)):=by
  rcases Ar hk with ⟨a,b,rfl,h⟩|⟨j,a,b,p,rfl,rfl,h⟩
  exact ⟨by lia,tS⟩;exact ⟨by lia,PE.weak (Ge ze tS) fun σ H Q q=>⟨_,rfl,q⟩⟩
 refine PE.weak (IE hs.1 ha hs.2) fun σ H Q q=>?_;refine Gz (k:=BT.HN mu k) (λs h=>by simp only[BT.ev]) q λm h x z h' v H1 R r e zr=>?_;unfold BT.HN at e;cases g:BT.rd x h with
 | none=>rw[g] at e;cases e
 | some d =>
  rw[g] at e;cases d with
  | lst xs =>
   simp only at e;have r1:=aL R r g;obtain ⟨a,vs,rfl,hl,rr⟩:=r1.lst;have ez:BT.new mu (BT.rO k xs) h=(z,h'):=Ry e;refine ⟨a,vs,rfl,hl.sq,λp hp=>gO (mu:=mu) R hp ?_ (by rw[ez];exact zr)⟩;unfold rZ BT.rO;rw[rr.length];exact RDs.pick rr _
  | _=>cases e
theorem As {X:Cx}{b:BT.Bi}{g:Int->Int->Int} (hb:∀ ds d,BT.biD b ds=XX d->∃ i j,ds=[.int i,.int j]/\d=.int (g i j)) {id:String} (hc:cW X (.builtin id) (λxs H Q=>∃ i j,xs=[.int i,.int j]/\Q (.int (g i j)) H)):cW X (.builtin id) (rBi X.prog X.w X.K b X0):=by
 intro zt s σ H vs us Q I rus h;obtain ⟨m,h,ws,z,h',R,rws,e,zr⟩:=h;obtain ⟨ds,d,e1,e2,⟨_,rfl,rfl⟩|⟨_,q,_⟩⟩:=jE e
 ·have rr:=fm R rws e1;obtain ⟨i,j,rfl,rfl⟩:=hb _ _ e2;cases rr with
  | cons r t =>
   cases t with
   | cons r' t' =>
    cases t';cases r.int;cases r'.int;exact hc zt s σ H _ us Q I rus ⟨i,j,rfl,zr.here R (.int _)⟩
 cases q
theorem D7 {X:Cx}{sc:SE}{N:List ZZ} (O:Ok X F G sc N) (hu:bV N=XZ) {b:BT.Bi}{as:BT.Es}{x:ZZ}{e:Rt}{es:List Rt}{p pos:Pos} (hb:zT b x=XZ) (hg:aA sc x=XZ) (hst:ao (e::es)=XZ) (ha:PA X (e::es) (tDs X F G as)) :
 PE X (.Call (.Name x p) (e::es) [] pos) (tD X F G (.bi b X0 as)):=by
 simp only[ao,Rn] at hst;have hB:=O.blt;cases b<;>first|(cases hb;done)|(replace hb:=eq_of_beq hb)
 ·subst hb;refine PE.weak (fh (As (b:=.min2) (g:=λi j=>if j < i then j else i) (λds d h=>?_) (xA (O.calm hu))) (aM O hg) (hB _ (by decide +kernel)) (by decide +kernel) ha (by decide) (by decide) (ai hst.1) (aH hst.2)) (fun σ H Q z=>lH z)
  match ds,h with
  | [.int i,.int j],h=>exact ⟨i,j,rfl,(Ry h).symm⟩
 ·subst hb;refine PE.weak (fh (As (b:=.max2) (g:=λi j=>if j > i then j else i) (λds d h=>?_) (xw (O.calm hu))) (aM O hg) (hB _ (by decide +kernel)) (by decide +kernel) ha (by decide) (by decide) (ai hst.1) (aH hst.2)) (fun σ H Q z=>lH z)
  match ds,h with
  | [.int i,.int j],h=>exact ⟨i,j,rfl,(Ry h).symm⟩
end
section
variable {K:Rm}
def m6 (H H':Hp):Prop:=(∀ a vs,Rd H a (.tup vs)->Rd H' a (.tup vs))/\∀ a vs,Rd H a (.lst vs)->Rd H' a (.lst vs)
mutual
theorem RD.tr (q:m6 H H'):∀ {v:V}{d:BT.D},RD K m H v d->RD K m H' v d
 | _,_,.non=>.non| _,_,.bl b=>.bl b| _,_,.int i=>.int i| _,_,.str y h=>.str y h| _,_,.tup h r=>.tup (h.elim (λz=>.inl ⟨q.1 _ _ z.1,z.2⟩) .inr) (RDs.tr q r)| _,_,.lst h r=>.lst (h.elim (λz=>.inl ⟨q.2 _ _ z.1,z.2⟩) .inr) (RDs.tr q r)
theorem RDs.tr (q:m6 H H'):∀ {vs:List V}{ds:List BT.D},RDs K m H vs ds->RDs K m H' vs ds
 | _,_,.nil=>.nil| _,_,.cons r t=>.cons (RD.tr q r) (RDs.tr q t)
end
theorem RA.tr (q:m6 H H') (r:RA K m H v x):RA K m H' v x:=by
 cases r with
 | p r=>exact .p (r.tr q)| r h=>exact .r h| o h=>exact .o h
theorem RFs.tr (q:m6 H H') (r:RFs K m H vs fs):RFs K m H' vs fs:=by
 induction r with
 | nil=>exact .nil| cons r t ih=>exact .cons (r.tr q) ih
theorem RCs.tr (q:m6 H H') (r:RCs K m H vs cs):RCs K m H' vs cs:=by
 induction r with
 | nil=>exact .nil| cons r t ih=>exact .cons (r.tr q) ih
theorem RWs.tr (q:m6 H H') (r:RWs P w K m H vs ws) (n:BT.noC ws=XZ):RWs P w K m H' vs ws:=by
 induction r with
 | nil=>exact .nil
 | cons r t ih =>
  cases r with
  | p r=>exact .cons (.p (r.tr q)) (ih n)| r h=>exact .cons (.r h) (ih n)| k h r=>exact .cons (.k h r) (ih n)| o h=>exact .cons (.o h) (ih n)| _=>cases n
theorem RCs.ws (r:RCs K m H vs cs):RWs P w K m H vs (cs.map BT.Cp.w):=by
 induction r with
 | nil=>exact .nil| cons r t ih=>exact .cons r.rw ih
theorem RWs.app (r:RWs P w K m H vs ws) (t:RWs P w K m H us zs):RWs P w K m H (vs++us) (ws++zs):=by
 induction r with
 | nil=>exact t| cons r _ ih=>exact .cons r ih
theorem RKs.tr (q:m6 H H') (r:RKs K m H vs kvs):RKs K m H' vs kvs:=by
 induction r with
 | nil=>exact .nil| cons hk r t ih=>exact .cons (hk.tr q) (r.tr q) ih
theorem RH.tr (R:RH K m H h) (q:m6 H H') (k:∀ a∈m,H' a=H a) (tb:TB K H'):RH K m H' h:=by
 refine ⟨R.nd,R.len,λi a c e1 e2=>?_,tb⟩;have z:=R.cl i a c e1 e2;have e:=k a (RC e1);cases c with
 | o c fs=>obtain ⟨C,dx,vs,h1,h2,h3⟩:=z;exact ⟨C,dx,vs,e.trans h1,h2,h3.tr q⟩| _=>obtain ⟨vs,h1,h2⟩:=z;exact ⟨vs,e.trans h1,h2.tr q⟩
theorem Le.sq (q:Le H H'):m6 H H':=⟨λa vs r=>r.elim (λz=>.inl (q _ _ z)) λ⟨o,z⟩=>.inr ⟨o,q _ _ z⟩,λa vs r=>r.elim (λz=>.inl (q _ _ z)) λ⟨o,z⟩=>.inr ⟨o,q _ _ z⟩⟩
theorem RH.le (R:RH K m H h) (q:Le H H'):RH K m H' h:=R.tr q.sq (λa ha=>by obtain ⟨o,e,_⟩:=R.mu ha;rw[e];exact q _ _ e) (q.tb R.tb)
theorem iE.le (q:Le H H') (r:iE m H cl xs vs):iE m H' cl xs vs:=by
 induction r with
 | nil=>exact .nil| cons h1 h2 h3 r t ih=>exact .cons h1 ⟨q _ _ h2.1,h2.2⟩ h3 r ih
theorem iC.le (q:Le H H') (h:iC m H f L vs):iC m H' f L vs:=by obtain ⟨bt,ps,fs,pa,be,sc,cl,pm,ctv,c',oc,os,t,ql,h0,h1,h2,h3,h4,h5,h6,h7,h8,h9,h10⟩:=h;exact ⟨bt,ps,fs,pa,be,sc,cl,pm,ctv,c',oc,os,t,ql,h0,h1,h2,h3,h4,h5,⟨q _ _ h6.1,h6.2⟩,⟨q _ _ h7.1,h7.2⟩,h8,h9,h10.le q⟩
theorem RW.le (q:Le H H') {v:V}{x:BT.W} (r:RW P w K m H v x):RW P w K m H' v x:=by
 cases r with
 | p r=>exact .p (r.tr q.sq)| r h=>exact .r h| k h r=>exact .k h r| o h=>exact .o h| c h r=>exact .c (h.le q) (r.tr q.sq)| x h n xt=>exact .x (q _ _ h) n xt| g h r=>exact .g h r
end
def bW (cl:List (ZZ×Z0)) (H:Hp):Prop:=∀ x c,cl.lookup x=XX c->∃ o u,H c=XX (.frz o (.own 0))/\o.data=.cell u
open Classical in
noncomputable def hid (cl:List (ZZ×Z0)) (H:Hp):Hp:=λb=>if ∃ x,cl.lookup x=XX b then XY else H b
open Classical in
noncomputable def ret (cl:List (ZZ×Z0)) (H0 H:Hp):Hp:=λb=>if ∃ x,cl.lookup x=XX b then H0 b else H b
section
theorem uE (e:cl.lookup x=XX b):hid cl H b=XY:=if_pos ⟨x,e⟩
theorem dU (e:¬ ∃ x,cl.lookup x=XX b):hid cl H b=H b:=if_neg e
theorem d9 (e:H b=XY):hid cl H b=XY:=by unfold hid;split<;>first|rfl|exact e
theorem qi (e:cl.lookup x=XX b):ret cl H H' b=H b:=if_pos ⟨x,e⟩
theorem fS (e:¬ ∃ x,cl.lookup x=XX b):ret cl H H' b=H' b:=if_neg e
theorem IF (e:hid cl H b=XX u):H b=XX u/\¬ ∃ x,cl.lookup x=XX b:=by unfold hid at e;split at e;cases e;rename_i c;exact ⟨e,c⟩
noncomputable def lX:HO->Bool
 | .frz o (.own _)=>match o.data with | .cell _=>XZ|_=>X0
 | _=>X0
theorem bW.out (C:bW cl H) (e:H b=XX u) (n:lX u=X0):¬ ∃ x,cl.lookup x=XX b:=λ⟨x,q⟩=>by obtain ⟨o,v,h1,h2⟩:=C x b q;rw[e] at h1;cases h1;simp[lX,h2] at n
theorem bW.hid (C:bW cl H) (e:H b=XX u) (n:lX u=X0):BS.hid cl H b=XX u:=by rw[dU (C.out e n)];exact e
theorem bW.sq (C:bW cl H):m6 H (BS.hid cl H):=⟨λa vs r=>r.elim (λz=>.inl (C.hid z rfl)) λ⟨o,z⟩=>.inr ⟨o,C.hid z rfl⟩,λa vs r=>r.elim (λz=>.inl (C.hid z rfl)) λ⟨o,z⟩=>.inr ⟨o,C.hid z rfl⟩⟩
theorem bW.tb (C:bW cl H) (t:TB K H):TB K (BS.hid cl H):=t.mono (λP ps e=>C.hid e rfl) λa o vs d e=>C.hid e (by simp[lX,d])
theorem bW.rh (C:bW cl H) (R:RH K m H h):RH K m (BS.hid cl H) h:=R.tr C.sq (λa ha=>by obtain ⟨o,e,z⟩:=R.mu ha;rw[e];exact C.hid e (by cases o<;>first|rfl|cases z)) (C.tb R.tb)
theorem IG (N:∀ x c,cl.lookup x=XX c->H' c=XY):Le H' (ret cl H H'):=λa u e=>by rw[fS (λ⟨x,q⟩=>by rw[N x a q] at e;cases e)];exact e
theorem bW.II (C:bW cl H) (N:∀ x c,cl.lookup x=XX c->H' c=XY) (x:Ext m (BS.hid cl H) m' H') (R:RH K m' H' h'):Ext m H m' (ret cl H H'):=by
 obtain ⟨e,hm,he⟩:=x.pre;refine ⟨⟨e,hm,λa ha=>?_⟩,λa o h n t=>?_,λa h=>?_⟩
 ·have z:=he a ha;have hne:¬ ∃ y,cl.lookup y=XX a:=λ⟨y,q⟩=>by obtain ⟨o,e1,_⟩:=R.mu (a:=a) (by rw[hm];exact Sh _ ha);rw[N y a q] at e1;cases e1
  rw[dU hne] at z;exact z
 ·by_cases c:∃ y,cl.lookup y=XX a
  obtain ⟨y,q⟩:=c;rw[qi q];exact h;rw[fS c];exact x.keep a o (by rw[dU c];exact h) n t
 ·by_cases c:∃ y,cl.lookup y=XX a
  obtain ⟨y,q⟩:=c;rw[qi q] at h;exact h;rw[fS c] at h;have z:=x.live a h;rw[dU c] at z;exact z
end
theorem iE.get (r:iE m H cl fs vs):∀ {i:Nat}{x:ZZ},fs[i]?=XX x->∃ c o u v,cl.lookup x=XX c/\Tr m H c o/\o.data=.cell (XX u)/\vs[i]?=XX v/\RelV v u:=by
 induction r with
 | nil=>intro i x e;simp at e
 | cons h1 h2 h3 r t ih =>
  intro i x e;cases i with
  | zero=>simp at e;subst e;exact ⟨_,_,_,_,h1,h2,h3,rfl,r⟩| succ i=>simpa using ih (by simpa using e)
theorem iE.len (r:iE m H cl fs vs):vs.length=fs.length:=by
 induction r with
 | nil=>rfl| cons h1 h2 h3 r t ih=>simp[ih]
theorem iE.cells (r:iE m H cl fs vs) (hf:∀ x c,cl.lookup x=XX c->x∈fs):bW cl H:=λx c e=>by obtain ⟨i,hi⟩:=SN (hf x c e);obtain ⟨c',o,u,v,h1,h2,h3,_⟩:=r.get hi;rw[e] at h1;cases h1;exact ⟨o,_,h2.1,h3⟩
theorem D8 (hp:LPa pa ps) (hl:us.length=ps.length):WK (PySem.W.kla_fn name q pa be sc cl pm cdv ctv) ⟨us,[]⟩=pure (ps.zip us):=by
 cases hp with
 | one=>match us,hl with | [_],_=>rfl
 | two=>match us,hl with | [_,_],_=>rfl
theorem IJ (hp:LPa pa ps) (nd:ps.Nodup) (hl:us.length=ps.length) {i:Nat} (e:ps[i]?=XX x):∃ u,us[i]?=XX u/\(ps.zip us).reverse.lookup x=XX u:=by
 cases hp with
 | one =>
  match us,hl,i,e with
  | [u],_,0,e=>simp at e;subst e;exact ⟨u,rfl,by simp⟩| [u],_,i+1,e=>simp at e
 | two =>
  match us,hl,i,e with
  | [u,v],_,0,e =>
   simp at e;subst e;simp at nd;exact ⟨u,rfl,by simp[SO,beq_false_of_ne nd]⟩
  | [u,v],_,1,e=>simp at e;subst e;exact ⟨v,rfl,by simp⟩| [u,v],_,i+2,e=>simp at e
structure LF (ps fs:List ZZ) (sc:SE):Prop where
 kd:sc.kind=.function
 co:sc.isCoroutine=X0
 ge:sc.isGenerator=X0
 cell:∀ y∈sc.names,y.2≠.cell
 loc:∀ x∈ps,sc.names.lookup x=XX .local
 fre:∀ x∈fs,sc.names.lookup x=XX .free/\(x,SD)∈sc.names
 all:∀ y∈sc.names,y.2=.free->y.1∈fs
 nd:(ps++fs).Nodup
theorem m7:∀ {l:List ZZ},jB l=XZ->l.Nodup
 | [],_=>WA
 | x::r,h=>by simp only[jB,Rn,T9] at h;refine List.nodup_cons.mpr ⟨λz=>?_,m7 h.2⟩;have:=h.1;simp[z] at this
theorem Mc (h:lG ps fs sc=XZ):LF ps fs sc:=by
 simp only[lG,Rn,T9] at h;obtain ⟨⟨⟨⟨⟨⟨⟨h1,h2⟩,h3⟩,h4⟩,h5⟩,h6⟩,h7⟩,h8⟩:=h;rw[Tt] at h4 h5 h6 h7;refine ⟨eq_of_beq h1,h2,h3,λy hy e=>?_,λx hx=>eq_of_beq (h5 x hx),λx hx=>?_,λy hy e=>?_,m7 h8⟩;have:=h4 y hy;rw[e] at this;cases this
 ·have:=h6 x hx;simp only[Rn] at this;exact ⟨eq_of_beq this.1,by simpa using this.2⟩
 ·have:=h7 y hy;rw[e] at this;simpa using this
noncomputable def Au (P:Se) (w:SB) (K:Rm) (mg:ZZ->Option Z1) (base:Heap) (N:List ZZ) (q:ZZ) (sc:SE) (cl:List (ZZ×Z0)) (f c':Z0) (A:TR) (outer:List Env) (s:Rv) (H:Hp):Cx where
 prog:=P
 w:=w
 K:=K
 mg:=mg
 base:=base
 A:=A.deeper (UQ q sc s.heap.objs.size f (.ref c') cl)
 N:=N
 s₀:=s
 H₀:=hid cl H
 env:=UQ q sc s.heap.objs.size f (.ref c') cl
 outer:=outer
 stack:=UQ q sc s.heap.objs.size f (.ref c') cl::outer
 ex:=[]
 calm:=XZ
 fn:=λ_=>X0
 pn:=[]
 xe:=λ_ _=>False
theorem lY (C:bW cl H) (ok:HOk P w H h) (k:∀ b o,h.get? b=XX o->h1.get? b=XX o):HOk P w (hid cl H) h1:=λb u e=>by obtain ⟨e1,_⟩:=IF e;exact (ok b u e1).stay (λc o _ q=>k c o q) (λc q=>C.hid q rfl) λc xs q=>C.hid q rfl
theorem D9 
 (hp:LPa pa ps) (F:LF ps fs sc) (inj:∀ x y c,cl.lookup x=XX c->cl.lookup y=XX c->x=y) (hfs:∀ x c,cl.lookup x=XX c->x∈fs) (cp:iE m H cl fs cvs) (hd:A.handled=XY) (e0:jN P w K mg base A outer s H) (r:av vs us) (hl:us.length=ps.length)
 (hns:h1.Ns s.heap.objs.size (λy=>(ps.zip us).reverse.lookup y)) (hk1:∀ b o,s.heap.get? b=XX o->h1.get? b=XX o) :
 Inv (Au P w K mg base (ps++fs) q sc cl f c' A outer s H) [] (vs.map XX++cvs.map XX) (hid cl H) { s with heap:=h1,toks:=tk }:=by
 have C:=cp.cells hfs;have lv:vs.length=ps.length:=r.length.trans hl;have lc:=cp.len;have noA:∀ b:Z0,b∉(Au P w K mg base (ps++fs) q sc cl f c' A outer s H).ex:=λb z=>absurd (show b∈([]:List Z0) from z) (by simp);have cel:∀ x c,cl.lookup x=XX c->∃ u,s.heap.IsCell c (XX u):=λx c e=>by obtain ⟨i,hi⟩:=SN (hfs x c e);obtain ⟨c2,o,u,v,g1,g2,g3,_⟩:=cp.get hi;rw[e] at g1;cases g1;exact ⟨u,o,(e0.hok _ _ g2.1).1,g3⟩
 refine ⟨⟨e0.mod,F.kd,rfl,rfl,Rq _,inj,λx hx=>?_,λx c z=>absurd (show X0=XZ from z) (by decide),λ_=>hd,Vq e0.frames,.inr ⟨rfl,rfl⟩,λb z=>absurd z (noA b),λb o e=>⟨(e0.bs b o e).1,d9 (e0.bs b o e).2⟩,e0.bsz,λb _ _=>noA b,λb z=>absurd z (noA b),e0.gc,λb hb=>d9 (e0.frf b hb)⟩,
  rfl,e0.bare,Un.kept hk1,⟨_,hns,λi x v g1 g2 g3=>?_⟩,λx c e=>?_,d9 (e0.hok.fresh (Rq _)),λx c e=>uE e,λp hp=>absurd (show p∈([]:List (Z0×Obj)) from hp) (by simp),lY C e0.hok hk1,?_⟩
 ·have hx:sc.names.lookup x=XX .cell\/sc.names.lookup x=XX .free:=hx;rcases hx with hx|hx
  exact absurd rfl (F.cell _ (Tf hx))
  ·obtain ⟨i,hi⟩:=SN (F.all _ (Tf hx) rfl);obtain ⟨c,_,_,_,g1,_⟩:=cp.get hi;exact ⟨c,g1⟩
 ·have g1:(ps++fs)[i]?=XX x:=g1
  by_cases c:i < ps.length
  ·rw[Rp c] at g1;rw[Rp (by simpa [lv] using c),RY] at g2;obtain ⟨u,g4,g5⟩:=IJ hp (F.nd.sublist (List.sublist_append_left _ _)) hl g1;obtain ⟨v',g6,g7⟩:=Option.map_eq_some_iff.mp g2;cases g7;obtain ⟨u',g8,rv⟩:=r.get g6;rw[g4] at g8;cases g8;exact ⟨u,rv,.inl ⟨F.loc x (RC g1),g5⟩⟩
  ·rw[RM (by lia)] at g1;rw[RM (by simp[lv];lia),RY] at g2;simp only[RN,lv] at g2;obtain ⟨c2,o,u,v2,k1,k2,k3,k4,k5⟩:=cp.get g1;rw[k4] at g2;cases g2;exact ⟨u,k5,.inr ⟨.inr (F.fre x (RC g1)).1,c2,k1,o,hk1 _ _ (e0.hok _ _ k2.1).1,k3⟩⟩
 ·obtain ⟨u,o,z1,z2⟩:=cel x c e;exact ⟨XX u,o,hk1 _ _ z1,z2⟩
 ·show _=(ps++fs).length;simp[lv,lc]
section
theorem ye (e:BT.pV F o ws h=XX r):∃ k cs,o=XX (XX (.c k cs))/\BT.noC ws=XZ/\F k (ws++cs.map BT.Cp.w) h=XX r:=by
 unfold BT.pV at e;split at e
 ·rename_i k cs;split at e;rename_i c;exact ⟨k,cs,rfl,c,e⟩;cases e
 cases e
theorem iC.fnAt (l:iC m H f L vs) (ok:HOk P w H h):PySem.W.FnAt f h:=by obtain ⟨bt,ps,fs,pa,be,sc,cl,pm,ctv,c',oc,os,t,ql,h0,h1,h2,h3,h4,h5,h6,_⟩:=l;exact ⟨_,_,_,_,(ok _ _ h6.1).1⟩
theorem Post.ext (p:Post P w K m H z h' Q) (x:Ext m H m' H'):Post P w K m' H' z h' Q:=λv H2 m2 y R r=>p v H2 m2 (x.trans y) R r
theorem Av (O:Ok X F G sc N) (h1:N[i]?=XX x) (h2:lF sc x=XZ) (h3:aB x=XZ) (hc:CEs sc N as (e::es)) (ha:PA X (e::es) (tDs X F G as)) :
 PE X (.Call (.Name x np) (e::es) [] pos) (tD X F G (.callv i as)):=by
 have hst:=cZ hc;simp only[ao,Rn] at hst;intro zt s σ H Q I q;obtain ⟨m,s',h,z,h',R,S,ee,zr⟩:=q;simp only[BT.ev] at ee;obtain ⟨ws,g,e1,e2⟩:=ak ee;obtain ⟨k,cs,k1,k2,k3⟩:=ye e2;obtain ⟨v,hv,rv⟩:=S.get i _ k1;obtain ⟨d1,d2,_⟩:=bJ h3;refine SQ ?_;refine thn (tR (i:=i) (by rw[O.hN];exact h1) (Ag O h2) d1 d2 zt s σ H (λv2 H2=>v2=v/\H2=H) I ⟨v,hv,rfl,rfl⟩) λu s1 zq=>?_;obtain ⟨v2,H2,I2,r2,ev,eh⟩:=zq;subst ev eh;have hA:tDs X F G as σ H2 (λvs2 H3=>∃ m3,Ext m H2 m3 H3/\RH X.K m3 H3 g/\RWs X.prog X.w X.K m3 H3 vs2 ws):=⟨m,s',h,ws,g,R,S,e1,λvs2 H3 m3 x3 R3 r3=>⟨m3,x3,R3,r3⟩⟩;cases rv with
 | @c f L cvs _ hL rc =>
  obtain rfl:u=.ref f:=r2;refine PySem.W.callWith_F (hL.fnAt I2.hok) (thn (ha pos zt s1 σ H2 _ I2 hA) λus s2 ⟨vs2,H3,I3,r3,m3,x3,R3,w3⟩=>⟨(hL.ext x3).fnAt I3.hok,?_⟩) (ai hst.1) (aH hst.2);obtain ⟨k,hr,lo⟩:=O.lam _ _ _ _ k3;refine Vn (Uv (lo X.A X.stack s2 H3 f us vs2 cvs m3 ws cs g z h' Q E0 hr I3.Dk r3 R3 w3 k2 (hL.ext x3) (rc.ext x3) k3 (zr.ext x3)) λr s' hq=>?_);cases r with
  | error e=>exact Sa hq
  | ok fl =>
   cases fl with
   | ret u=>exact I3.after hq| _=>exact Sa hq
 | @g f x' hn hk =>
  obtain rfl:u=.ref f:=r2;have k3':F (.f x') ws g=XX (z,h'):=by simpa using k3
  obtain ⟨fa,fd,ps,k,hm,_,hb,hr,ok⟩:=O.call _ _ _ _ k3';have hm':=Su I2.ok.mod.kin I2.ok.mod.glob hn;rw[hm] at hm';cases hm';refine Tj (h₀:=X.base) I2.ok.mod.kin hk (thn (ha pos zt s1 σ H2 _ I2 hA) λus s2 ⟨vs2,H3,I3,r3,m3,x3,R3,w3⟩=>⟨I3.kIn,?_⟩) (ai hst.1) (aH hst.2);refine mG (E:=E0) ok hr hb .nil mK I3 r3 ?_;rw[R8];exact ⟨m3,ws,g,z,h',R3,w3,k3',zr.ext x3⟩
end
def yf (x C:Z0) (h:Heap):Prop:=∃ o,h.get? x=XX o/\o.cls=.ref C
section
open PySem.W PySem.Calls PySem.Builtin PySem.Builtin.ObjectAttr PySem.Builtin.Getset_descriptor
variable {E:Z1->Rv->Prop}{K:Rm}
theorem yf.look (I:yf x C h):Looks M h (typeOf (.ref x)) (.ref C):=by obtain ⟨o,e,c⟩:=I;exact c ▸ (Looks.ld e).andThen .now
theorem IK (X:K.In s.heap) (I:yf x C s.heap) (hm:mroIn K C (.type "object")=XX XZ) (h:R (.ok (.ret (.ref C))) s):codeAny (RV prog w) A (.call (.builtin "getset_descriptor.__get__") ⟨[.builtin "object.__class__",.ref x,tp],[]⟩) R s:=by
 obtain ⟨hp,g0,dr,tk0,os0⟩:=s;have l0:=I.look (M:=RV prog w);have l1:=looks_mroIn (M:=RV prog w) X hm;refine codeAny_call_builtin KF.slot_gs.plain KF.entry_gs (KF.slot_gs.check _ _ _ _ _ _ _ _ KF.type_class (KF.args_gs _ _ _) ?_)
 (unfold Builtin.«getset_descriptor.__get__» descrGet;rw[dga_obj])
 refine Rx (wpAny_pure ?_)
 (unfold descrGetter descrCheckInstance descrNameAndClass isInstance;simp only[KF.owner_class])
 repeat lk
 refine ⟨Code.quiet_builtin _ (by decide +kernel),codeAny_builtin KF.entry_class ?_⟩
 (unfold Builtin.«object.__class__» shownTypeOf;repeat lk)
 exact h
theorem Ea (X:K.In h) (h1:findIn K (.ref C) nm=XX (XX a)) (h2:specialIn K a "__get__"=XX (XX g)) (h3:takesIn K a=XX XZ):Looks M h (find (.ref x) (.ref C) nm) (.bind g a):=by have l1:=looks_findIn (M:=M) X h1;have l2:Looks M h (getOf (XX a)) (XX g):=looks_specialIn X h2;have l3:Looks M h (dataDescriptor? (XX a) (XX g)) (XX (g,a)):=(looks_takesIn (M:=M) X h3).andThen .now;exact l1.andThen (l2.andThen (l3.andThen (Looks.tag .now)))
theorem Mf (X:K.In s.heap) (I:yf x C s.heap) (c:ZZ) (xt:XT K c C) (h:R (.ok (.ret (.ref C))) s) :
 codeAny (RV prog w) A (.call (.builtin "BaseException.__getattribute__") ⟨[.ref x,.str "__class__" tk],[]⟩) R s:=by
 have l4:=looks_mroIn (M:=RV prog w) X xt.mrb;have l0:=I.look (M:=RV prog w);have l2:=Ea (M:=RV prog w) (x:=x) X xt.fnd xt.spc xt.tak;obtain ⟨hp,g0,dr,tk0,os0⟩:=s;have hk:builtinKind "BaseException.__getattribute__"=XX .slot:=by decide +kernel
 have hsplit:splitId "BaseException.__getattribute__"=XX ("BaseException","__getattribute__"):=by decide +kernel
 have ha:=PySem.F.args_bexc_ga (.ref x) (.str "__class__" tk);refine codeAny_call_builtin PySem.F.attrBase_ValueError.ga.plain PySem.F.entry_bexc_ga ?_;simp only[checkBuiltinCall,hk,hsplit];refine Rx ?_;unfold isInstance
 repeat lk
 refine wpAny_run (A:=A.in1) (h:=XY) (c:=.call (.builtin "getset_descriptor.__get__") ⟨[.builtin "object.__class__",.ref x,.ref C],[]⟩) (IK (s:=⟨hp,g0,dr,tk0,os0⟩) X I xt.mro ?_);exact wpAny_pure (wpAny_pure h)
theorem Eb (X:K.In s.heap) (I:yf x C s.heap) (c:ZZ) (xt:XT K c C) (h:Q (XX (.ref C)) { s with toks:=s.toks+1 }):ZY (RV prog w) A (getAttr? (.ref x) "__class__") Q E s:=by
 obtain ⟨hp,g0,dr,tk0,os0⟩:=s;have l0:=I.look (M:=RV prog w);have l1:=looks_findIn (M:=RV prog w) X xt.ga;have l3:=looks_findIn (M:=RV prog w) X xt.nga;have f3:=PySem.F.attrBase_ValueError.ga.bind (.ref x);have hx2:(UL "BaseException.__getattribute__"==UL "object.__getattribute__")=X0:=by decide +kernel
 have hx1:(onTheHeap (Sg C)&&UL "BaseException.__getattribute__"==UL "object.__getattribute__")=X0:=by rw[hx2];rfl
 (unfold getAttr? getAttrBy? getAttrBy)
 refine Rx (wpAny_mkText (Rx (wpAny_attempt (Ug (Rx (l0.at (Rx (l1.at ?_))))))));show ZY _ _ (if (onTheHeap (Sg C)&&UL "BaseException.__getattribute__"==UL "object.__getattribute__")=XZ then _ else getAttrByItsOwn (.ref x) (.str "__class__" tk0) (.ref C) (.builtin "BaseException.__getattribute__") X0 X0) _ _ (⟨hp,g0,dr,tk0+1,os0⟩:Rv);rw[if_neg (by rw[hx1];exact SZ)];unfold getAttrByItsOwn;refine Rx (l3.at ?_);refine Rx (wpAny_attempt (Ug ?_));show ZY _ _ (boundAndCalled (.builtin "BaseException.__getattribute__") (.ref x) (.str "__class__" tk0)) _ _ _;unfold boundAndCalled;rw[f3];refine Rx (wpAny_pure ?_);show ZY _ _ (call (.builtin "BaseException.__getattribute__") [.ref x,.str "__class__" tk0]) _ _ _;refine wpAny_mono (Vn (Mf (s:=⟨hp,g0,dr,tk0+1,os0⟩) (R:=wants (λv s'=>v=.ref C/\s'=(⟨hp,g0,dr,tk0+1,os0⟩:Rv)) λ_ _=>False) X I c xt ⟨rfl,rfl⟩)) (λv s' z=>?_) λ_ _ z=>z.elim;obtain ⟨rfl,rfl⟩:=z;exact handed_on rfl (wpAny_pure h)
theorem Aw (c:ZZ) (xt:XT K c C):KitX K (.ref x) (.ref C) (yf x C) where
 ty:=λ_ _ _ I=>I.look
 it:=λM h X I=>by
  obtain ⟨cd,hc,_⟩:=any_some xt.dct;unfold clsIn at hc;split at hc
  ·rename_i ho;exact λA' Q' E' s' k q=>by unfold isType loadHead;exact Rx (wpAny_loadPart (k _ _ (X _ _ ho)) (wpAny_pure q))
  cases hc
 ne:=λh tp dd its n sl X htp=>by
  obtain ⟨cd,hc,_⟩:=any_some xt.dct;refine Bool.eq_false_iff.mpr λq=>?_;have e:=Value.ref.inj (beq_iff_eq.mp q);subst e;unfold clsIn at hc;split at hc
  ·rename_i ho;exact nomatch (X _ _ ho).symm.trans htp
  cases hc
 ca:=λX I k=>Eb X I c xt k
end
theorem Ax {E:Z1->Rv->Prop} (I:Inv X zt σ H s) (h1:H a=XX (.ext (excAt X.K c a)))
 (hk:∀ C,XT X.K c C->S7 X.K (.ref C) cv=XX b) (q:∀ tk,Q (.bool b) { s with toks:=tk }):ZY (RV X.prog X.w) X.A (call (.builtin "isinstance") [.ref a,cv]) Q E s:=by
 obtain ⟨⟨o,C,_,xt,e1,e2⟩,_,_⟩:=I.hok a _ h1;exact TV (Aw c xt) I.kIn ⟨o,e1,e2⟩ (hk C xt) (by intro z;cases z) q
section
theorem Ec (O:Ok X F G sc N) (hx:zV cn=XZ) (hn:aB cn=XZ) (hg:aA sc "isinstance"=XZ) (hg2:aA sc cn=XZ) (hst:noStar e=XZ) (ha:PE X e (tD X F G a)) :
 PE X (.Call (.Name "isinstance" p) [e,.Name cn p2] [] pos) (tD X F G (.isx cn a)):=by
 have hB:=O.blt;have key:∀ {σ:L2.St}{H:Hp}{Q:VK},tD X F G (.isx cn a) σ H Q->tD X F G a σ H λv H1=>∃ ad c,v=.ref ad/\H1 ad=XX (.ext (excAt X.K c ad))/\(∃ C,XT X.K c C)/\Q (.bl (BT.mS c cn)) H1:=λ{σ H Q} q=>by
  obtain ⟨m,s,h,z,h',R,S,ee,zr⟩:=q;simp only[BT.ev] at ee;obtain ⟨x,h1,e1,e2⟩:=ak ee;refine ⟨m,s,h,x,h1,R,S,e1,λv H1 m1 x1 R1 r1=>?_⟩;cases x with
  | x c =>
   cases r1 with
   | x q1 q2 xt =>
    cases e2;exact ⟨_,c,rfl,q1,xt,zr _ H1 m1 x1 R1 (.p (.bl _))⟩
  | _=>exact ay e2
 by_cases hv:cn="ValueError"
 ·subst hv;have hc:PE X (.Name "ValueError" p2) (tC (.ty "ValueError")):=i8 (aM O hg2) (hB _ (by decide)) (u:=.type "ValueError") (by decide +kernel) rfl (by decide) (by decide);have call:cW X (.builtin "isinstance") (λvs H Q=>∃ ad c,vs=[.ref ad,.ty "ValueError"]/\H ad=XX (.ext (excAt X.K c ad))/\Q (.bl (BT.mS c "ValueError")) H):=by
   intro zt s σ H vs us Q I rus h;obtain ⟨ad,c,rfl,q1,q⟩:=h;obtain ⟨u,u2,rfl,ru,ru2⟩:=rus.two;cases ru;cases ru2;exact Ax I q1 (λC xt=>xt.val) λtk=>⟨.bl _,H,I.tok tk,rfl,by
    have:BT.mS c "ValueError"=XZ:=by unfold BT.mS;simp
    rw[← this];exact q⟩
  refine PE.weak (fh call (aM O hg) (hB _ (by decide)) (by decide +kernel) (dg ha (dg hc jw) (ai hst)) (by decide) (by decide) (ai hst) rfl) fun σ H Q q=>?_;obtain ⟨m,s,h,z,h',R,S,ee,zr⟩:=key q;refine ⟨m,s,h,z,h',R,S,ee,λv H1 m1 x1 R1 r1=>?_⟩;obtain ⟨ad,c,rfl,q1,_,q3⟩:=zr v H1 m1 x1 R1 r1;exact ⟨ad,c,rfl,q1,q3⟩
 ·have hx':fO cn=XZ:=by unfold zV at hx;rw[T8] at hx;exact hx.resolve_right λz=>hv (eq_of_beq z)
  have dbg:(cn==("__debug__":ZZ))=X0:=by unfold aB at hn;simp only[Rn] at hn;simpa using hn.1.1
  have hc:PE X (.Name cn p2) (fun σ H Q=>∃ D,X.mg cn=XX (.ref D)/\Q (.ref D) H):=λzt s σ H Q I ⟨D,hm,q⟩=>pK (v:=.ref D) (aM O hg2) hm rfl dbg zt s σ H Q I q;have call:cW X (.builtin "isinstance") (λvs H Q=>∃ ad c D,vs=[.ref ad,.ref D]/\CN X.K cn D/\H ad=XX (.ext (excAt X.K c ad))/\Q (.bl (BT.mS c cn)) H):=by intro zt s σ H vs us Q I rus h;obtain ⟨ad,c,D,rfl,hD,q1,q⟩:=h;obtain ⟨u,u2,rfl,ru,ru2⟩:=rus.two;cases ru;cases ru2;refine Ax I q1 (λC xt=>?_) λtk=>⟨.bl _,H,I.tok tk,rfl,q⟩;obtain ⟨D',h1,h2⟩:=xt.own cn hx';rw[hD.inj h1];exact h2
  have K2:PE X (.Call (.Name "isinstance" p) [e,.Name cn p2] [] pos) _:=fh call (aM O hg) (hB _ (by decide)) (by decide +kernel) (dg ha (dg hc jw) (ai hst)) (by decide) (by decide) (ai hst) rfl;intro zt s0 σ H Q I q;refine K2 zt s0 σ H Q I ?_;obtain ⟨m,s,h,z,h',R,S,ee,zr⟩:=key q;refine ⟨m,s,h,z,h',R,S,ee,λv H1 m1 x1 R1 r1=>?_⟩;obtain ⟨ad,c,rfl,q1,⟨C,xt⟩,q3⟩:=zr v H1 m1 x1 R1 r1;obtain ⟨D,hD,_⟩:=xt.own cn hx';exact ⟨D,Su I.mod.kin I.mod.glob hD,ad,c,D,rfl,hD,q1,q3⟩
end
section
variable {X:Cx}
theorem yh (hu:X.A.units+150 < Xf):MtR X "list.index" (rMe X.prog X.w X.K .lindex):=by
 intro zt s σ H v vs v' us Q I rv rus h;obtain ⟨m,h,x,ws,z,h',R,rx,rws,e,zr⟩:=h;cases x with
 | r n=>cases ws with
  | _=>(first|(cases e;done)|simp[BT.meW] at e)
 | p d =>
  rw[BT.ur] at e;cases g:BT.aP ws with
  | none=>rw[g] at e;cases e
  | some ds =>
   rw[g] at e;obtain ⟨b,e1,e2⟩:=aF e;cases e2;have rds:=rws.pure g;cases d<;>first|exact ay e1|skip
   rename_i xs;cases ds with
   | nil=>exact ay e1
   | cons d0 dr =>
    cases dr with
    | cons _ _=>exact ay e1
    | nil =>
     rw[BT.zB] at e1;split at e1
     ·rename_i c;obtain ⟨j,e3,e4⟩:=aF e1;subst e4;obtain ⟨i,rfl,hi,h1,h2⟩:=jD e3;cases rds with
      | cons r0 rn =>
       cases rn;obtain ⟨u,rfl,ru⟩:=rus.one;cases rx with
       | p rx =>
        obtain ⟨a,vt,rfl,ha,ra⟩:=RR.lst (.d rx);cases rv;obtain ⟨zz,its,n,q1,_,ho⟩:=rdL I ha;have sl:ZX=16777216:=V6;have hl:=q1.length;have hl2:=ra.length;have hi':i < its.toArray.size:=by rw[Rr];lia
        refine Uh F.slot_list_index ⟨_,ho,rfl⟩ F.entry_list_index (F.args_list_index_2 _ _)
         (SeqAt.list_indexAt a its.toArray n XY #[] u (cj s.heap (pd d0)) i hi' (by lia) ?_ ?_) ⟨ho,?_,?_⟩
        rw[show its.toArray[i]=its[i]'(by lia) by simp,jf I ra q1 i (by lia) hi];exact h1
        ·intro k hk hlt;have hk':k < its.length:=by simpa using hk
         rw[show its.toArray[k]=its[k]'hk' by simp,jf I ra q1 k hk' (by lia)];exact h2 k (by lia) hlt
        ·intro y hy;exact fR hu I (.d r0) ru ra q1 c y (by simpa using hy)
        ·refine ⟨.int (((0+i:Nat):Nat):Int),H,I.tok _,⟨s.toks,?_⟩,zr.here R (.int _)⟩;simp
     cases e1
 | _=>(first|(cases e;done)|simp[BT.meW] at e)
theorem Ay (hu:X.A.units+150 < Xf):MtR X "list.count" (rMe X.prog X.w X.K .count):=by
 intro zt s σ H v vs v' us Q I rv rus h;obtain ⟨m,h,x,ws,z,h',R,rx,rws,e,zr⟩:=h;cases x with
 | r n=>cases ws with
  | _=>(first|(cases e;done)|simp[BT.meW] at e)
 | p d =>
  rw[BT.xO] at e;cases g:BT.aP ws with
  | none=>rw[g] at e;cases e
  | some ds =>
   rw[g] at e;obtain ⟨b,e1,e2⟩:=aF e;cases e2;have rds:=rws.pure g;cases d<;>first|exact ay e1|skip
   rename_i xs;cases ds with
   | nil=>exact ay e1
   | cons d0 dr =>
    cases dr with
    | cons _ _=>exact ay e1
    | nil =>
     rw[BT.zA] at e1;split at e1
     ·rename_i c;cases e1;cases rds with
      | cons r0 rn =>
       cases rn;obtain ⟨u,rfl,ru⟩:=rus.one;cases rx with
       | p rx =>
        obtain ⟨a,vt,rfl,ha,ra⟩:=RR.lst (.d rx);cases rv;obtain ⟨zz,its,n,q1,_,ho⟩:=rdL I ha;have hl:=q1.length;have hl2:=ra.length;have ec:its.countP (cj s.heap (pd d0))=xs.countP λy=>BT.eqv y d0:=by
         have key:its.map (cj s.heap (pd d0))=xs.map λy=>BT.eqv y d0:=by refine List.ext_getElem (by rw[RN,RN];lia) λi h1 h2=>?_;rw[RN] at h1 h2;rw[List.getElem_map,List.getElem_map];exact jf I ra q1 i h1 h2
         have cm:∀ {α:Type} (f:α->Bool) (l:List α),l.countP f=(l.map f).countP id:=λf l=>by rw[List.countP_map];rfl
         rw[cm,cm (λy=>BT.eqv y d0),key]
        refine Uh F.slot_list_count ⟨_,ho,rfl⟩ F.entry_list_count (F.args_list_count_2 _ _) (SeqAt.list_countAt a its.toArray n XY #[] u (cj s.heap (pd d0))) ⟨ho,?_,?_⟩
        ·intro y hy;exact fR hu I (.d r0) ru ra q1 c y (by simpa using hy)
        ·refine ⟨.int ((xs.countP λy=>BT.eqv y d0:Nat):Int),H,I.tok _,⟨s.toks,?_⟩,zr.here R (.int _)⟩;rw[← ec]
     cases e1
 | _=>(first|(cases e;done)|simp[BT.meW] at e)
end
structure uF (K:Rm) (J:It) (m0:List Z0) (H0:Hp) (ds:List BT.D) (C:BT.HH->Prop):Prop where
 go:∀ m H h (i:Nat),Ext m0 H0 m H->RH K m H h->C h->i < ds.length->J.go i H
 yld:∀ m H h (i:Nat) x H' d,Ext m0 H0 m H->RH K m H h->C h->ds[i]?=XX d->J.yld i H x H'->Ext m H m H'/\Le H H'/\RD K m H' x d
 stop:∀ m H h,Ext m0 H0 m H->RH K m H h->C h->J.stop ds.length H
def vQ (sr:BT.Sr) (ws:List BT.W):Prop:=BT.eU ws=XZ\/(sr=.seq/\∃ q,ws=[.r q])
def qj (ws:List BT.W) (ds:List BT.D) (h:BT.HH):Prop:=∀ q,ws=[.r q]->BT.lat h q=XX ds
theorem vQ.p (h:vQ sr ws) (n:sr≠.seq):BT.eU ws=XZ:=h.resolve_right λz=>n z.1
theorem m8 (a:BT.eU ws=XZ):qj ws ds h:=λq e=>by subst e;cases a
noncomputable def Itv (K:Rm) (a:Z0) (n:Nat):It :=
 ⟨λi H=>i < n/\∃ xs,SqL K H a xs/\xs.length=n,λi H x H'=>H'=H/\∀ xs,SqL K H a xs->xs[n - 1 - i]?=XX x,λi H=>i=n⟩
theorem Az (a it:Z0) (n:Nat):Turn P w K tg (Itv K a n) [it] it (λi h=>h.IsRevIter it a ((n:Int) - 1 - i)) where
 mem:=by simp
 obj:=λi h st b hb=>by
  have e:b=it:=by simpa using hb
  subst e;obtain ⟨o,e,c,d⟩:=st;exact ⟨o,e,λv z=>by rw[d] at z;cases z⟩
 keep:=λi h h' st k=>st.at λo e=>k it (by simp) o e
 item:=by
  intro X hP hw hK hc i zt s σ H E I hf st hg;subst hP hw hK;obtain ⟨hi,xs,hq,hx⟩:=hg;obtain ⟨its,rv,p,hz⟩:=I.list hq;have hl:=rv.length;have hj:n - 1 - i < xs.length:=by lia
  obtain ⟨u,hu,ru⟩:=rv.get (Ru hj);obtain ⟨f0,f1,f2,f3,f4,f5⟩:=hf it (by simp);have ei:((n:Int) - 1 - (i:Int))=(((n - 1 - i:Nat)):Int):=by lia
  have st':s.heap.IsRevIter it a (((n - 1 - i:Nat)):Int):=by rw[← ei];exact st
  refine wpAny_pyNext_rev_item st' p.isList (x:=u) (by simpa using hu) λh' st'' sb=>?_;have I1:Inv X zt σ H { s with heap:=h' }:=I.turned (t':=s.toks) (λb o hb e=>(sb.2 b hb).trans e) f0 f1 f3 f4 f5;obtain ⟨o,e,c,d⟩:=id st'';refine ⟨u,rfl,vc (s:={ s with heap:=h' }) e c d (by decide) ⟨_,H,I1,ru,⟨rfl,λys hy=>by rw[I.qV hy hq];exact Ru hj⟩,?_,λb hb=>(hf b hb).1⟩⟩;have e2:(((n - 1 - i:Nat)):Int) - 1=(n:Int) - 1 - ((i+1:Nat):Int):=by lia
  rw[e2] at st'';exact st''
 done:=by
  intro X hP hw hK hc i zt s σ H E I hf st hg;subst hP hw hK;have hg:i=n:=hg;subst hg;obtain ⟨f0,f1,f2,f3,f4,f5⟩:=hf it (by simp);have e1:(i:Int) - 1 - (i:Int)=-1:=by lia
  have st':s.heap.IsRevIter it a (-1):=by rw[← e1];exact st
  exact wpAny_pyNext_rev_end (I.ok.hd hc) st' λh' eb=>⟨rfl,I.turned (t':=s.toks) (λb o hb e=>eb b o hb e) f0 f1 f3 f4 f5⟩
 self:=λ_ _ _ _ _ st h=>VU st h
theorem Inv.Ed {X:Cx}{zt:List (Z0×Obj)}{σ:L2.St}{H H':Hp}{s:Rv}{h':Heap}{fp:List Z0}{tk:Nat} (I:Inv X zt σ H s) (hf:∀ b∈fp,nW X zt H b)
 (k:∀ b o,b∉fp->s.heap.get? b=XX o->h'.get? b=XX o) (hs:∀ b,b < s.heap.objs.size->H' b=H b) (hok:HOk X.prog X.w H' h'):Inv X zt σ H' { s with heap:=h',toks:=tk }:=by
 have hlt:∀ b u,H b=XX u->H' b=XX u:=λb u e=>by rw[hs b (I.hok.lt e)];exact e
 refine I.step (g':=s.gens) (d':=s.drawn) (ch:=fp) (λb hb=>?_) (λb o _ _ hc e _=>k b o hc e) (λb o _ _ hc e _=>⟨o.slots,k b o hc e⟩) (λb o _ e n=>by rw[hs b (RB e)];exact n)
  (λb o hc e=>⟨o,k b o hc e⟩) (λb xs e=>hlt b _ e) (λb o u e=>hlt b _ e) (λb ps e=>⟨#[],by rw[hlt b _ e];simp⟩) (λm hm=>?_) hok I.bare
 ·obtain ⟨_,f1,_,f3,f4,f5⟩:=hf b hb;exact ⟨f3,f1,f4,f5⟩
 ·obtain ⟨o,es,ep,ho,r⟩:=hm;exact ⟨o,es,ep,k _ o (λz=>(hf _ z).2.1 rfl) ho,r⟩
inductive iD (X:Cx) (F:FT) (G:ZZ->Option BT.W) (sr:BT.Sr) (sa:BT.Es) (σ:L2.St) (H:Hp) (R:It->Hp->Prop):Prop where
 | mk (m:List Z0) (s:BT.Sl) (h:BT.HH) (ws:List BT.W) (h':BT.HH) (ds:List BT.D) (RR:RH X.K m H h) (S:RS X.prog X.w X.K m H σ s) (e:BT.evs F G sa s h=XX (ws,h')) (e2:(BT.rds ws h').bind (BT.c9 sr)=XX ds) (ha:vQ sr ws)
  (p:∀ H' m' J,Ext m H m' H'->RH X.K m' H' h'->uF X.K J m' H' ds (qj ws ds)->R J H'):iD X F G sr sa σ H R
theorem PI.weak (h:PI X tg e t) (q:∀ σ H R,t' σ H R->t σ H R):PI X tg e t':=λzt s σ H R I hw=>h zt s σ H R I (q _ _ _ hw)
section
theorem Ef (h:(Rd H0 a (.lst vs)/\a∉m0)\/KL K a vs) (r:RDs K m0 H0 vs ds):uF K (Itl K a) m0 H0 ds C:=by
 have k:∀ {m H},Ext m0 H0 m H->SqL K H a vs:=λx=>LL.sq (h.elim (λq=>.inl (Rd.ext x q.1 q.2).1) .inr);refine ⟨λm H hh i x _ _ hi=>?_,λm H hh i v H' d x RR _ hd y=>?_,λm H _ x _ _=>⟨vs,k x,by rw[r.length];exact Rq _⟩⟩;exact ⟨vs,_,k x,Ru (by rw[r.length];exact hi)⟩
 ·obtain ⟨rfl,y⟩:=y;obtain ⟨u,h1,h2⟩:=(r.ext x).get hd;have:=y vs (k x);rw[h1] at this;cases this;exact ⟨.refl _ _,λ_ _ e=>e,h2⟩
theorem IL (h:(Rd H0 a (.tup vs)/\a∉m0)\/KT K a vs) (r:RDs K m0 H0 vs ds):uF K (Itt K a) m0 H0 ds C:=by
 have k:∀ {m H},Ext m0 H0 m H->SqT K H a vs:=λx=>h.elim (λq=>.inl (Rd.ext x q.1 q.2).1) λ⟨o,its,n,q,_⟩=>.inr ⟨o,its,n,q⟩;refine ⟨λm H hh i x _ _ hi=>?_,λm H hh i v H' d x RR _ hd y=>?_,λm H _ x _ _=>⟨vs,k x,by rw[r.length];exact Rq _⟩⟩;exact ⟨vs,_,k x,Ru (by rw[r.length];exact hi)⟩
 ·obtain ⟨rfl,y⟩:=y;obtain ⟨u,h1,h2⟩:=(r.ext x).get hd;have:=y vs (k x);rw[h1] at this;cases this;exact ⟨.refl _ _,λ_ _ e=>e,h2⟩
theorem IM (h:(Rd H0 a (.lst vs)/\a∉m0)\/KL K a vs) (r:RDs K m0 H0 vs ds):uF K (Itv K a ds.length) m0 H0 ds.reverse C:=by
 have k:∀ {m H},Ext m0 H0 m H->SqL K H a vs:=λx=>LL.sq (h.elim (λq=>.inl (Rd.ext x q.1 q.2).1) .inr);refine ⟨λm H hh i x _ _ hi=>?_,λm H hh i v H' d x RR _ hd y=>?_,λm H _ x _ _=>by show ds.reverse.length=ds.length;simp⟩;exact ⟨by simpa using hi,vs,k x,r.length⟩
 ·obtain ⟨rfl,y⟩:=y;have hi:i < ds.length:=by have:=getD_some hd;simpa using this
  have hd':ds[ds.length - 1 - i]?=XX d:=by rw[W9 hi] at hd;exact hd
  obtain ⟨u,h1,h2⟩:=(r.ext x).get hd';have:=y vs (k x);rw[h1] at this;cases this;exact ⟨.refl _ _,λ_ _ e=>e,h2⟩
theorem AB (lo:Int) (n:Nat):uF K (Itr lo n) m0 H0 (BT.upto lo n) C:=by
 have hl:(BT.upto lo n).length=n:=by simp[BT.upto]
 refine ⟨λm H hh i x _ _ hi=>by rw[hl] at hi;exact hi,λm H hh i v H' d x RR _ hd y=>?_,λm H _ x _ _=>by rw[hl];exact Rq n⟩;obtain ⟨rfl,rfl⟩:=y;have:d=.int (lo+i):=by
  have hi:i < n:=by have:=getD_some hd;rw[hl] at this;exact this
  simp only[BT.upto,RY] at hd;rw[Uk hi] at hd;simpa using hd.symm
 subst this;exact ⟨.refl _ _,λ_ _ e=>e,.int _⟩
theorem vR:∀ {ws:List BT.W},BT.eU ws=XZ->∃ ds:List BT.D,ws=ds.map BT.W.p:=by
 intro ws
 induction ws with
 | nil=>exact λ_=>⟨[],rfl⟩
 | cons w ws ih =>
  intro h;cases w with
  | p d =>
   obtain ⟨ds,rfl⟩:=ih h;exact ⟨d::ds,rfl⟩
  | _=>cases h
theorem AC (h:BT.HH) (ds:List BT.D):BT.rds (ds.map BT.W.p) h=XX ds:=by
 induction ds with
 | nil=>rfl
 | cons d ds ih =>
  show (BT.rds (ds.map BT.W.p) h).map (d :: ·)=_;rw[ih];rfl
theorem AD (hs:sr=.seq\/sr=.rev\/sr=.rng1) (e:(BT.rds ws h).bind (BT.c9 sr)=XX ds) (ha:BT.eU ws=XZ):∃ d,ws=[.p d]/\BT.c9 sr [d]=XX ds:=by
 obtain ⟨xs,rfl⟩:=vR ha;rw[AC,UC] at e;cases xs with
 | nil=>rcases hs with rfl|rfl|rfl<;>cases e
 | cons d xs =>
  cases xs with
  | nil=>exact ⟨d,rfl,e⟩
  | cons d2 xs=>rcases hs with rfl|rfl|rfl<;>cases d<;>cases e
theorem qk (e:BT.evs F G (.cons a .nil) s h=XX (ws,h')):∃ w,ws=[w]/\BT.ev F G a s h=XX (w,h'):=by simp only[BT.evs] at e;obtain ⟨w,g,e1,e2⟩:=ak e;simp only[BT.mR,BT.bH,BT.jy] at e2;cases e2;exact ⟨w,rfl,e1⟩
theorem Eg (hq:m0[q]?=XX a):uF K (Itl K a) m0 H0 ds (qj [.r q] ds):=by
 have k:∀ {m H h},Ext m0 H0 m H->RH K m H h->qj [.r q] ds h->∃ vs,SqL K H a vs/\RDs K m H vs ds:=λ{m H h} x RR c=>by
  obtain ⟨e,rfl,_⟩:=x.pre;have e1:(m0++e)[q]?=XX a:=by rw[Rp (List.getElem?_eq_some_iff.mp hq).1];exact hq
  obtain ⟨vs,c1,c2⟩:=RR.cell q a ds e1 (c q rfl);exact ⟨vs,LL.sq (.inl (.inl c1)),c2⟩
 refine ⟨λm H hh i x RR c hi=>?_,λm H hh i v H' d x RR c hd y=>?_,λm H hh x RR c=>?_⟩
 ·obtain ⟨vs,k1,k2⟩:=k x RR c;exact ⟨vs,_,k1,Ru (by rw[k2.length];exact hi)⟩
 ·obtain ⟨vs,k1,k2⟩:=k x RR c;obtain ⟨rfl,y⟩:=y;obtain ⟨u,h1,h2⟩:=k2.get hd;have:=y vs k1;rw[h1] at this;cases this;exact ⟨.refl _ _,λ_ _ e=>e,h2⟩
 ·obtain ⟨vs,k1,k2⟩:=k x RR c;exact ⟨vs,k1,by rw[k2.length];exact Rq _⟩
theorem Eh (he:PE X x (tD X F G a)):PI X tg x (iD X F G .seq (.cons a .nil)):=by
 intro zt s σ H R I q;obtain ⟨m,s',h,ws,h',ds,RR,S,e,e2,ha,zr⟩:=q;rcases ha with ha|⟨_,q,rfl⟩
 case inr =>
  obtain ⟨w,ew,e4⟩:=qk e;cases ew;have g:BT.lat h' q=XX ds:=by
   simp only[BT.rds,BT.rd,Vj] at e2;cases g:BT.lat h' q with
   | none=>rw[g] at e2;cases e2| some xs=>rw[g] at e2;cases e2;rfl
  refine vd he zt s σ H R I ⟨m,s',h,_,h',RR,S,e4,λv H1 m1 x1 R1 r1=>?_⟩;cases r1 with
  | @r a n hn =>
   obtain ⟨vs,c1,c2⟩:=R1.cell q a ds hn g;exact ⟨a,rfl,⟨vs,LL.sq (.inl (.inl c1))⟩,zr H1 m1 _ x1 R1 (Eg hn)⟩
 obtain ⟨d,rfl,e3⟩:=AD (.inl rfl) e2 ha;obtain ⟨w,ew,e4⟩:=qk e;cases ew;rw[BT.zE] at e3;cases d<;>simp only[BT.pT] at e3<;>try contradiction
 ·cases e3;refine G6 he zt s σ H R I ⟨m,s',h,_,h',RR,S,e4,λv H1 m1 x1 R1 r1=>?_⟩;cases r1 with
  | p r1 =>
   cases r1 with
   | @tup a vs _ h r=>exact ⟨a,rfl,⟨vs,h.elim (λq=>.inl q.1) λ⟨o,its,n,q,_⟩=>.inr ⟨o,its,n,q⟩⟩,zr H1 m1 _ x1 R1 (IL h r)⟩
 ·cases e3;refine vd he zt s σ H R I ⟨m,s',h,_,h',RR,S,e4,λv H1 m1 x1 R1 r1=>?_⟩;cases r1 with
  | p r1 =>
   cases r1 with
   | @lst a vs _ h r=>exact ⟨a,rfl,⟨vs,LL.sq (h.elim (λq=>.inl q.1) .inr)⟩,zr H1 m1 _ x1 R1 (Ef h r)⟩
theorem AE (O:Ok X F G sc N) (hg:aA sc "range"=XZ) (hs:noStar e=XZ) (ha:PA X [e] (tDs X F G sa)):PI X tg (.Call (.Name "range" p) [e] [] pos) (iD X F G .rng1 sa):=by
 refine PI.weak (xq (aM O hg) (O.blt _ (by decide)) ha (ai hs)) fun σ H R q=>?_;obtain ⟨m,s',h,ws,h',ds,RR,S,e,e2,ha,zr⟩:=q;obtain ⟨d,rfl,e3⟩:=AD (.inr (.inr rfl)) e2 (ha.p (λz=>by cases z));refine ⟨m,s',h,_,h',RR,S,e,λvs H1 m1 x1 R1 r1=>?_⟩;obtain ⟨j,rfl⟩:∃ j:Int,d=.int j:=by
  cases d with
  | int j=>exact ⟨j,rfl⟩| _=>exact absurd (show (XY:Option (List BT.D))=XX _ from e3) (λz=>nomatch z)
 rw[BT.bB] at e3;split at e3
 ·rename_i c;simp only[Rn,decide_eq_true_eq] at c;cases e3;cases r1 with
  | cons r t =>
   cases t;cases r with
   | p r =>
    cases r;exact ⟨j,rfl,by lia,by lia,zr H1 m1 _ x1 R1 (AB 0 j.toNat)⟩
 cases e3
theorem Mg (e:(BT.rds ws h).bind (BT.c9 .rng2)=XX ds) (ha:BT.eU ws=XZ):∃ i j:Int,ws=[.p (.int i),.p (.int j)]/\(-100000<=i/\i<=100000/\-100000<=j/\j<=100000)/\ds=BT.upto i (j - i).toNat:=by
 obtain ⟨xs,rfl⟩:=vR ha;rw[AC,UC] at e;have hx:∃ i j:Int,xs=[.int i,.int j]:=by
  match xs,e with
  | [.int i,.int j],_=>exact ⟨i,j,rfl⟩
 obtain ⟨i,j,rfl⟩:=hx;rw[BT.cY] at e;split at e
 ·rename_i c;simp only[Rn,decide_eq_true_eq] at c;cases e;exact ⟨i,j,rfl,⟨c.1.1.1,c.1.1.2,c.1.2,c.2⟩,rfl⟩
 cases e
theorem AF (O:Ok X F G sc N) (hg:aA sc "range"=XZ) (hs:noStar x=XZ) (hs2:noStar y=XZ) (ha:PA X [x,y] (tDs X F G sa)):PI X tg (.Call (.Name "range" p) [x,y] [] pos) (iD X F G .rng2 sa):=by
 refine PI.weak (xr (aM O hg) (O.blt _ (by decide)) ha (by rw[ai hs,ai hs2];rfl) (by rw[ai hs2];rfl)) fun σ H R q=>?_;obtain ⟨m,s',h,ws,h',ds,RR,S,e,e2,ha,zr⟩:=q;obtain ⟨i,j,rfl,c,rfl⟩:=Mg e2 (ha.p (λz=>by cases z));refine ⟨m,s',h,_,h',RR,S,e,λvs H1 m1 x1 R1 r1=>?_⟩;cases r1 with
 | cons r t =>
  cases t with
  | cons r2 t2 =>
   cases t2;cases r with
   | p r =>
    cases r;cases r2 with
    | p r2 =>
     cases r2;exact ⟨i,j,rfl,⟨by lia,by lia,by lia,by lia⟩,zr H1 m1 _ x1 R1 (AB i (j - i).toNat)⟩
theorem Ei (O:Ok X F G sc N) (hg:aA sc "reversed"=XZ) (hs:noStar e=XZ) (he:PE X e (tD X F G a)):PI X tg (.Call (.Name "reversed" p) [e] [] pos) (iD X F G .rev (.cons a .nil)):=by
 intro zt s σ H R I q;obtain ⟨m,s',h,ws,h',ds,RR,S,e,e2,ha,zr⟩:=q;obtain ⟨d,rfl,e3⟩:=AD (.inr (.inl rfl)) e2 (ha.p (λz=>by cases z));obtain ⟨w,ew,e4⟩:=qk e;cases ew;obtain ⟨xs,rfl⟩:∃ xs:List BT.D,d=.lst xs:=by
  cases d with
  | lst xs=>exact ⟨xs,rfl⟩| _=>exact absurd (show (XY:Option (List BT.D))=XX _ from e3) (λz=>nomatch z)
 ·cases e3;refine Call_ (dI (u:=.type "reversed") I (aM O hg) (O.blt _ (by decide)) (by decide +kernel) (R0 (thn (dg he jw (ai hs) pos zt s σ H (λvs H1=>∃ a vt,vs=[.ref a]/\∃ m1,Ext m H m1 H1/\RH X.K m1 H1 h'/\((Rd H1 a (.lst vt)/\a∉m1)\/KL X.K a vt)/\RDs X.K m1 H1 vt xs) I ?_) λus s1 ⟨vs,H1,I1,r1,q1⟩=>?_) (ai hs) rfl))
  ·refine ⟨m,s',h,_,h',RR,S,e4,λv H1 m1 x1 R1 r1=>?_⟩;cases r1 with
   | p r1 =>
    cases r1 with
    | @lst a vt _ hh r=>exact ⟨a,vt,rfl,m1,x1,R1,hh,r⟩
  ·obtain ⟨a,vt,rfl,m1,x1,R1,hh,r⟩:=q1;obtain ⟨u,rfl,ru⟩:=vals1 r1;cases ru;obtain ⟨z,its,nn,rv,hl,ee⟩:=rdL I1 (hh.elim (λq=>.inl q.1) .inr);have hL:s1.heap.IsList a its.toArray:=⟨_,ee,rfl,_,rfl⟩;have hlen:=r.length;refine call_reversed_list hL ?_;have stt:({ s1 with heap:=s1.heap.push (revObj a ((its.toArray.size:Int) - 1)) }:Rv).heap.IsRevIter s1.heap.objs.size a ((xs.length:Int) - 1 - ((0:Nat):Int)):=by refine ⟨_,RT _ rfl,rfl,?_⟩;show Data.fields #[.ref a,U3 ((its.toArray.size:Int) - 1)]=_;rw[Rr,← hl,hlen];simp
   refine VU stt ?_;refine ⟨s1.heap.objs.size,[s1.heap.objs.size],_,_,H1,rfl,I1.kept (t':=s1.toks) λb o e=>Ro _ e,Az a _ xs.length,stt,λb hb=>?_,zr H1 m1 _ x1 R1 (IM hh r)⟩;have e:b=s1.heap.objs.size:=by simpa using hb
   subst e;exact I1.C8 (Rq _) (I1.hok.fresh (Rq _))
end
section
variable {K:Rm}
theorem RKs.length {vs:List (Key×V)}{kvs:List (BT.Ky×BT.D)} (r:RKs K m H vs kvs):vs.length=kvs.length:=by
 induction r with
 | nil=>rfl| cons _ _ _ ih=>simp[ih]
theorem RKs.any (r:RKs K m H vs kvs) (k:Key):(vs.any λkv=>decide (kv.1=k))=kvs.any λkv=>decide (kv.1=k):=by
 induction r with
 | nil=>rfl| cons _ _ _ ih=>rw[UO,UO,ih]
theorem RKs.snoc (r:RKs K m H vs kvs) (k:Key) (hk:RD K m H (kV k) (BT.uh k)) (q:RD K m H v d):RKs K m H (vs++[(k,v)]) (kvs++[(k,d)]):=by
 induction r with
 | nil=>exact .cons hk q .nil| cons h r _ ih=>exact .cons h r ih
theorem RKs.repl (r:RKs K m H vs kvs) (k:Key) (q:RD K m H v d):RKs K m H (vs.map λkv=>if kv.1=k then (kv.1,v) else kv) (kvs.map λkv=>if kv.1=k then (kv.1,d) else kv):=by
 induction r with
 | nil=>exact .nil
 | @cons j v1 d1 vs kvs hk r t ih =>
  rw[RZ,RZ]
  by_cases c:j=k
  rw[if_pos c,if_pos c];exact .cons hk q ih;rw[if_neg c,if_neg c];exact .cons hk r ih
theorem RKs.put (r:RKs K m H vs kvs) (k:Key) (hk:RD K m H (kV k) (BT.uh k)) (q:RD K m H v d):RKs K m H (putK vs k v) (BT.lD kvs k d):=by unfold putK BT.lD;rw[r.any k];split;exact r.repl k q;exact r.snoc k hk q
theorem IP {v:V}{d:BT.D}{k:Key} (r:RD K m H v d) (e:BT.rL d=XX k):v=kV k:=by cases r<;>cases e<;>rfl
theorem IQ {v:V}{d:BT.D}{k:Key} (r:RD K m H v d) (e:BT.rL d=XX k):RD K m H (kV k) (BT.uh k):=by
 cases r with
 | int i=>cases e;exact .int i| str x h=>cases e;exact .str x h| _=>cases e
end
section
variable {X:Cx}{F:FT}{G:ZZ->Option BT.W}
theorem Ej:PE X (.Dict [] [] p) (tD X F G .dnew):=by intro zt s σ H Q I q;obtain ⟨m,sl,h,z,h',R,S,ee,zr⟩:=q;simp only[BT.ev] at ee;cases ee;have hp:H s.heap.objs.size=XY:=I.hok.fresh (Rq _);refine wpAny_Dict_empty ⟨.ref s.heap.objs.size,_,I.laid (a:=s.heap.objs.size) (o:=.dK []) (t':=s.toks) (λ_ _ q=>Ro _ q) (Rq _) (zy s.heap I.big),rfl,?_⟩;refine zr _ _ (m++[s.heap.objs.size]) (iN hp) (R.Ia hp ⟨[],aG,.nil⟩) (.r ?_);rw[← R.len];simp
noncomputable def GA:V->V->V->Hp->(Hp->Prop)->Prop:=λo i v H Q=>∃ p kvs k,o=.ref p/\i=kV k/\H p=XX (.dK kvs)/\kvs.length < ZX/\Q (upd H p (.dK (putK kvs k v)))
theorem set_dict:GZ X GA:=by
 intro zt s σ H o i v ov iv u Q I ro ri rv q;obtain ⟨a,kvs,k,rfl,rfl,e,l,q⟩:=q;cases ro;obtain ⟨z,hd,vs,rel,dd⟩:=zx I.hok e;have hz:vs.length<=ZX:=by rw[← rel.length];exact z
 have hl:(putK kvs k v).length<=ZX:=by have:=rH kvs k v;lia
 refine wpAny_setItem_pairs (hsz:=hz) (La ri) dd λh' dd' hs=>⟨_,?_,q⟩;have he:∃ q,h'.get? a=XX q:=let ⟨q,_,_,hq,_⟩:=dd';⟨q,hq⟩;exact Dz I (by rw[e];exact Ul) hs he (HB hl hd (rel.put k rv) dd')
end
section
variable {E:Z1->Rv->Prop}
end
noncomputable def hpk (H:Hp) (n S:Z0) (bs as:List Z0) (ps:List (Key×V)):Hp:=λb=>if b < n then H b else if b=S then XX (.lst (bs.map V.ref)) else ((as.zip ps).lookup b).map λp=>HO.tup [kV p.1,p.2]
theorem yi {α:Type}{as:List Z0}{ps:List α}{b:Z0}{p:α} (h:(as.zip ps).lookup b=XX p):∃ j:Nat,as[j]?=XX b/\ps[j]?=XX p:=by
 induction as generalizing ps with
 | nil=>cases h
 | cons a as ih =>
  cases ps with
  | nil=>cases h
  | cons q ps =>
   rw[XQ,SO] at h
   by_cases e:b=a
   ·subst e;simp at h;subst h;exact ⟨0,rfl,rfl⟩
   ·rw[beq_eq_false_iff_ne.mpr e] at h;obtain ⟨j,h1,h2⟩:=ih h;exact ⟨j+1,by simpa using h1,by simpa using h2⟩
theorem AG {α:Type}{as:List Z0}{ps:List α} (hr:as.Pairwise (· < ·)) {j:Nat}{b:Z0}{p:α} (h1:as[j]?=XX b) (h2:ps[j]?=XX p):(as.zip ps).lookup b=XX p:=by
 induction as generalizing ps j with
 | nil=>simp at h1
 | cons a as ih =>
  cases ps with
  | nil=>simp at h2
  | cons q ps =>
   rw[XQ,SO];cases j with
   | zero=>simp at h1 h2;subst h1 h2;simp
   | succ j =>
    simp at h1 h2;have hb:=RC h1;rw[List.pairwise_cons] at hr;have ne:b≠a:=UY (hr.1 b hb);rw[beq_eq_false_iff_ne.mpr ne];exact ih hr.2 h1 h2
theorem oX {K:Rm}:∀ {as:List Z0}{vs:List (Key×V)}{kvs:List (BT.Ky×BT.D)},as.length=vs.length->RKs K m H vs kvs →
 (∀ (j:Nat) a p,as[j]?=XX a->vs[j]?=XX p->H a=XX (.tup [kV p.1,p.2])/\a∉m)->RDs K m H (as.map V.ref) (BT.iI kvs)
 | [],_,_,h1,r1,_=>by
  cases r1 with
  | nil=>exact .nil| cons _ _ _=>simp at h1
 | a::as,_,_,h1,r1,k=>by
  cases r1 with
  | nil=>simp at h1
  | @cons key v d vs kvs hk q1 t1 =>
   obtain ⟨k1,k2⟩:=k 0 a _ rfl rfl;exact .cons (.tup (.inl ⟨.inl k1,k2⟩) (.cons hk (.cons q1 .nil))) (oX (by simpa using h1) t1 λj a p e1 e2=>k (j+1) a p (by simpa using e1) (by simpa using e2))
section
variable {X:Cx}{F:FT}{G:ZZ->Option BT.W}
theorem AH {zt:List (Z0×Obj)}{s:Rv}{σ:L2.St}{H:Hp}{o:BT.E}{oe:Rt}{apos pos:Pos}{RQ:Z0->List (Key×V)->Hp->Prop}{Q':Z1->Rv->Prop} (hb:aC oe=XZ) (hl:(apos.endLine==pos.line)=XZ) (hO:PE X oe (tD X F G o)) (I:Inv X zt σ H s)
 (q:tD X F G o σ H λx H1=>∃ a vs,x=.ref a/\H1 a=XX (.dK vs)/\RQ a vs H1) (k:∀ a vs H1 s2 r,Inv X zt σ H1 s2->H1 a=XX (.dK vs)->RQ a vs H1->s2.heap.IsItemsView r a->s2.heap.objs.size=r+1->Q' (.ref r) s2) :
 ZY (RV X.prog X.w) X.A (eval (.Call (.Attribute oe "items" apos) [] [] pos) X.env) Q' X.xe s:=by
 refine Xx (kg hb) hl (thn (hO zt s σ H _ I q) λv s1 zq=>?_);obtain ⟨x,H1,I1,r1,a,vs,ex,e,q1⟩:=zq;subst ex;cases r1;obtain ⟨h1,h2⟩:=uf I1 (x:=.ref a) rfl (T:="dict") (.inr (.inr (.inl ⟨rfl,.inl ⟨_,e⟩⟩)));obtain ⟨z,hd,us,rel,dd⟩:=zx I1.hok e;refine ⟨"dict","dict.items",PySem.F.plainAttrs_dict,Wv,PySem.F.type_dict_items,h1,h2,Vi rfl (Xg ?_)⟩;refine call_meetsIn Wv h1 PySem.F.entry_dict_items (PySem.F.args_dict_items_1 _) (meets_dict_items (aU X.prog X.w) a hd) ⟨⟨us,dd⟩,?_⟩;refine k a vs H1 _ _ (I1.kept (t':=s1.toks) λb o q=>Ro _ q) e q1 ⟨_,RT _ rfl,rfl,rfl⟩ (Ud ..)
theorem IR (rel:KV vs us):∀ {j:Nat}{p:Key×V},vs[j]?=XX p->∃ q,us[j]?=XX q/\p.1=q.1/\RelV p.2 q.2:=by
 unfold KV at rel
 induction rel with
 | nil=>intro j p h;simp at h
 | cons h t ih =>
  intro j p e;cases j with
  | zero=>simp at e;subst e;exact ⟨_,rfl,h⟩
  | succ j =>
   obtain ⟨q,q1,q2⟩:=ih (j:=j) (p:=p) (by simpa using e);exact ⟨q,by simpa using q1,q2⟩
theorem yj {zt:List (Z0×Obj)}{s1:Rv}{σ:L2.St}{H1:Hp}{h':Heap}{tk:Nat}{S:Z0}{acc:Array Z1}{c:Nat}{as bs:List Z0}{vs:List (Key×V)}{us:List (Key×Z1)}{m:List Z0}{h:BT.HH}{kvs:List (BT.Ky×BT.D)}{lo:Z0} (I1:Inv X zt σ H1 s1) (rel:KV vs us) (R:RH X.K m H1 h) (rk:RKs X.K m H1 vs kvs)
 (hS:s1.heap.objs.size<=S) (hlo:s1.heap.objs.size<=lo) (hSl:S∉as) (hz:bs.length<=ZX) (k:∀ b o,s1.heap.get? b=XX o->h'.get? b=XX o) (g1:h'.get? S=XX { cls:=.type "list",data:=.seq acc c }) (g2:as.length=us.length) (g3:PySem.W.KdxG (aU X.prog X.w) us lo h' as) (g4:acc.toList=bs.map Sg) :
 ∃ H2,Inv X zt σ H2 { s1 with heap:=h',toks:=tk }/\H2 S=XX (.lst (bs.map V.ref))/\Ext m H1 m H2/\Le H1 H2/\H1 S=XY/\RDs X.K m H2 (as.map V.ref) (BT.iI kvs):=by
 have low:∀ c:Z0,c < s1.heap.objs.size->hpk H1 s1.heap.objs.size S bs as vs c=H1 c:=λc hc=>if_pos hc;have nS:¬ (S < s1.heap.objs.size):=Nat.not_lt.mpr hS;have atS:hpk H1 s1.heap.objs.size S bs as vs S=XX (.lst (bs.map V.ref)):=by unfold hpk;rw[if_neg nS,if_pos rfl]
 have atA:∀ (j:Nat) a p,as[j]?=XX a->vs[j]?=XX p->hpk H1 s1.heap.objs.size S bs as vs a=XX (.tup [kV p.1,p.2]):=λj a p q1 q2=>by have ha:=RC q1;have ab:=g3.above a ha;unfold hpk;rw[if_neg (Nat.not_lt.mpr (Sj hlo (TF ab))),if_neg (show ¬ a=S from λe=>hSl (by rw[← e];exact ha)),AG g3.rise q1 q2];rfl
 have fresh:∀ c:Z0,s1.heap.objs.size<=c->H1 c=XY:=λc hc=>I1.hok.fresh hc;have live:Le H1 (hpk H1 s1.heap.objs.size S bs as vs):=λc u q=>by rw[low c (I1.hok.lt q)];exact q
 have hok:HOk X.prog X.w (hpk H1 s1.heap.objs.size S bs as vs) h':=λc u q=>by
  by_cases lc:c < s1.heap.objs.size
  ·rw[low c lc] at q;exact (I1.hok c u q).stay (λb o _ w=>k b o w) (λb w=>live b _ w) λb l w=>live b _ w
  ·by_cases ec:c=S
   ·subst ec;rw[atS] at q;cases q;refine ⟨by rw[RN];exact hz,acc.toList,_,?_,by simpa using g1⟩;rw[g4];clear g1 g2 g3 g4 atA atS low live hSl hz
    induction bs with
    | nil=>exact .nil| cons a as ih=>exact .cons rfl ih
   ·have hx:=q;unfold hpk at hx;rw[if_neg lc,if_neg ec] at hx;cases hL:(as.zip vs).lookup c with
    | none=>rw[hL] at hx;cases hx
    | some pr =>
     rw[hL] at hx;cases hx;obtain ⟨j,j1,j2⟩:=yi hL;obtain ⟨key,kk,x,x1,hk,pa⟩:=g3.pairs j c j1;have rp:pr.1=kk/\RelV pr.2 x:=by obtain ⟨q,q1,q2⟩:=IR rel j2;rw[x1] at q1;cases q1;exact q2
     obtain ⟨rp1,rp2⟩:=rp;refine ⟨by show 2<=ZX;decide,[key,x],.cons ?_ (.cons rp2 .nil),_,pa,rfl,_,rfl⟩;rw[rp1];rcases bf (show mC kk key=XZ from hk) with ⟨i,t,rfl,rfl⟩|⟨x,t,rfl,rfl⟩
     exact ⟨t,rfl⟩;exact ⟨t,rfl⟩
 have x:Ext m H1 m (hpk H1 s1.heap.objs.size S bs as vs):=⟨⟨[],by simp,by simp⟩,λc o q _ _=>live c o q,λc q=>by
  cases g:H1 c with
  | none=>rfl
  | some o=>rw[live c o g] at q;cases q⟩
 have ni:∀ c:Z0,s1.heap.objs.size<=c->c∉m:=λc hc=>R.d8 (fresh c hc);have ln:=rel.length;refine ⟨_,Inv.Ed (s:=s1) (tk:=tk) (fp:=[]) I1 (λb hb=>nomatch hb) (λb o _ e=>k b o e) low hok,atS,x,live,fresh S hS,oX (by lia) (rk.ext x) λj a p q1 q2=>⟨atA j a p q1 q2,ni a (Sj hlo (TF (g3.above a (RC q1))))⟩⟩
theorem IS {h:Heap}{a:Z0}{us:List (Key×Z1)} (dd:h.DictOf (aU X.prog X.w) a us):∃ ep,h.DictAt (aU X.prog X.w) a us ep:=by obtain ⟨o,es,ep,z⟩:=dd;exact ⟨ep,o,es,z⟩
theorem Ek (e:BT.HQ x h=XX (z,h')):∃ n kvs,x=.r n/\BT.dat h n=XX kvs/\kvs.length<=BT.lim/\z=.p (.lst (BT.iI kvs))/\h'=h:=by
 cases x with
 | r n =>
  rw[BT.HR] at e;obtain ⟨kvs,e1,e2⟩:=Option.bind_eq_some_iff.mp e;split at e2
  case isFalse=>cases e2
  rename_i c;cases e2;exact ⟨n,kvs,rfl,e1,c,rfl,rfl⟩
 | _=>cases e
theorem IT {sc:SE}{N:List ZZ} (O:Ok X F G sc N) (hu:bV N=XZ) {o:BT.E}{oe:Rt}{np p apos pos:Pos} (hg:aA sc "list"=XZ) (hb:aC oe=XZ) (hl:(apos.endLine==pos.line)=XZ) (hO:PE X oe (tD X F G o)) :
 PE X (.Call (.Name "list" np) [.Call (.Attribute oe "items" apos) [] [] pos] [] p) (tD X F G (.dli o)):=by
 intro zt s σ H Q I q;refine Call_ (dI (u:=.type "list") I (aM O hg) (O.blt _ (by decide)) (by decide +kernel) (R0 ?_ (ai rfl) rfl));rw[ai (show noStar (.Call (.Attribute oe "items" apos) [] [] pos)=XZ from rfl)];show ZY _ _ (U1 ((X0,eval (.Call (.Attribute oe "items" apos) [] [] pos) X.env)::TH p (RX [] X.env))) _ _ s;obtain ⟨m,sl,h,z,h',R,S,ee,zr⟩:=q;simp only[BT.ev] at ee;obtain ⟨x,h1,e1,e2⟩:=ak ee;obtain ⟨n,kvs,rfl,e3,e4,rfl,rfl⟩:=Ek e2;refine Sx (AH hb hl hO I (RQ:=λa vs H1=>∃ m1,RH X.K m1 H1 h'/\RKs X.K m1 H1 vs kvs/\Post X.prog X.w X.K m1 H1 (.p (.lst (BT.iI kvs))) h' Q) ⟨m,sl,h,.r n,h',R,S,e1,λv H1 m1 x1 R1 r1=>?_⟩ λa vs H1 s2 r I2 e q1 iv hsz=>Te ?_)
 ·cases r1 with
  | @r a _ hn =>
   obtain ⟨vs,hH,rk⟩:=R1.Gx n a kvs hn e3;exact ⟨a,vs,rfl,hH,m1,R1,rk,λv5 H5 m5 x5 R5 r5=>zr v5 H5 m5 (x1.trans x5) R5 r5⟩
 ·obtain ⟨m1,R1,rk,zr⟩:=q1;obtain ⟨zz,hd,us,rel,dd⟩:=zx I2.hok e;obtain ⟨ep,da⟩:=IS dd;have l1:=rel.length;refine PySem.W.kdx_call (I2.ok.hd (O.calm hu)) iv da (by lia) λh2 tk acc c as k g1 g2 g3 g4=>?_;obtain ⟨H2,I3,atS,x,le,fr,rr⟩:=yj (tk:=tk) I2 rel R1 rk (Rq _) (Rq _) (λhm=>Sw _ (g3.above _ hm)) (by lia) k g1 g2 g3 g4;have ni:s2.heap.objs.size∉m1:=R1.d8 fr;exact ⟨.ref s2.heap.objs.size,H2,I3,rfl,zr _ _ m1 x (R1.ext x le) (.p (.lst (.inl ⟨.inl atS,ni⟩) rr))⟩
end
section
theorem qm:∀ {xs:List V}{us:List Z1},xs.length=us.length->(∀ (j:Nat) x u,xs[j]?=XX x->us[j]?=XX u->RelV x u)->av xs us:=by
 intro xs
 induction xs with
 | nil =>
  intro us h _;cases us with
  | nil=>exact .nil| cons _ _=>simp at h
 | cons x xs ih =>
  intro us h q;cases us with
  | nil=>simp at h| cons u us=>exact .cons (q 0 x u rfl rfl) (ih (by simpa using h) λj a b e1 e2=>q (j+1) a b (by simpa using e1) (by simpa using e2))
theorem Mh (O:Ok X F G sc N) (hu:bV N=XZ) (hg:aA sc "list"=XZ) (hg2:aA sc "range"=XZ) (hs:noStar ex=XZ) (hA:PA X [ex] (tDs X F G sa)) :
 PE X (.Call (.Name "list" np) [.Call (.Name "range" zp) [ex] [] pos] [] p) (tD X F G (.lsr mu .rng1 sa)):=by
 intro zt s σ H Q I q;have q:=gQ (as:=sa) (k:=λws h=>BT.kLs mu .rng1 ws h) (λs h=>by simp only[BT.ev]) q (R':=λvs H1=>∃ m h ws z h',RH X.K m H1 h/\RWs X.prog X.w X.K m H1 vs ws/\BT.kLs mu .rng1 ws h=XX (z,h')/\Post X.prog X.w X.K m H1 z h' Q) λm h xs z h' vs H1 R r e zr=>⟨m,h,xs,z,h',R,r,e,zr⟩;refine Call_ (dI (u:=.type "list") I (aM O hg) (O.blt _ (by decide)) (by decide +kernel) (R0 ?_ (ai rfl) rfl));rw[ai (show noStar (.Call (.Name "range" zp) [ex] [] pos)=XZ from rfl)];show ZY _ _ (U1 ((X0,eval (.Call (.Name "range" zp) [ex] [] pos) X.env)::TH p (RX [] X.env))) _ _ s;refine Sx (Call_ (dI (u:=.type "range") I (aM O hg2) (O.blt _ (by decide)) (by decide +kernel) (R0 (thn (hA pos zt s σ H _ I q) λus s1 ⟨vs,H1,I1,r1,q1⟩=>?_) (ai hs) rfl)));obtain ⟨m,h,ws,z,h',R,rws,e,zr⟩:=q1;unfold BT.kLs at e;cases g1:(BT.rds ws h).bind (BT.c9 .rng1) with
 | none=>rw[g1] at e;cases e
 | some ds =>
  rw[g1] at e;simp only at e
  by_cases cl:ds.length<=BT.lim
  case neg=>rw[if_neg cl] at e;cases e
  rw[if_pos cl] at e;have ez:BT.new mu ds h=(z,h'):=Ry e;obtain ⟨xs,e1,e2⟩:=Option.bind_eq_some_iff.mp g1;have rr:=fm R rws e1;have hd:∃ j:Int,xs=[.int j]:=by
   match xs,e2 with
   | [.int j],_=>exact ⟨j,rfl⟩
  obtain ⟨j,rfl⟩:=hd;rw[BT.bB] at e2;split at e2
  case isFalse=>cases e2
  rename_i c;simp only[Rn,decide_eq_true_eq] at c;have ed:BT.upto 0 j.toNat=ds:=Ry e2;obtain ⟨v,rfl,r⟩:=rr.one;cases r with
  | d r =>
   cases r;obtain ⟨u,rfl,eu⟩:=vals1 r1;obtain ⟨t,rfl⟩:=eu;refine call_range_1 (Te ?_);refine call_list_range (s:={ s1 with heap:=s1.heap.push { cls:=.type "range",data:=.fields #[.int 0 s1.toks,.int j t,.int 1 (s1.toks+1)] },toks:=s1.toks+1+1 }) (I1.ok.hd (O.calm hu)) (WY ..) (small_one (by lia) (by lia) (by lia) (by lia)) (n:=j.toNat) (by rw[XA];split<;>lia) (by lia) λh2 tk acc c' hk hS hacc=>?_;have nn:ds=((RK j.toNat).map λ(k:Nat)=>(0:Int)+(k:Int)).map BT.D.int:=by rw[← ed,SI];rfl
   have hk':∀ b u,s1.heap.get? b=XX u->h2.get? b=XX u:=λb u q=>hk b u (Ro _ q);have hle:s1.heap.objs.size<=(s1.heap.push { cls:=.type "range",data:=.fields #[.int 0 s1.toks,.int j t,.int 1 (s1.toks+1)] }).objs.size:=by rw[Ud];exact S6 _
   have hv:av (((RK j.toNat).map λ(k:Nat)=>(0:Int)+(k:Int)).map V.int) acc.toList:=by
    refine qm (by simp[hacc.1]) λi x u e1 e2=>?_;obtain ⟨t',rfl⟩:=hacc.2 i u (by simpa using e2);have:x=.int (0+(i:Int)):=by
     rw[SI,RY] at e1;rcases RP i j.toNat with z|z
     ·rw[Uk z] at e1;exact (Ry e1).symm
     rw[Rz (by simpa using z)] at e1;cases e1
    subst this;exact ⟨t',by simp⟩
   have sl:ZX=16777216:=V6;refine ⟨.ref _,_,I1.laid (h':=h2) (t':=tk) (o:=.lst (((RK j.toNat).map λ(k:Nat)=>(0:Int)+(k:Int)).map V.int)) hk' hle ⟨by rw[RN,RN,Uy];lia,acc.toList,c',hv,by simpa using hS⟩,rfl,?_⟩;refine gO (mu:=mu) R (I1.hok.fresh hle) (mX _) ?_;rw[← nn,ez];exact zr
theorem RRs.two {K:Rm}{m:List Z0}{H:Hp}{vs:List V}{d e:BT.D} (r:RRs K m H vs [d,e]):∃ v u,vs=[v,u]/\RR K m H v d/\RR K m H u e:=by
 cases r with
 | cons r t=>obtain ⟨u,rfl,q⟩:=t.one;exact ⟨_,u,rfl,r,q⟩
theorem yk (O:Ok X F G sc N) (hu:bV N=XZ) (hg:aA sc "list"=XZ) (hg2:aA sc "range"=XZ) (hs:noStar ex=XZ) (hs2:noStar ey=XZ) (hA:PA X [ex,ey] (tDs X F G sa)) :
 PE X (.Call (.Name "list" np) [.Call (.Name "range" zp) [ex,ey] [] pos] [] p) (tD X F G (.lsr mu .rng2 sa)):=by
 intro zt s σ H Q I q;have q:=gQ (as:=sa) (k:=λws h=>BT.kLs mu .rng2 ws h) (λs h=>by simp only[BT.ev]) q (R':=λvs H1=>∃ m h ws z h',RH X.K m H1 h/\RWs X.prog X.w X.K m H1 vs ws/\BT.kLs mu .rng2 ws h=XX (z,h')/\Post X.prog X.w X.K m H1 z h' Q) λm h xs z h' vs H1 R r e zr=>⟨m,h,xs,z,h',R,r,e,zr⟩;refine Call_ (dI (u:=.type "list") I (aM O hg) (O.blt _ (by decide)) (by decide +kernel) (R0 ?_ (ai rfl) rfl));rw[ai (show noStar (.Call (.Name "range" zp) [ex,ey] [] pos)=XZ from rfl)];show ZY _ _ (U1 ((X0,eval (.Call (.Name "range" zp) [ex,ey] [] pos) X.env)::TH p (RX [] X.env))) _ _ s;refine Sx (Call_ (dI (u:=.type "range") I (aM O hg2) (O.blt _ (by decide)) (by decide +kernel) (R0 (thn (hA pos zt s σ H _ I q) λus s1 ⟨vs,H1,I1,r1,q1⟩=>?_) (ai hs) (aH (by simp[ao,hs2])))));obtain ⟨m,h,ws,z,h',R,rws,e,zr⟩:=q1;unfold BT.kLs at e;cases g1:(BT.rds ws h).bind (BT.c9 .rng2) with
 | none=>rw[g1] at e;cases e
 | some ds =>
  rw[g1] at e;simp only at e
  by_cases cl:ds.length<=BT.lim
  case neg=>rw[if_neg cl] at e;cases e
  rw[if_pos cl] at e;have ez:BT.new mu ds h=(z,h'):=Ry e;obtain ⟨xs,e1,e2⟩:=Option.bind_eq_some_iff.mp g1;have rr:=fm R rws e1;have hd:∃ i j:Int,xs=[.int i,.int j]:=by
   match xs,e2 with
   | [.int i,.int j],_=>exact ⟨i,j,rfl⟩
  obtain ⟨i,j,rfl⟩:=hd;rw[BT.cY] at e2;split at e2
  case isFalse=>cases e2
  rename_i c;simp only[Rn,decide_eq_true_eq] at c;have ed:BT.upto i (j - i).toNat=ds:=Ry e2;obtain ⟨v,v2,rfl,r,r2⟩:=rr.two;cases r with
  | d r =>
   cases r;cases r2 with
   | d r2 =>
    cases r2;obtain ⟨u,u2,rfl,eu,eu2⟩:=vals2 r1;obtain ⟨t,rfl⟩:=eu;obtain ⟨t2,rfl⟩:=eu2;refine call_range_2 (Te ?_);refine call_list_range (s:={ s1 with heap:=s1.heap.push { cls:=.type "range",data:=.fields #[.int i t,.int j t2,.int 1 s1.toks] },toks:=s1.toks+1 }) (I1.ok.hd (O.calm hu)) (WY ..) (small_one (by lia) (by lia) (by lia) (by lia)) (n:=(j - i).toNat) (by rw[XA];split<;>lia) (by lia) λh2 tk acc c' hk hS hacc=>?_;have nn:ds=((RK (j - i).toNat).map λ(k:Nat)=>i+(k:Int)).map BT.D.int:=by rw[← ed,SI];rfl
    have hk':∀ b u,s1.heap.get? b=XX u->h2.get? b=XX u:=λb u q=>hk b u (Ro _ q);have hle:s1.heap.objs.size<=(s1.heap.push { cls:=.type "range",data:=.fields #[.int i t,.int j t2,.int 1 s1.toks] }).objs.size:=by rw[Ud];exact S6 _
    have hv:av (((RK (j - i).toNat).map λ(k:Nat)=>i+(k:Int)).map V.int) acc.toList:=by
     refine qm (by simp[hacc.1]) λq x u e1 e2=>?_;obtain ⟨t',rfl⟩:=hacc.2 q u (by simpa using e2);have:x=.int (i+(q:Int)):=by
      rw[SI,RY] at e1;rcases RP q (j - i).toNat with z|z
      ·rw[Uk z] at e1;exact (Ry e1).symm
      rw[Rz (by simpa using z)] at e1;cases e1
     subst this;exact ⟨t',by simp⟩
    have sl:ZX=16777216:=V6;refine ⟨.ref _,_,I1.laid (h':=h2) (t':=tk) (o:=.lst (((RK (j - i).toNat).map λ(k:Nat)=>i+(k:Int)).map V.int)) hk' hle ⟨by rw[RN,RN,Uy];lia,acc.toList,c',hv,by simpa using hS⟩,rfl,?_⟩;refine gO (mu:=mu) R (I1.hok.fresh hle) (mX _) ?_;rw[← nn,ez];exact zr
end
end BS
end
section
namespace BX
open PySem PyProof.Rows
section
variable {prog:Se}{w:SB}{A:TR}{E:Z1->Rv->Prop}{s:Rv}{R:Result->Rv->Prop}
end
section
variable {E:Z1->Rv->Prop}
end
end BX
namespace BS
open PySem PySem.Spec PyProof.Rows L2
section
end
end BS
end
section
namespace BS
open PySem PySem.Spec PyProof.Rows L2
section
end
noncomputable def lN (sc:SE) (x:ZZ):Bool:=match sc.names.lookup x with
 | some .local=>XZ| some .cell=>XZ| _=>X0
inductive CT (sc:SE) (N:List ZZ):List (Nat×ZZ)->Rt->Prop where
 | one {i:Nat}{x:ZZ}{p:Pos} (h1:N[i]?=XX x) (h2:lN sc x=XZ):CT sc N [(i,x)] (.Name x p)
 | two {i j:Nat}{x y:ZZ}{p p1 p2:Pos}{k:Nat} (h1:N[i]?=XX x) (h2:lN sc x=XZ) (h3:N[j]?=XX y) (h4:lN sc y=XZ):CT sc N [(i,x),(j,y)] (.Tuple [.Name x p1,.Name y p2] k p)
section
theorem RS.set {K:Rm} (S:RS P w K m H σ s) (r:RW P w K m H v z):RS P w K m H (σ.set i (XX v)) (s.set i (XX z)):=by
 refine ⟨by simp[S.len],λj y e=>?_⟩
 by_cases c:i=j
 ·subst c;have hl:i < s.length:=by
   rcases RP i s.length with q|q
   exact q;rw[Rz (by simpa using q)] at e;cases e
  rw[SG hl] at e;cases e;exact ⟨v,by rw[SG (by rw[S.len];exact hl)],r⟩
 ·rw[So c] at e;obtain ⟨u,h1,h2⟩:=S.get j y e;exact ⟨u,by rw[So c];exact h1,h2⟩
theorem jG (O:Ok X F G sc N) (h:lN sc x=XZ):L2.Loc X.env.scope x:=by
 rw[O.hsc];unfold lN at h;unfold L2.Loc;cases e:sc.names.lookup x with
 | none=>rw[e] at h;cases h
 | some k=>rw[e] at h;cases k<;>first|(exact .inl rfl)|(exact .inr rfl)|cases h
theorem vS (h:jA e=XZ):∀ x,foldedSetIterable e env x=pure x:=by intro x;cases e<;>first|rfl|cases h
def GOk (X:Cx) (tg:List (Nat×ZZ)) (g:TG):Prop:=∀ (m:List Z0) (H:Hp) (σ:L2.St) (s:BT.Sl) (x:V) (d:BT.D) (ds:List BT.D) (Q:L2.St->Hp->Prop),RS X.prog X.w X.K m H σ s->RD X.K m H x d->BT.target tg.length d=XX ds →
 (∀ σ',RS X.prog X.w X.K m H σ' (BT.sets tg ds s)->Q σ' H)->g x σ H Q
theorem sCT (O:Ok X F G sc N) (hc:X.calm=XZ) (h:CT sc N tg te) (hf:∀ q∈tg,X.fn q.2=XZ\/X.env.scope.names.lookup q.2=XX .local):∃ g,PG X te g/\GOk X tg g:=by
 cases h with
 | @one i x p h1 h2 =>
  refine ⟨_,pL (i:=i) O.nd (by rw[O.hN];exact h1) (jG O h2) (hf (i,x) (by simp)),?_⟩;intro m H σ s v d ds Q S r e q;simp only[R6,SY,Wd,BT.jU] at e;cases e;exact q _ (S.set (.p r))
 | @two i j x y p p1 p2 k h1 h2 h3 h4 =>
  refine ⟨_,G1 (n:=2) hc (qZ (pL (i:=i) O.nd (by rw[O.hN];exact h1) (jG O h2) (hf (i,x) (by simp))) (qZ (pL (i:=j) O.nd (by rw[O.hN];exact h3) (jG O h4) (hf (j,y) (by simp))) C7)),?_⟩;intro m H σ s v d ds Q S r e q;have e:BT.unpack 2 d=XX ds:=e;cases r with
  | @tup a vs dd h r =>
   rw[BT.zF] at e;split at e
   ·rename_i c;cases e;have hl:=r.length;refine ⟨a,vs,rfl,h.elim (λq=>.inl q.1) λ⟨o,its,n,q,_⟩=>.inr ⟨o,its,n,q⟩,by rw[hl];exact c,?_⟩;cases r with
    | nil=>simp at c
    | @cons v1 d1 vs' ds' ra t =>
     cases t with
     | nil=>simp at c
     | @cons v2 d2 vs2 ds2 rb t2 =>
      cases t2 with
      | cons _ _=>simp at c
      | nil =>
       refine ⟨v1,[v2],rfl,?_⟩;show Gc (qY j) G0 [v2] (σ.set i (XX v1)) H Q;refine ⟨v2,[],rfl,?_⟩;show G0 [] ((σ.set i (XX v1)).set j (XX v2)) H Q;refine ⟨rfl,q _ ?_⟩;show RS X.prog X.w X.K m H ((σ.set i (XX v1)).set j (XX v2)) ((s.set i (XX (.p d1))).set j (XX (.p d2)));exact RS.set (RS.set S (.p ra)) (.p rb)
   cases e
  | _=>cases e
end
end BS
end
section
namespace BC
open PySem
section
theorem yl {target:Rt} (I:Nat->Rv->Prop)
 (turn:∀ n s,I n s->ZY (RV prog w) A (pyNext it) (λr s₁=>match r with
  | none=>R (.ok .next) s₁
  | some v=>ZY (RV prog w) A (VJ target it v) (λ_ s₀=>ZY (RV prog w) A (WS target env v) (λ_ s₂ =>
   ZY (RV prog w) A (forIn ifs XZ λc r=>if r=XZ then do let ok ← isTrue c env (eval c env);pure (Vb ok) else pure (Vb r)) (λok s₃ =>
    if ok=XZ then ZY (RV prog w) A (eval elt env) (λx s₄ =>
     ZY (RV prog w) A (call (.builtin "list.append") [acc,x]) (λ_ s₅=>∃ m,m < n/\I m s₅) (λ_ _=>False) s₄) (λ_ _=>False) s₃
    else ∃ m,m < n/\I m s₃) (λ_ _=>False) s₂) (λ_ _=>False) s₀) (λ_ _=>False) s₁) (λ_ _=>False) s)
 (n:Nat) (h:I n s):codeAny (RV prog w) A (.compLoop (.ListComp elt [⟨target,iter,ifs,0⟩] scope pos) 0 it acc env) R s:=by
 refine codeAny_loop rfl I (λn s hI=>?_) n h;show ZY _ A ((compTurn (.ListComp elt [⟨target,iter,ifs,0⟩] scope pos) 0 it acc env).onRaise (λx=>do noteFrame x env;theTreesLotGoes x)) _ _ s;refine wpAny_noted ?_;rw[compTurn_list];refine Rx (Xv (Rx (wpAny_mono (turn n s hI) (λr s₁ h₁=>?_) λ_ _ h'=>h'.elim)));cases r with
 | none=>exact wpAny_pure h₁
 | some v =>
  refine Rx (wpAny_mono h₁ (λ_ s₀ h₀'=>?_) λ_ _ h'=>h'.elim);refine Rx (wpAny_mono h₀' (λ_ s₂ h₂=>Rx (wpAny_mono h₂ (λok s₃ h₃=>?_) λ_ _ h'=>h'.elim)) λ_ _ h'=>h'.elim);cases ok with
  | false=>exact wpAny_pure ⟨rfl,h₃⟩
  | true =>
   exact Rx (Rx (wpAny_mono h₃ (λx s₄ h₄=>Rx (wpAny_mono h₄ (λ_ s₅ h₅=>wpAny_pure (wpAny_pure ⟨rfl,h₅⟩)) λ_ _ h'=>h'.elim)) λ_ _ h'=>h'.elim))
end
noncomputable def cQ (cells:List (ZZ×Z0)):List (ZZ×Ut)->List (ZZ×Z0)->List (ZZ×Z0)
 | [],acc=>acc
 | (n,k)::r,acc=>if k==.free then (match cells.lookup n with|some c=>cQ cells r ((n,c)::acc)|none=>cQ cells r acc) else cQ cells r acc
def uG (cells:List (ZZ×Z0)) (names:List (ZZ×Ut)):Prop:=∀ x∈names,x.2=.free->∃ c,cells.lookup x.1=XX c
theorem ng:∀ (names:List (ZZ×Ut)) (acc:List (ZZ×Z0)),uG env.cells names →
 (forIn names acc λx (r:List (ZZ×Z0))=>(if x.2==.free then do let c ← cellOf env x.1;pure (Vb ((x.1,c)::r)) else pure (Vb r):Sem (ForInStep (List (ZZ×Z0)))))=pure (cQ env.cells names acc)
 | [],acc,_=>rfl
 | (n,k)::r,acc,h=>by
  have ih:=λacc=>ng (env:=env) r acc λx hx=>h x (RJ _ hx);rw[List.forIn_cons]
  by_cases c:k=.free
  ·subst c;obtain ⟨a,e⟩:=h (n,.free) RL rfl;have e:env.cells.lookup n=XX a:=e;simp only[cQ,e];show (cellOf env n >>= _) >>= _=_;unfold cellOf;rw[e];exact ih _
  ·have cb:(k==SD)=X0:=by simpa using c
   simp only[cQ,cb];exact ih _
theorem kU {α β:Type}{m m':Sem α}{f:α->Sem β} (h:m=m'):(m >>= f)=(m' >>= f):=by rw[h]
theorem nh {scope:SE}{env:Env} (h:uG env.cells scope.names):closureFor scope env=pure (cQ env.cells scope.names []):=by have:=ng (env:=env) scope.names [] h;unfold closureFor;exact (kU this).trans rfl
theorem nj:∀ {names:List (ZZ×Ut)}{acc:List (ZZ×Z0)},(∀ x c,acc.lookup x=XX c->cells.lookup x=XX c)->∀ x c,(cQ cells names acc).lookup x=XX c->cells.lookup x=XX c
 | [],acc,h,x,c,e=>h x c e
 | (n,k)::r,acc,h,x,c,e=>by
  rw[cQ] at e;split at e
  ·split at e
   ·rename_i a ea;refine nj (λy b q=>?_) x c e;rw[SO] at q;split at q
    ·rename_i hy;have:y=n:=by simpa using hy
     subst this;cases q;exact ea
    exact h y b q
   exact nj h x c e
  exact nj h x c e
theorem lZ:∀ {names:List (ZZ×Ut)}{acc:List (ZZ×Z0)},(∃ c,acc.lookup x=XX c)->∃ c,(cQ cells names acc).lookup x=XX c
 | [],acc,h=>h
 | (n,k)::r,acc,h=>by
  rw[cQ];split
  ·split
   ·refine lZ ?_;rw[SO];split;exact ⟨_,rfl⟩;exact h
   exact lZ h
  exact lZ h
theorem nk:∀ {names:List (ZZ×Ut)}{acc:List (ZZ×Z0)},(x,SD)∈names->(∃ c,cells.lookup x=XX c)->∃ c,(cQ cells names acc).lookup x=XX c
 | [],acc,h,_=>nomatch h
 | (n,k)::r,acc,h,q=>by
  rw[cQ];rcases List.mem_cons.mp h with e|e
  ·cases e;obtain ⟨c,ec⟩:=q;rw[if_pos (by rfl),ec];refine lZ ?_;exact ⟨c,by simp⟩
  ·split
   ·split;exact nk e q;exact nk e q
   exact nk e q
end BC
end
section
namespace BS
open PySem PySem.Spec PyProof.Rows L2
variable {cond:BT.Es}
def nq (F:FT) (G:ZZ->Option BT.W) (sc:SE) (N:List ZZ) (cond:BT.Es) (ifs:List Rt):Prop :=
 (cond=.nil/\ifs=[])\/∃ c c',cond=.cons c .nil/\ifs=[c']/\∀ X',Ok X' F G sc N->PT X' c' (tDT X' F G c)
structure r8 (sc:SE) (N tg:List ZZ) (fv:List (Nat×ZZ)) (scope:SE):Prop where
 k1:scope.kind=.function
 k2:sc.kind=.function
 cell:∀ y∈scope.names,y.2≠.cell
 loc:∀ y∈scope.names,y.2=.local->scope.names.lookup y.1=XX .local
 free:∀ y∈scope.names,y.2=.free->sc.names.lookup y.1=XX .cell
 fvs:∀ q∈fv,N[q.1]?=XX q.2/\(q.2,SD)∈scope.names/\sc.names.lookup q.2=XX .cell/\(bF scope sc).names.lookup q.2=XX .cell
 nd:(tg++fv.map (·.2)).Nodup
theorem oY:∀ {l:List ZZ},jB l=XZ->l.Nodup
 | [],_=>WA
 | x::r,h=>by simp only[jB,Rn,T9] at h;refine List.nodup_cons.mpr ⟨λz=>?_,oY h.2⟩;have:=h.1;simp[z] at this
theorem Mi (h:jC sc N tg fv scope=XZ):r8 sc N tg fv scope:=by
 simp only[jC,Rn] at h;obtain ⟨⟨⟨⟨⟨⟨h1,h2⟩,h3⟩,h4⟩,h5⟩,h6⟩,h7⟩:=h;rw[Tt] at h3 h4 h5 h6;refine ⟨eq_of_beq h1,eq_of_beq h2,λy hy e=>?_,λy hy e=>?_,λy hy e=>?_,λq hq=>?_,oY h7⟩
 ·have:=h3 y hy;rw[e] at this;simp at this
 ·have:=h4 y hy;rw[e] at this;simpa using this
 ·have:=h5 y hy;rw[e] at this;simpa using this
 ·have:=h6 q hq;simp only[Rn] at this;obtain ⟨⟨⟨a,b⟩,c⟩,d⟩:=this;exact ⟨by simpa using a,by simpa using b,by simpa using c,by simpa using d⟩
theorem jH {sc:SE}{x:ZZ}{k:Ut} (hk:k=.cell\/k=.free):∀ {names:List (ZZ×Ut)},(∀ y∈names,y.2≠.cell) →
 (names.map λ(n,k)=>if (k==SD&&sc.kind==.function&&sc.names.lookup n==XX .cell) then (n,Vx) else (n,k)).lookup x=XX k->(x,SD)∈names
 | [],_,h=>by simp at h
 | (n,q)::r,hc,h=>by
  have ih:=jH (sc:=sc) (x:=x) hk (names:=r) λy hy=>hc y (RJ _ hy);replace h:Uj x ((if (q==SD&&sc.kind==.function&&sc.names.lookup n==XX .cell)=XZ then (n,Vx) else (n,q))::(r.map λ(n,k)=>if (k==SD&&sc.kind==.function&&sc.names.lookup n==XX .cell) then (n,Vx) else (n,k)))=XX k:=h;have go:∀ (q':Ut),(q'=q\/(q'=.cell/\q=.free))->Uj x ((n,q')::(r.map λ(n,k)=>if (k==SD&&sc.kind==.function&&sc.names.lookup n==XX .cell) then (n,Vx) else (n,k)))=XX k->(x,SD)∈(n,q)::r:=by
   intro q' hq gl;rw[SO] at gl;split at gl
   ·rename_i hx;have hx:x=n:=by simpa using hx
    subst hx;have e:q'=k:=Ry gl;have hqf:q=.free:=by
     rcases hq with rfl|⟨_,e2⟩
     ·rcases hk with z|z
      exact absurd (e.trans z) (hc (x,q') RL);exact e.trans z
     exact e2
    rw[hqf];exact RL
   exact RJ _ (ih gl)
  by_cases c:(q==SD&&sc.kind==.function&&sc.names.lookup n==XX .cell)=XZ
  ·rw[if_pos c] at h;refine go .cell (.inr ⟨rfl,?_⟩) h;simp only[Rn] at c;exact eq_of_beq c.1.1
  ·rw[if_neg c] at h;exact go q (.inl rfl) h
noncomputable def blk (X:Cx) (N':List ZZ) (s2:Rv) (H1:Hp) (scope:SE) (C:Z0) (fp:List Z0):Cx :=
 { X with N:=N',s₀:=s2,H₀:=H1,env:=XG scope (BC.cQ X.env.cells scope.names []) C X.env,outer:=X.stack,stack:=X.stack,ex:=fp,fn:=λ_=>X0,pn:=[],xe:=λ_ _=>False }
section
variable {X:Cx}{F:FT}{G:ZZ->Option BT.W}{sc:SE}{N:List ZZ}{zt:List (Z0×Obj)}{σ:L2.St}{H1:Hp}{s2:Rv}
theorem lI {scope:SE}{x:ZZ}{c:Z0} (e:(BC.cQ X.env.cells scope.names []).lookup x=XX c):X.env.cells.lookup x=XX c :=
 BC.nj (λ_ _ z=>by simp at z) x c e
theorem r9 (hsc:X.env.scope=sc) (x:ZZ):(XG scope (BC.cQ X.env.cells scope.names []) C X.env).kindOf x=(bF scope sc).names.lookup x:=by subst hsc;rfl
theorem vU (I1:Inv X zt σ H1 s2) (hsc:X.env.scope=sc) (cf:r8 sc N tg fv scope) (hx:(x,SD)∈scope.names):∃ c,(BC.cQ X.env.cells scope.names []).lookup x=XX c:=by refine BC.nk hx (I1.ok.has x (.inl ?_));have:=cf.free _ hx rfl;rw[← hsc] at this;exact this
theorem IU (I1:Inv X zt σ H1 s2) (hsc:X.env.scope=sc) {scope:SE}{tg:List ZZ}{fv:List (Nat×ZZ)} (cf:r8 sc N tg fv scope) {N':List ZZ}{C:Z0}{fp:List Z0} (hC:C=s2.heap.objs.size+1)
 (hf:∀ b∈fp,nW X zt H1 b) (hlt:∀ b∈fp,b < s2.heap.objs.size):(blk X N' s2 H1 scope C fp).Ok where
 mod:=I1.ok.mod
 kind:=cf.k1
 glob:=I1.ok.glob
 blt:=I1.ok.blt
 above:=by show s2.heap.objs.size<=C;rw[hC];exact S6 _
 inj:=λx y c a b=>I1.ok.inj x y c (lI a) (lI b)
 has:=λx hx=>by
  refine vU I1 hsc cf ?_;have hx':(bF scope sc).names.lookup x=XX .cell\/(bF scope sc).names.lookup x=XX .free:=by rw[← r9 hsc (C:=C)];exact hx
  rcases hx' with e|e
  exact jH (.inl rfl) cf.cell e;exact jH (.inr rfl) cf.cell e
 cab:=λx c z=>by cases z
 hd:=I1.ok.hd
 frames:=I1.ok.frames
 stk:=.inl rfl
 exf:=λb hb=>⟨λz=>by have l:=hlt b hb;have z:b=C:=z;rw[z,hC] at l;exact absurd l (Nat.not_lt.mpr (S6 _)),λx c e=>(hf b hb).2.2.2.2.1 x c (lI e)⟩
 bs:=I1.bs
 bsz:=Sj I1.ok.bsz I1.sz
 noex:=λb o e hb=>by
  have q:=(I1.ok.bs b o e).1;rcases (hf b hb).2.2.2.1 with z|z
  exact I1.ok.noex b o e z;exact absurd (RB q) (Nat.not_lt.mpr z)
 exfs:=λb hb z=>by
  rcases List.mem_cons.mp (I1.iF b z) with e|e
  exact (hf b hb).2.1 e;exact (hf b hb).2.2.1 e
 gc:=I1.stack
 frf:=I1.lT
end
noncomputable def lobj (us:List Z1) (n:Nat):Obj:={ cls:=.type "list",data:=.seq us.toArray n }
section
variable {X:Cx}{F:FT}{G:ZZ->Option BT.W}{sc:SE}{N:List ZZ}{zt:List (Z0×Obj)}{σ:L2.St}{H1:Hp}{s2:Rv}
noncomputable def jI (n:Nat) (σ:L2.St) (fv:List (Nat×ZZ)):L2.St:=RO n XY++fv.map λq=>(σ[q.1]?).getD XY
theorem El (I1:Inv X zt σ H1 s2) (hsc:X.env.scope=sc) (hN:X.N=N) (cf:r8 sc N tg fv scope) (hC:C=s2.heap.objs.size+1)
 (hf:∀ b∈fp,nW X zt H1 b) (hlt:∀ b∈fp,b < s2.heap.objs.size) (old:∀ b o,s2.heap.get? b=XX o->h1.get? b=XX o) (hns:h1.Ns C m) (hD:h1.get? s2.heap.objs.size=XX (lobj [] 0)) :
 Inv (blk X (tg++fv.map (·.2)) s2 H1 scope C fp) [(s2.heap.objs.size,lobj [] 0)] (jI tg.length σ fv) H1 { s2 with heap:=h1,toks:=tk } where
 ok:=IU I1 hsc cf hC hf hlt
 os:=rfl
 bare:=I1.bare
 base:=Un.kept old
 loc:=by
  refine ⟨m,hns,λi x v e1 e2 e3=>?_⟩;have e1:(tg++fv.map (·.2))[i]?=XX x:=e1;unfold jI at e2
  by_cases c:i < tg.length
  ·rw[Rp (by simpa using c),Td,if_pos c] at e2;cases e2
  ·rw[RM (by simpa using c)] at e2;rw[RM (by simpa using c)] at e1;simp only[UE,RY] at e1 e2;cases g:fv[i - tg.length]? with
   | none=>rw[g] at e1;cases e1
   | some q =>
    rw[g] at e1 e2;simp only[Vj,UP] at e1 e2;subst e1;obtain ⟨f1,f2,f3,f4⟩:=cf.fvs q (RC g);have e2':σ[q.1]?=XX (XX v):=by
     cases gg:σ[q.1]? with
     | none=>rw[gg] at e2;cases e2| some o=>rw[gg] at e2;simp only[V4] at e2;rw[e2]
    obtain ⟨m0,hn0,hl0⟩:=I1.loc;obtain ⟨u,ru,lk⟩:=hl0 q.1 q.2 v (by rw[hN];exact f1) e2' (by rw[hsc];exact .inr (.inl f3));refine ⟨u,ru,?_⟩;have kc:X.env.kindOf q.2=XX .cell:=by show X.env.scope.names.lookup q.2=_;rw[hsc];exact f3
    rcases lk with ⟨k,_⟩|⟨k,c,ec,o,ho,hd⟩
    rw[kc] at k;cases k
    ·obtain ⟨c',ec'⟩:=vU I1 hsc cf f2;have:=lI ec';rw[ec] at this;cases this;refine .inr ⟨.inl ?_,c,ec',o,old c o ho,hd⟩;show (XG scope (BC.cQ X.env.cells scope.names []) C X.env).kindOf q.2=_;rw[r9 hsc];exact f4
 cell:=λx c e=>by obtain ⟨v,o,ho,hd⟩:=I1.cell x c (lI e);exact ⟨v,o,old c o ho,hd⟩
 free:=I1.hok.fresh (by show s2.heap.objs.size<=C;rw[hC];exact S6 _)
 freeC:=λx c e=>I1.freeC x c (lI e)
 pin:=λp hp=>by
  have e:p=(s2.heap.objs.size,lobj [] 0):=by have:p∈[]++[(s2.heap.objs.size,lobj [] 0)]:=hp;simpa using this
  subst e;refine ⟨hD,I1.hok.fresh (Rq _),?_,?_,λv z=>by cases (show Data.seq _ _=Data.cell v from z)⟩
  ·show s2.heap.objs.size≠C;rw[hC];exact Sk (Tu _)
  ·intro z;obtain ⟨_,o,ho,_⟩:=I1.stack.mem z;exact absurd (RB ho) (Sw _)
 hok:=I1.hok.kept old
 len:=by show (jI tg.length σ fv).length=(tg++fv.map (·.2)).length;simp[jI]
end
noncomputable def tgI:List ZZ->List (Nat×ZZ)
 | [x]=>[(0,x)]| [x,y]=>[(0,x),(1,y)]| _=>[]
theorem qo (h:nmE te=XX x):∃ p,te=.Name x p:=by
 cases te with
 | Name y p=>cases h;exact ⟨p,rfl⟩| _=>exact absurd (show (XY:Option ZZ)=XX _ from h) (λz=>nomatch z)
theorem AI (h:HY te=a::l):∃ k p,te=.Tuple (a::l) k p:=by
 cases te with
 | Tuple xs k p=>cases h;exact ⟨k,p,rfl⟩| _=>exact absurd (show ([]:List Rt)=_::_ from h) (λz=>nomatch z)
theorem Em (h:rV sc tg te=XZ):CT sc (tg++fs) (tgI tg) te/\(tgI tg).length=tg.length/\∀ q∈tgI tg,sc.names.lookup q.2=XX .local:=by
 have st:∀ {x:ZZ},sc.names.lookup x=XX .local->lN sc x=XZ:=λe=>by unfold lN;rw[e]
 unfold rV at h;rw[Rn,T8,Rn,Tt] at h;obtain ⟨h,ha⟩:=h;have lo:∀ {x},x∈tg->sc.names.lookup x=XX .local:=λ{x} hx=>eq_of_beq (ha x hx);rcases h with h|⟨h1,h2⟩
 ·have e:=eq_of_beq h;cases tg with
  | nil=>exact absurd (congrArg Vd e) (by simp)
  | cons x r =>
   cases r with
   | cons _ _=>exact absurd (congrArg Vd e) (by simp)
   | nil =>
    obtain ⟨p,rfl⟩:=qo (Ve e).symm;have l:sc.names.lookup x=XX .local:=lo RL;exact ⟨.one rfl (st l),rfl,λq hq=>by simp[tgI] at hq;subst hq;exact l⟩
 ·have e:=eq_of_beq h2;obtain ⟨x,y,rfl⟩:∃ x y,tg=[x,y]:=by
   have h1:=eq_of_beq h1;cases tg with
   | nil=>simp at h1
   | cons x r =>
    cases r with
    | nil=>simp at h1
    | cons y r =>
     cases r with
     | nil=>exact ⟨x,y,rfl⟩| cons _ _=>simp at h1
  cases g:HY te with
  | nil=>rw[g] at e;exact absurd (congrArg Vd e) (by simp)
  | cons a l =>
   rw[g] at e;cases l with
   | nil=>exact absurd (congrArg Vd e) (by simp)
   | cons b r =>
    cases r with
    | cons _ _=>exact absurd (congrArg Vd e) (by simp)
    | nil =>
     have e1:XX x=nmE a:=Ve e;have e2:XX y=nmE b:=Ve (List.tail_eq_of_cons_eq e);obtain ⟨p1,rfl⟩:=qo e1.symm;obtain ⟨p2,rfl⟩:=qo e2.symm;obtain ⟨k,p,rfl⟩:=AI g;have l1:sc.names.lookup x=XX .local:=lo RL;have l2:sc.names.lookup y=XX .local:=lo (RJ _ RL);exact ⟨.two rfl (st l1) rfl (st l2),rfl,λq hq=>by
      simp[tgI] at hq;rcases hq with rfl|rfl
      exact l1
      ·exact l2⟩
theorem En (h:(tgI tg).length=tg.length) (h0:tg≠[]) (hd:BT.target tg.length d0=XX ds) (hl:sl.length=tg.length+fs.length) (hr:sl.drop tg.length=fs) :
 BT.sets (tgI tg) ds sl=ds.map BT.cN++fs/\(ds.map BT.cN++fs).length=tg.length+fs.length/\(ds.map BT.cN++fs).drop tg.length=fs:=by
 match tg,h,h0 with
 | [],_,h0=>exact absurd rfl h0
 | [x],_,_ =>
  simp only[R6,SY,Wd,BT.jU] at hd hl hr;cases hd
  match sl,hl,hr with
  | a::r,hl,hr =>
   simp only[Xs,VA] at hr;subst hr;exact ⟨rfl,by simp[Nat.add_comm],rfl⟩
 | [x,y],_,_ =>
  have hd:BT.unpack 2 d0=XX ds:=hd;cases d0<;>simp only[BT.unpack] at hd<;>try contradiction
  split at hd
  ·rename_i c;cases hd
   match ds,c with
   | [d1,d2],_ =>
    simp only[R6,SY,Wd] at hl hr
    match sl,hl,hr with
    | a::b::r,hl,hr =>
     simp only[Xs,VA] at hr;subst hr;exact ⟨rfl,by simp;lia,rfl⟩
    | [a],hl,_=>simp at hl;lia| [],hl,_=>simp at hl;lia
  cases hd
 | x::y::z::r,h,_=>simp[tgI] at h
theorem kW:∀ {fv:List (Nat×ZZ)}{fs:BT.Sl},BT.frees s fv=XX fs->fs.length=fv.length/\∀ (i:Nat) (q:Nat×ZZ),fv[i]?=XX q->fs[i]?=s[q.1]?
 | [],fs,e=>by simp[BT.frees] at e;subst e;exact ⟨rfl,λi q z=>by simp at z⟩
 | q::r,fs,e=>by
  simp only[BT.frees] at e;cases g:s[q.1]? with
  | none=>rw[g] at e;cases e
  | some w =>
   rw[g] at e;obtain ⟨fs',e1,e2⟩:=aF e;subst e2;obtain ⟨h1,h2⟩:=kW e1;refine ⟨by simp[h1],λi p z=>?_⟩;cases i with
   | zero=>simp at z;subst z;simp[g]| succ i=>simpa using h2 i p (by simpa using z)
theorem ym {K:Rm} (S:RS P w K m H σ s) (hf:BT.frees s fv=XX fs):RS P w K m H (jI n σ fv) (RO n XY++fs):=by
 obtain ⟨h1,h2⟩:=kW hf;refine ⟨by simp[jI,h1],λi y e=>?_⟩
 by_cases c:i < n
 ·rw[Rp (by simpa using c),Td,if_pos c] at e;cases e
 ·rw[RM (by simpa using c)] at e;simp only[UE] at e;have hi:i - n < fv.length:=by
   rw[← h1];rcases RP (i - n) fs.length with z|z
   exact z;rw[Rz z] at e;cases e
  have g:=Ru hi;rw[h2 _ _ g] at e;obtain ⟨v,hv,r⟩:=S.get _ _ e;refine ⟨v,?_,r⟩;unfold jI;rw[RM (by simpa using c)];simp only[UE,RY,g,Vj,hv,V4]
theorem Eo {rest:List BT.D} (e:BT.bA f n (d::r) h=XX (rest,h2)) :
 ∃ xs o hA rest',BT.target n d=XX xs/\f xs h=XX (o,hA)/\BT.bA f n r hA=XX (rest',h2)/\rest=(match o with|some x=>x::rest'|none=>rest'):=by
 rw[BT.bA] at e;cases g:BT.target n d with
 | none=>rw[g] at e;cases e
 | some xs =>
  rw[g] at e;obtain ⟨o,hA,e1,e2⟩:=ak e;unfold BT.zG at e2;obtain ⟨rest',h3,e3,e4⟩:=ak e2;unfold BT.vq at e4;cases e4;exact ⟨xs,o,hA,rest',rfl,e1,e3,rfl⟩
theorem Un.behind (u:Un fs ex H H' h h1) (a:∀ b,b < h.objs.size->H2 b=H' b) (lt:∀ b o,H b=XX o->b < h.objs.size) (k:∀ b o,b < h.objs.size->h1.get? b=XX o->h2.get? b=XX o):Un fs ex H H2 h h2 where
 keep:=λb o e n c d=>k b o (RB e) (u.keep b o e n c d)
 slot:=λb o e n c d=>by obtain ⟨sl,q⟩:=u.slot b o e n c d;exact ⟨sl,k b _ (RB e) q⟩
 free:=λb o e n d=>by rw[a b (RB e)];exact u.free b o e n d
 there:=λb o e d=>by obtain ⟨o',q⟩:=u.there b o e d;exact ⟨o',k b o' (RB e) q⟩
 tups:=λb xs e=>by rw[a b (lt b _ e)];exact u.tups b xs e
 frzs:=λb o w e=>by rw[a b (lt b _ e)];exact u.frzs b o w e
 tbls:=λb ps e=>by rw[a b (lt b _ e)];exact u.tbls b ps e
section
theorem IV (O:Ok X F G sc N) (hu:bV N=XZ) (cf:r8 sc N tg fv scope) :
 Ok (blk X (tg++fv.map (·.2)) s2 H1 scope C fp) F G (bF scope sc) (tg++fv.map (·.2)) where
 hsc:=by have:=O.hsc;subst this;rfl
 hN:=rfl
 nd:=cf.nd
 calm:=λ_=>O.calm hu
 hu:=O.hu
 own:=UF
 glob:=O.glob
 call:=O.call
 meth:=O.meth
 mkc:=O.mkc
 blt:=O.blt
 lam:=O.lam
 lamx:=λh=>absurd (show X0=XZ from h "") (by decide)
theorem AJ (e:BT.mQ mu sr n (XX fs) ec ee ws h=XX z) (g:(BT.rds ws h).bind (BT.c9 sr)=XX ds) :
 vQ sr ws/\∃ f',(∀ xs h r,f' xs h=XX r->BT.d7 ec ee fs xs h=XX r/\qj ws ds r.2)/\qj ws ds h/\BT.bnd (BT.bA f' n ds h) (BT.fj mu)=XX z:=by
 unfold BT.mQ at e;rw[g] at e;simp only at e
 by_cases ca:BT.eU ws=XZ
 ·rw[if_pos ca] at e;exact ⟨.inl ca,_,λxs h r q=>⟨q,m8 ca⟩,m8 ca,e⟩
 ·rw[if_neg ca] at e;have two:sr=.seq/\∃ q,ws=[.r q]:=by unfold BT.uw at e;split at e;exact ⟨rfl,_,rfl⟩;cases e
  obtain ⟨rfl,q,rfl⟩:=two;rw[BT.rP] at e;have gl:BT.lat h q=XX ds:=by
   simp only[BT.rds,BT.rd,Vj] at g;cases g1:BT.lat h q with
   | none=>rw[g1] at g;cases g| some xs=>rw[g1] at g;cases g;rfl
  refine ⟨.inr ⟨rfl,q,rfl⟩,_,λxs h r q=>?_,λq' e'=>by cases e';exact gl,e⟩;unfold BT.chk at q;cases g2:BT.d7 ec ee fs xs h with
  | none=>rw[g2] at q;cases q
  | some r2 =>
   rw[g2] at q;simp only at q;split at q
   ·rename_i c;cases q;exact ⟨rfl,λq' e'=>by cases e';exact c⟩
   cases q
inductive LI (X:Cx) (F:FT) (G:ZZ->Option BT.W) (scope:SE) (tg:List ZZ) (fv:List (Nat×ZZ)) (cond:BT.Es) (elt:BT.E) (s2:Rv) (H1:Hp) (C:Z0) (fp:List Z0) (tn:Nat->Heap->Prop) (m1:List Z0) (ds outs:List BT.D) (fs:BT.Sl) (h2:BT.HH) (f':List BT.D->BT.HH->Option (Option BT.D×BT.HH)) (Cc:BT.HH->Prop) (n:Nat) (s:Rv):Prop where
 | mk (i:Nat) (σ':L2.St) (H':Hp) (m':List Z0) (hh:BT.HH) (out rest:List BT.D) (vs:List V) (us:List Z1) (nn:Nat) (sl:BT.Sl) (p0:i<=ds.length) (p1:n=ds.length - i) (p2:Inv (blk X (tg++fv.map (·.2)) s2 H1 scope C fp) [(s2.heap.objs.size,lobj us nn)] σ' H' s) (p3:tn i s.heap) (p4:(∀ b∈fp,H' b=XY)) (p5:Ext m1 H1 m' H') (p6:RH X.K m' H' hh) (p7:RS X.prog X.w X.K m' H' σ' sl) (p8:sl.length=tg.length+fs.length) (p9:sl.drop tg.length=fs) (p10:av vs us) (p11:RDs X.K m' H' vs out) (p12:BT.bA f' tg.length (ds.drop i) hh=XX (rest,h2)) (p13:out++rest=outs) (p14:Cc hh):LI X F G scope tg fv cond elt s2 H1 C fp tn m1 ds outs fs h2 f' Cc n s
structure Apart (X:Cx) (zt:List (Z0×Obj)) (H:Hp) (C:Z0):Prop where
 fr:H C=XY
 lo:C≠X.env.locals
 ab:X.s₀.heap.objs.size<=C
 ce:∀ x c,X.env.cells.lookup x=XX c->c≠C
 pi:∀ p∈X.pn++zt,p.1≠C
theorem oZ (O:Ok X F G sc N) (hu:bV N=XZ) 
 (hk:jC sc N tg fv scope=XZ) (ht:rV (bF scope sc) tg te=XZ) (hset:jA iter=XZ) (hI:PI X te iter (iD X F G sr sa)) (hC:nq F G (bF scope sc) (tg++fv.map (·.2)) cond ifs)
 (hE:∀ X',Ok X' F G (bF scope sc) (tg++fv.map (·.2))->PE X' elt' (tD X' F G elt)):∀ (zt:List (Z0×Obj)) (s:Rv) (σ:L2.St) (H:Hp) (Q:VK) (use:Option (Z1->Sem Unit)) (Q':Z1->Rv->Prop),Inv X zt σ H s->tD X F G (.comp mu sr sa tg fv cond elt) σ H Q →
 (∀ (s6:Rv) (H6:Hp) (C D:Z0) (m:ZZ->Option Z1),Inv X zt σ H6 s6->s6.heap.Ns C m->Apart X zt H6 C->Q (.ref D) H6->compPost (RV X.prog X.w) X.A X.xe use Q' (.ref D) C (.ok .next) s6) →
 ZY (RV X.prog X.w) X.A (comprehension (.ListComp elt' [⟨te,iter,ifs,0⟩] scope pos) scope X.env (firstIterPos [⟨te,iter,ifs,0⟩] pos) (newList []) X0 (eval iter X.env) use) Q' X.xe s:=by
 have cf:=Mi hk;obtain ⟨ct,tl,tloc⟩:=Em (fs:=fv.map (·.2)) ht;have t0:tg≠[]:=by
  rintro rfl
  simp[rV] at ht
 intro zt s σ H Q use Q' I q hfin;obtain ⟨m,s',h,z,h',R,S,ee,zr⟩:=q;simp only[BT.ev] at ee;obtain ⟨ws,h1,e1,e2⟩:=ak ee;cases g1:(BT.rds ws h1).bind (BT.c9 sr) with
 | none=>unfold BT.mQ at e2;rw[g1] at e2;cases e2
 | some ds =>
  cases g2:BT.frees s' fv with
  | none=>unfold BT.mQ at e2;rw[g1,g2] at e2;cases e2
  | some fs =>
   rw[g2] at e2;obtain ⟨ca,f',hf',c1,e2⟩:=AJ e2 g1;obtain ⟨outs,h2,e3,e4⟩:=ak e2;unfold BT.fj at e4
   by_cases cl:outs.length<=BT.lim
   case neg=>rw[if_neg cl] at e4;cases e4
   rw[if_pos cl] at e4;have ez:BT.new mu outs h2=(z,h'):=Ry e4;have hfree:BC.uG X.env.cells scope.names:=λx hx e=>I.ok.has x.1 (.inl (by
    have:=cf.free x hx e;show X.env.scope.names.lookup x.1=_;rw[O.hsc];exact this))
   refine wpAny_comprehension_free (use:=use) rfl (vS hset) (BC.nh hfree) cf.k1 cf.loc
    (thn (hI zt s σ H (λJ H1=>∃ m1,Ext m H m1 H1/\RH X.K m1 H1 h1/\uF X.K J m1 H1 ds (qj ws ds)) I ⟨m,s',h,ws,h1,ds,R,S,e1,g1,ca,λH1 m1 J x1 R1 it=>⟨m1,x1,R1,it⟩⟩) λv s1 hv=>thn hv λitv s2 h2'=>?_)
   obtain ⟨it,fp,tn,J,H1,rfl,I1,T,st,hf,m1,x1,R1,ito⟩:=h2';have hlt:∀ b∈fp,b < s2.heap.objs.size:=λb hb=>by obtain ⟨o,ho,_⟩:=T.obj 0 _ st b hb;exact RB ho
   refine UJ (wpAny_newFunctionEnv cf.cell (by intro y hy;simp at hy) (λh3 hns hsb=>?_) cf.k1);dsimp only at hns hsb ⊢;generalize hH2:s2.heap.push { cls:=.type "list",dict:=XY,data:=.seq ([]:List Z1).toArray }=H2 at hns hsb ⊢;have hCs:H2.objs.size=s2.heap.objs.size+1:=by rw[← hH2,Ud]
   have old:∀ b o,s2.heap.get? b=XX o->h3.get? b=XX o:=λb o e=>hsb.extBut b o (by rw[hCs];exact Sk (Nat.lt_succ_of_lt (RB e))) (Ro _ (hH2 ▸ Ro _ e));have hacc:h3.get? s2.heap.objs.size=XX (lobj [] 0):=hsb.extBut _ _ (by rw[hCs];exact Sk (Tu _)) (Ro _ (hH2 ▸ RT _ rfl));have I4:=El (tk:=s2.toks+([]:List (ZZ×Z1)).length) I1 O.hsc O.hN cf hCs hf hlt old hns hacc;have O':=IV (s2:=s2) (H1:=H1) (C:=H2.objs.size) (fp:=fp) O hu cf;obtain ⟨g,hg1,hg2⟩:=sCT O' (O.calm hu) ct λq hq=>.inr (by rw[O'.hsc];exact tloc q hq);have hfl:fs.length=fv.length:=(kW g2).1;have stat:∀ {H':Hp}{o:Obj},(∀ b∈fp,H' b=XY)->∀ b∈fp,nW (blk X (tg++fv.map (·.2)) s2 H1 scope H2.objs.size fp) [(s2.heap.objs.size,o)] H' b:=λ{H' o} hn b hb=>by
    refine ⟨hn b hb,?_,?_,.inl hb,λx c e=>(hf b hb).2.2.2.2.1 x c (lI e),λp hp=>?_⟩
    ·show b≠H2.objs.size;rw[hCs];exact Sk (Nat.lt_succ_of_lt (hlt b hb))
    ·intro zz;rcases List.mem_cons.mp (I1.iF b zz) with e|e
     exact (hf b hb).2.1 e;exact (hf b hb).2.2.1 e
    ·have hp':p=(s2.heap.objs.size,o):=by have:p∈[]++[(s2.heap.objs.size,o)]:=hp;simpa using this
     rw[hp'];show s2.heap.objs.size≠b;exact UY (hlt b hb)
   have loop:∀ s4:Rv,s4={ s2 with heap:=h3,toks:=s2.toks+([]:List (ZZ×Z1)).length } →
    codeAny (RV X.prog X.w) X.A (.compLoop (.ListComp elt' [⟨te,iter,ifs,0⟩] scope pos) 0 (.ref it) (.ref s2.heap.objs.size) (XG scope (BC.cQ X.env.cells scope.names []) H2.objs.size X.env))
     (compPost (RV X.prog X.w) X.A X.xe use Q' (.ref s2.heap.objs.size) H2.objs.size) s4:=by
    rintro s4 rfl
    refine BC.yl (LI X F G scope tg fv cond elt s2 H1 H2.objs.size fp tn m1 ds outs fs h2 f' (qj ws ds)) ?_
     ds.length ⟨0,_,H1,m1,h1,[],outs,[],[],0,_,SC _,rfl,I4,T.keep 0 _ _ st (λb hb o e=>old b o e),λb hb=>(hf b hb).1,.refl _ _,R1,ym (S.ext x1) g2,by simp,by simp,.nil,.nil,by rw[VA];exact e3,rfl,c1⟩
    rintro n s5 ⟨i,σ5,H5,m5,hh,out,rest,vs,us,nn,sl,hi,rfl,I5,st5,fr5,x5,R5,S5,sl1,sl2,rv5,rd5,go5,ou5,cc5⟩
    by_cases c:i < ds.length
    ·rw[WC c] at go5;obtain ⟨xs,o,hA,rest',eT,eF,eG,eR⟩:=Eo go5;obtain ⟨eF,cA⟩:=hf' _ _ _ eF;refine thn (T.item (blk X (tg++fv.map (·.2)) s2 H1 scope H2.objs.size fp) rfl rfl rfl (O.calm hu) i _ s5 σ5 H5 _ I5 (stat fr5) st5 (ito.go m5 H5 hh i x5 R5 cc5 c)) λr s6 hr=>?_;obtain ⟨u,rfl,hr⟩:=hr;refine thn hr λ_ s7 zq=>?_;obtain ⟨x,H7,I7,r7,y7,st7,fr7⟩:=zq;obtain ⟨x7,k7,rd7⟩:=ito.yld m5 H5 hh i x H7 ds[i] x5 R5 cc5 (Ru c) y7;have R7:=R5.ext x7 k7;have I7':=I7.pinned (stat fr7) (T.obj _ _ st7);obtain ⟨sq1,sq2,sq3⟩:=En tl t0 eT sl1 sl2;refine thn (hg1 _ s7 σ5 H7 x u (fun σ8 H8=>H8=H7/\RS X.prog X.w X.K m5 H7 σ8 (xs.map BT.cN++fs)) I7' r7 (hg2 m5 H7 σ5 sl x ds[i] xs _ (S5.ext x7) rd7 (by rw[tl];exact eT) fun σ8 S8=>⟨rfl,by rw[← sq1];exact S8⟩)) λ_ s8 h8=>?_;obtain ⟨σ8,H8,I8,rfl,S8⟩:=h8;have kept:∀ {s9:Rv}{σ9:L2.St}{H9:Hp},Inv (blk X (tg++fv.map (·.2)) s2 H1 scope H2.objs.size fp) ([(s2.heap.objs.size,lobj us nn)]++kM fp s7.heap) σ9 H9 s9->tn (i+1) s9.heap/\∀ b∈fp,H9 b=XY:=λ{s9 σ9 H9} I9=>by refine ⟨T.keep _ _ _ st7 λb hb o e=>(I9.pin (b,o) (Sh _ (Sh _ (gH hb e)))).1,λb hb=>?_⟩;obtain ⟨o,e,_⟩:=T.obj _ _ st7 b hb;exact (I9.pin (b,o) (Sh _ (Sh _ (gH hb e)))).2.1
     have elem:∀ {s9:Rv}{H9:Hp}{m9:List Z0}{h9:BT.HH}{w:BT.W}{hB:BT.HH}{d:BT.D},Inv (blk X (tg++fv.map (·.2)) s2 H1 scope H2.objs.size fp) ([(s2.heap.objs.size,lobj us nn)]++kM fp s7.heap) σ8 H9 s9->Ext m5 H8 m9 H9->RH X.K m9 H9 h9 →
      BT.ev F G elt (xs.map BT.cN++fs) h9=XX (w,hB)->BT.n9 w hB=XX (XX d,hA)->o=XX d →
      ZY (RV X.prog X.w) X.A (eval elt' (XG scope (BC.cQ X.env.cells scope.names []) H2.objs.size X.env)) (λx s₄ =>
       ZY (RV X.prog X.w) X.A (call (.builtin "list.append") [.ref s2.heap.objs.size,x]) (λ_ s₅=>∃ m,m < ds.length - i/\LI X F G scope tg fv cond elt s2 H1 H2.objs.size fp tn m1 ds outs fs h2 f' (qj ws ds) m s₅) (λ_ _=>False) s₄) (λ_ _=>False) s9:=by
      intro s9 H9 m9 h9 w hB d I9 x9 R9 eE eK eO;have ew:w=.p d/\hB=hA:=by
       unfold BT.n9 at eK;cases w with
       | p d'=>cases eK;exact ⟨rfl,rfl⟩| _=>cases eK
      obtain ⟨rfl,rfl⟩:=ew;refine thn (hE _ O' _ s9 σ8 H9 (λv Ha=>∃ ma,Ext m9 H9 ma Ha/\RH X.K ma Ha hB/\RD X.K ma Ha v d) I9 ⟨m9,_,h9,_,hB,R9,S8.ext x9,eE,λv Ha ma xa Ra ra=>by cases ra with|p ra=>exact ⟨ma,xa,Ra,ra⟩⟩) λu10 s10 ⟨v10,H10,I10,r10,m10,x10,R10,rd10⟩=>?_
      obtain ⟨pD,nD,neD,nfD,_⟩:=I10.pin (s2.heap.objs.size,lobj us nn) (by simp);have lus:=rv5.length;have lvs:=rd5.length;have lou:out.length<=outs.length:=by rw[← ou5];simp
      have lle:=cO;have cl':outs.length<=BT.lim:=cl;refine wpAny_list_append_plain ⟨nn,pD⟩ (λh11 hp11 sb11=>?_) (by rw[Rr];lia);obtain ⟨nn',hp11⟩:=hp11;have hp11:h11.get? s2.heap.objs.size=XX (lobj (us++[u10]) nn'):=by rw[hp11];simp[lobj]
      have sb11:Up s2.heap.objs.size s10.heap h11:=sb11;obtain ⟨st10,fr10⟩:=kept I10;have I11:Inv (blk X (tg++fv.map (·.2)) s2 H1 scope H2.objs.size fp) [] σ8 H10 { s10 with heap:=h11 } :=
       Inv.turned (t':=s10.toks) (I10.lU (λp hp=>by cases hp)) (λb o hb e=>(sb11.2 b hb).trans e) nD neD (.inr (Rq _)) (λx c e zz=>by obtain ⟨v,o,ho,_⟩:=I1.cell x c (lI e);have:=RB ho;rw[zz] at this;exact absurd this (Sw _)) λp hp=>by cases hp
      have I12:Inv (blk X (tg++fv.map (·.2)) s2 H1 scope H2.objs.size fp) [(s2.heap.objs.size,lobj (us++[u10]) nn')] σ8 H10 { s10 with heap:=h11 }:=I11.lU λp hp=>by simp only[XR] at hp;subst hp;exact ⟨hp11,nD,neD,nfD,λv zz=>by cases (show Data.seq _ _=Data.cell v from zz)⟩
      have xt:Ext m5 H5 m10 H10:=(x7.trans x9).trans x10;refine ⟨ds.length - (i+1),by lia,i+1,σ8,H10,m10,hB,out++[d],rest',vs++[v10],us++[u10],nn',_,c,rfl,I12,?_,fr10,x5.trans xt,R10,(S8.ext x9).ext x10,sq2,sq3,rv5.append (.cons r10 .nil),(rd5.ext xt).append (.cons rd10 .nil),eG,?_,cA⟩
      ·refine T.keep _ _ _ st10 λb hb o' e=>(sb11.2 b ?_).trans e;exact Sk (hlt b hb)
      rw[← ou5,eR,eO,SW];rfl
     unfold BT.d7 at eF;obtain ⟨cs,hc,eC,eK⟩:=ak eF;rcases hC with ⟨rfl,rfl⟩|⟨cc,cc',rfl,rfl,hCC⟩
     ·simp only[BT.evs] at eC;cases eC;have eK:=(show BT.bnd _ BT.n9=_ from eK);obtain ⟨w,hB,eE,eL⟩:=ak eK;refine wpAny_tests_nil ?_;rw[if_pos rfl];have:∃ d,o=XX d:=by
       unfold BT.n9 at eL;cases w with
       | p d'=>cases eL;exact ⟨_,rfl⟩| _=>cases eL
      obtain ⟨d,rfl⟩:=this;exact elem I8 (.refl _ _) R7 eE eL rfl
     ·simp only[BT.evs] at eC;obtain ⟨wc,hc2,eC1,eC2⟩:=ak eC;simp only[BT.mR,BT.bH,BT.jy] at eC2;cases eC2;have hb:∃ b,wc=.p (.bl b):=by
       cases wc with
       | p d =>
        cases d<;>first|exact ⟨_,rfl⟩|exact ay eK
       | _=>exact ay eK
      obtain ⟨b,rfl⟩:=hb;refine wpAny_tests_one (thn (hCC _ O' _ s8 σ8 H8 (λb' Ha=>b'=b/\∃ ma,Ext m5 H8 ma Ha/\RH X.K ma Ha hc) I8 ⟨m5,_,hh,b,hc,R7,S8,eC1,λHa ma xa Ra=>⟨rfl,ma,xa,Ra⟩⟩) λb' s9 zq=>?_);obtain ⟨H9,I9,hbb,m9,x9,R9⟩:=zq;subst hbb;cases b' with
      | false =>
       have eK:=(show XX ((XY:Option BT.D),hc)=XX _ from eK);cases eK;rw[if_neg (by decide)];obtain ⟨st9,fr9⟩:=kept I9;have xt:Ext m5 H5 m9 H9:=x7.trans x9;refine ⟨ds.length - (i+1),by lia,i+1,σ8,H9,m9,hA,out,rest',vs,us,nn,_,c,rfl,I9.jM,st9,fr9,x5.trans xt,R9,S8.ext x9,sq2,sq3,rv5,rd5.ext xt,eG,?_,cA⟩;rw[← ou5,eR]
      | true =>
       have eK:=(show BT.bnd _ BT.n9=_ from eK);rw[if_pos rfl];obtain ⟨w,hB,eE,eL⟩:=ak eK;have:∃ d,o=XX d:=by
        unfold BT.n9 at eL;cases w with
        | p d'=>cases eL;exact ⟨_,rfl⟩| _=>cases eL
       obtain ⟨d,rfl⟩:=this;exact elem I9 x9 R9 eE eL rfl
    ·have ei:i=ds.length:=by lia
     subst ei;rw[List.drop_length,BT.bA] at go5;cases go5;rw[R8] at ou5;subst ou5;refine thn (T.done (blk X (tg++fv.map (·.2)) s2 H1 scope H2.objs.size fp) rfl rfl rfl (O.calm hu) _ _ s5 σ5 H5 _ I5 (stat fr5) st5 (ito.stop m5 H5 _ x5 R5 cc5)) λr s6 zq=>?_;obtain ⟨hr,I6⟩:=zq;subst hr;obtain ⟨mm,hmm,_⟩:=I6.loc;obtain ⟨pD,nD,neD,nfD,_⟩:=I6.pin (s2.heap.objs.size,lobj us nn) (by simp);have neD:s2.heap.objs.size≠H2.objs.size:=neD;have hos:s6.os=s2.os:=I6.os;have lus:=rv5.length;have lvs:=rd5.length;have lle:=cO;have cl':out.length<=BT.lim:=cl;have hok:HOk X.prog X.w (upd H5 s2.heap.objs.size (.lst vs)) s6.heap:=λb u e=>by
      by_cases eb:b=s2.heap.objs.size
      ·subst eb;rw[aG] at e;cases e;exact ⟨by lia,us,nn,rv5,pD⟩
      ·rw[au eb] at e;refine (I6.hok b u e).stay (λc v hc q=>q) (λc q=>?_) λc l q=>?_;rw[au (λzz=>by rw[zz,nD] at q;cases q)];exact q;rw[au (λzz=>by rw[zz,nD] at q;cases q)];exact q
     have u7:Un (frs X.stack) fp H1 (upd H5 s2.heap.objs.size (.lst vs)) s2.heap s6.heap:=Un.behind (h1:=s6.heap) I6.base (λb hb=>au (Sk hb)) (λb o e=>I1.hok.lt e) λb o hb e=>e;have I7:=I1.call (g':=s6.gens) (t':=s6.toks) (d':=s6.drawn) (ch:=fp) u7 hok I6.bare λb hb=>⟨(hf b hb).2.2.2.1,(hf b hb).2.1,(hf b hb).2.2.2.2.1,(hf b hb).2.2.2.2.2⟩;have fr6:H5 H2.objs.size=XY:=I6.free;have ltC:s2.heap.objs.size < H2.objs.size:=by rw[hCs];exact Tu _
     have ap:Apart X zt (upd H5 s2.heap.objs.size (.lst vs)) H2.objs.size:=by
      refine ⟨by rw[au (Ti neD)];exact fr6,?_,?_,λx c e zz=>?_,λp hp zz=>?_⟩;exact UY (We I1.lt ltC);exact Sj I1.sz (TF ltC)
      ·obtain ⟨v,o,ho,_⟩:=I1.cell x c e;have l:=RB ho;rw[zz] at l;exact absurd (We l ltC) (Sw _)
      ·have l:=RB (I1.pin p hp).1;rw[zz] at l;exact absurd (We l ltC) (Sw _)
     refine hfin s6 _ _ _ mm ?_ hmm ap (gO (mu:=mu) R5 nD rd5 (by rw[ez];exact λv' H' m' xx RR rr=>zr v' H' m' ((x1.trans x5).trans xx) RR rr));obtain ⟨hp6,g6,d6,t6,os6⟩:=s6;have hos:os6=s2.os:=hos;subst hos;exact I7
   exact codeAny_compStart_list (loop _ rfl) (T.self _ 0 _ _ _ (T.keep 0 _ _ st (λb hb o e=>old b o e)) (loop _ rfl))
theorem Ep (O:Ok X F G sc N) (hu:bV N=XZ) 
 (hk:jC sc N tg fv scope=XZ) (ht:rV (bF scope sc) tg te=XZ) (hset:jA iter=XZ) (hI:PI X te iter (iD X F G sr sa)) (hC:nq F G (bF scope sc) (tg++fv.map (·.2)) cond ifs)
 (hE:∀ X',Ok X' F G (bF scope sc) (tg++fv.map (·.2))->PE X' elt' (tD X' F G elt)):PE X (.ListComp elt' [⟨te,iter,ifs,0⟩] scope pos) (tD X F G (.comp mu sr sa tg fv cond elt)):=by
 intro zt s σ H Q I q;rw[eval_ListComp];refine oZ O hu hk ht hset hI hC hE zt s σ H Q XY _ I q λs6 H6 C D m I6 hn ap hq=>?_;refine ⟨m,hn,λh7 sb7=>?_⟩;have sb7:Up C s6.heap h7:=sb7;exact ⟨.ref D,H6,Inv.turned (t':=s6.toks) I6 (λb o hb e=>(sb7.2 b hb).trans e) ap.fr ap.lo (.inr ap.ab) ap.ce ap.pi,rfl,hq⟩
theorem Er (O:Ok X F G sc N) (hu:bV N=XZ) 
 (hk:jC sc N tg fv scope=XZ) (ht:rV (bF scope sc) tg te=XZ) (hset:jA iter=XZ) (hI:PI X te iter (iD X F G sr sa)) (hC:nq F G (bF scope sc) (tg++fv.map (·.2)) cond ifs)
 (hE:∀ X',Ok X' F G (bF scope sc) (tg++fv.map (·.2))->PE X' elt' (tD X' F G elt)) (hy:N[i]?=XX y) (hl:sc.names.lookup y=XX .local)
 (hsw:U0 (.ListComp elt' [⟨te,iter,ifs,0⟩] scope pos) (XX (.Name y py)) spos.line X.env=pure XZ) :
 PS X (.Assign [.Name y py] (.ListComp elt' [⟨te,iter,ifs,0⟩] scope pos) spos) (xm (tD X F G (.comp mu sr sa tg fv cond elt)) (qY i)):=by
 intro zt s σ H D I q;rw[exec_Assign_Name_used _ _ _ _ hsw];refine Rx (Xv (Rx ?_));show ZY _ X.A (do let _ ← comprehension (.ListComp elt' [⟨te,iter,ifs,0⟩] scope pos) scope X.env _ (newList []) X0 (eval iter X.env) (XX (WS (.Name y py) X.env))) _ _ s;refine Rx (thn (oZ O hu hk ht hset hI hC hE zt s σ H _ (XX (WS (.Name y py) X.env)) (λ_ s'=>SP X zt D .next s') I q λs6 H6 C D' m I6 hn ap hq=>?_) λ_ s' hq=>wpAny_pure (wpAny_pure hq));show ZY _ X.A (WS (.Name y py) X.env (.ref D')) _ _ _;refine wpAny_assign_Name (kL I6 O.nd (by rw[O.hN];exact hy) (.inl (by rw[O.hsc];exact hl)) (v:=.ref D') rfl (λs7 I7 hs=>?_) (.inr (by rw[O.hsc];exact hl)));obtain ⟨a,sb,ha⟩:=hs;have neC:C≠a:=by
  rcases ha with rfl|ha
  exact ap.lo;exact λz=>ap.ce y a ha z.symm
 refine ⟨m,hn.sameBut sb neC,λh8 sb8=>?_⟩;have sb8:Up C s7.heap h8:=sb8;exact ⟨_,H6,Inv.turned (t':=s7.toks) I7 (λb o hb e=>(sb8.2 b hb).trans e) ap.fr ap.lo (.inr ap.ab) ap.ce ap.pi,hq⟩
end
theorem AK:typeLookup (.type "list_reverseiterator") "__len__"=pure XY:=by rw[typeLookup_type,builtinLookup_eq_fast];kernel_rfl
theorem Et:typeLookup (.type "list_reverseiterator") "__length_hint__"=pure (XX (.builtin "list_reverseiterator.__length_hint__")):=by rw[typeLookup_type,builtinLookup_eq_fast];kernel_rfl
section
variable {E:Z1->Rv->Prop}
theorem AL (hi:s.heap.IsRevIter J l i) (h:Q X0 s):ZY (RV prog w) A (VG (.ref J)) Q E s:=by
 delta VG
 refine Rx (wpAny_specialOf hi.typeIs AK ?_);show ZY _ A (specialOf (Sg J) (RG "__length_hint__") >>= _) _ _ _;refine Rx (wpAny_specialOf hi.typeIs Et ?_);generalize hid:("list_reverseiterator.__length_hint__":String)=id1
 wp_delta
 rw[show splitId id1=XX ("list_reverseiterator","__length_hint__") from by subst hid;decide +kernel];subst hid;exact Rx (wpAny_isInstance (b:=XZ) hi.typeIs (by rw[isSubtype_type];kernel_rfl) (wpAny_pure h))
theorem om (hh:A.handled=XY) (hi:s.heap.IsRevIter J l ((its.size:Int) - 1)) (hl:s.heap.IsList l its) (hne:l≠J) (hz:its.size<=ZX)
 (hQ:∀ h' tk acc c,(∀ b o,b≠J->s.heap.get? b=XX o->h'.get? b=XX o)->h'.get? s.heap.objs.size=XX { cls:=.type "list",data:=.seq acc c }->ItemsOf (λi v=>its[its.size - 1 - i]?=XX v) acc its.size->Q (.ref s.heap.objs.size) { s with heap:=h',toks:=tk }) :
 ZY (RV prog w) A (call (.type "list") [.ref J]) Q E s:=by
 refine callType_codes (Q₁:=λy t=>y=.ref s.heap.objs.size/\t={ s with heap:=s.heap.push { cls:=.type "list",data:=.seq #[] } }) F.called_list (F.typeCall_list_1 _) F.entry_list_init (code_list_new _ ⟨rfl,rfl⟩) λy t q=>?_;obtain ⟨rfl,rfl⟩:=q;have nS:(s.heap.push { cls:=.type "list",data:=.seq #[] }).get? s.heap.objs.size=XX { cls:=.type "list",data:=.seq #[] }:=RT _ rfl;have hiJ:J < s.heap.objs.size:=by obtain ⟨o,e,_⟩:=hi;exact RB e
 have hlL:l < s.heap.objs.size:=by obtain ⟨o,e,_⟩:=hl;exact RB e
 have SJ:s.heap.objs.size≠J:=λe=>Sw _ (e ▸ hiJ);have Sl:s.heap.objs.size≠l:=λe=>Sw _ (e ▸ hlL);have Sf:s.heap.objs.size∉[J,l]:=λhm=>by
  rcases List.mem_cons.mp hm with e|e
  exact SJ e;exact Sl (List.mem_singleton.mp e)
 refine ⟨⟨_,nS,rfl⟩,F.args_list_init_2 _ _,?_⟩;show ZY _ _ (Wa (.ref s.heap.objs.size) >>= λold=>Builtin.List.listUpdate (.ref s.heap.objs.size) (λ_=>#[]) >>= λ_=>letGo old.toList.reverse >>= λ_=>Uz (.ref s.heap.objs.size) (.ref J) .none) _ _ _;refine Rx ?_
 delta Wa
 refine Rx (wpAny_seqItems nS rfl (wpAny_pure ?_));show ZY _ _ (updateSeq s.heap.objs.size (λ_=>#[]) >>= λ_=>letGo (#[]:Array Z1).toList.reverse >>= λ_=>Uz (.ref s.heap.objs.size) (.ref J) .none) _ _ _;refine Rx (wpAny_updateSeq nS rfl ?_);have nS2:=Xa (Uq (λ_=>(#[]:Array Z1))) nS rfl;have oth:∀ b o,s.heap.get? b=XX o->((s.heap.push { cls:=.type "list",data:=.seq #[] }).update s.heap.objs.size (Uq (λ_=>(#[]:Array Z1)))).get? b=XX o :=
  λb o e=>(Vm _ _ (λz=>Sw _ (z ▸ RB e))).trans (Ro _ e)
 refine Rx (wpAny_letGo ?_);have hi2:=hi.at (h':=(s.heap.push { cls:=.type "list",data:=.seq #[] }).update s.heap.objs.size (Uq (λ_=>(#[]:Array Z1)))) (oth J);have hl2:=hl.at (h':=(s.heap.push { cls:=.type "list",data:=.seq #[] }).update s.heap.objs.size (Uq (λ_=>(#[]:Array Z1)))) (oth l)
 delta Uz
 refine Rx (Wz (T:="list_reverseiterator") (let ⟨o,e,c,_⟩:=hi2;⟨o,e,c⟩) ?_);rw[if_neg (by rw[show VZ (.ref s.heap.objs.size) (.ref J)=X0 by simp[VZ,SJ]];decide)];refine Rx (VU hi2 ?_);refine Rx (Ug (AL hi2 ?_));rw[if_neg (by decide)];have W:=(Walks.listRev (prog:=prog) (w:=w) (A:=A.in1.in1) hh J l hne its).toS;refine wpAny_pure ⟨plainId_quiet F.plain_extend_loop _,codeAny_extend_loopS W hz _ Sf _ its.size 0 _ _ _ rfl (SC _) ⟨SC _,by simpa using hi2,hl2⟩ nS2 (ItemsOf.nil _) λs' acc c hm hS' hacc=>⟨rfl,?_⟩⟩;rw[Moved.eq_with hm];refine hQ s'.heap s'.toks acc c (λb o hb e=>hm.heap b o (λhmem=>?_) (oth b o e)) hS' hacc;rcases List.mem_cons.mp hmem with z|z
 exact Sw _ (z ▸ RB e);exact hb (List.mem_singleton.mp z)
end
section
theorem AM (O:Ok X F G sc N) (hu:bV N=XZ) (hg:aA sc "list"=XZ) (hg2:aA sc "reversed"=XZ) (hs:noStar ex=XZ) (hA:PA X [ex] (tDs X F G sa)) :
 PE X (.Call (.Name "list" np) [.Call (.Name "reversed" zp) [ex] [] pos] [] p) (tD X F G (.lsr mu .rev sa)):=by
 intro zt s σ H Q I q;have q:=gQ (as:=sa) (k:=λws h=>BT.kLs mu .rev ws h) (λs h=>by simp only[BT.ev]) q (R':=λvs H1=>∃ m h ws z h',RH X.K m H1 h/\RWs X.prog X.w X.K m H1 vs ws/\BT.kLs mu .rev ws h=XX (z,h')/\Post X.prog X.w X.K m H1 z h' Q) λm h xs z h' vs H1 R r e zr=>⟨m,h,xs,z,h',R,r,e,zr⟩;refine Call_ (dI (u:=.type "list") I (aM O hg) (O.blt _ (by decide)) (by decide +kernel) (R0 ?_ (ai rfl) rfl));rw[ai (show noStar (.Call (.Name "reversed" zp) [ex] [] pos)=XZ from rfl)];show ZY _ _ (U1 ((X0,eval (.Call (.Name "reversed" zp) [ex] [] pos) X.env)::TH p (RX [] X.env))) _ _ s;refine Sx (Call_ (dI (u:=.type "reversed") I (aM O hg2) (O.blt _ (by decide)) (by decide +kernel) (R0 (thn (hA pos zt s σ H _ I q) λus s1 ⟨vs,H1,I1,r1,q1⟩=>?_) (ai hs) rfl)));obtain ⟨m,h,ws,z,h',R,rws,e,zr⟩:=q1;unfold BT.kLs at e;cases g1:(BT.rds ws h).bind (BT.c9 .rev) with
 | none=>rw[g1] at e;cases e
 | some ds =>
  rw[g1] at e;simp only at e
  by_cases cl:ds.length<=BT.lim
  case neg=>rw[if_neg cl] at e;cases e
  rw[if_pos cl] at e;have ez:BT.new mu ds h=(z,h'):=Ry e;obtain ⟨xs,e1,e2⟩:=Option.bind_eq_some_iff.mp g1;have rr:=fm R rws e1;have hd:∃ ys:List BT.D,xs=[.lst ys]/\ds=ys.reverse:=by
   match xs,e2 with
   | [.lst ys],e2=>exact ⟨ys,rfl,(Ry e2).symm⟩
  obtain ⟨ys,rfl,ed⟩:=hd;obtain ⟨v,rfl,r⟩:=rr.one;obtain ⟨a,vt,rfl,ha,ra⟩:=r.lst;obtain ⟨u,rfl,eu⟩:=vals1 r1;cases eu;obtain ⟨zz,its,nn,rv,hl,ee⟩:=rdL I1 ha;have hL:s1.heap.IsList a its.toArray:=⟨_,ee,rfl,_,rfl⟩;refine call_reversed_list hL (Te ?_);have la:=RB ee;have hle:s1.heap.objs.size<=(s1.heap.push (revObj a ((its.toArray.size:Int) - 1))).objs.size:=by rw[Ud];exact S6 _
  refine om (s:={ s1 with heap:=s1.heap.push (revObj a ((its.toArray.size:Int) - 1)) }) (I1.ok.hd (O.calm hu)) ⟨_,RT _ rfl,rfl,rfl⟩ (hL.at λo e=>Ro _ e) (Sk la) (by rw[Rr,← hl];exact zz) λh2 tk acc c hk hS hacc=>?_;have hk':∀ b u,s1.heap.get? b=XX u->h2.get? b=XX u:=λb u q=>hk b u (Sk (RB q)) (Ro _ q);have sz:its.toArray.size=vt.length:=by rw[Rr,hl]
  have hv:av vt.reverse acc.toList:=by
   refine qm (by simp[hacc.1,hl]) λj x u e1 e2=>?_;have jl:j < vt.length:=by
    have:=(List.getElem?_eq_some_iff.mp e1).1
    rwa [Xr] at this
   rw[W9 jl] at e1;have e3:=hacc.2 j u (by simpa using e2);rw[sz] at e3;obtain ⟨u',e4,r4⟩:=rv.get e1;have:its.toArray[vt.length - 1 - j]?=its[vt.length - 1 - j]?:=by simp
   rw[this,e4] at e3;cases e3;exact r4
  refine ⟨.ref _,_,I1.laid (h':=h2) (t':=tk) (o:=.lst vt.reverse) hk' hle ⟨by rw[Xr];exact zz,acc.toList,c,hv,by simpa using hS⟩,rfl,?_⟩;refine gO (mu:=mu) R (I1.hok.fresh hle) ra.reverse ?_;rw[← ed,ez];exact zr
end
section
theorem yo {X:Cx}{v:V}{ds:List BT.D} (r:∀ m H,RW X.prog X.w X.K m H v (.p (.tup ds))):∃ a vs,v=.ref a/\KT X.K a vs:=by
 have z:=r [] (λ_=>XY);cases z with
 | p z =>
  cases z with
  | @tup a vs _ h _ =>
   rcases h with ⟨h,_⟩|h
   ·rcases h with h|⟨o,h⟩<;>cases h
   exact ⟨a,vs,rfl,h⟩
theorem yp {X:Cx}{sc:SE}{N:List ZZ} (O:Ok X F G sc N) {x:ZZ}{as:BT.Es}{es:List Rt}{np apos cpos:Pos} (h2:aA sc x=XZ) (h3:aB x=XZ) (hl:(apos.endLine==cpos.line)=XZ) (hlen:es.length < 20) (hc:CEs sc N as es) (ha:PA X es (tDs X F G as)) :
 PE X (.Call (.Attribute (.Name x np) "index" apos) es [] cpos) (tD X F G (.me .tindex (.glo x) as)):=by
 have hst:=cZ hc;intro zt s σ H Q I q;obtain ⟨m,s',h,z,h',R,S,ee,zr⟩:=q;simp only[BT.ev] at ee;obtain ⟨w,g,e1,e2⟩:=ak ee;obtain ⟨_,e2⟩:=vH e2;obtain ⟨ws,g2,e3,e4⟩:=ak e2;obtain ⟨w',e5,e6⟩:=aF e1;cases e6;obtain ⟨u,v0,hm,rv,rw0⟩:=O.glob _ _ e5;have hT:∃ ds xs,BT.aP ws=XX ds/\w=.p (.tup xs)/\ds≠[]:=by
  cases w with
  | p d =>
   rw[BT.mO] at e4;cases gp:BT.aP ws with
   | none=>rw[gp] at e4;cases e4
   | some ds =>
    rw[gp] at e4;obtain ⟨b,e7,e8⟩:=aF e4;cases d with
    | tup xs=>refine ⟨ds,xs,rfl,rfl,λz=>?_⟩;subst z;exact ay e7| _=>cases ds<;>exact ay e7
  | _=>cases ws<;>(first|(cases e4;done)|simp[BT.meW] at e4)
 obtain ⟨ds,xs,gp,rfl,hne⟩:=hT;obtain ⟨a,vt,rfl,o,its,n,⟨k1,k2,k3,k4,k5⟩,k6⟩:=yo rw0;cases es with
 | nil =>
  cases as with
  | cons a r=>exact (jF hc).elim| nil=>simp only[BT.evs] at e3;cases e3;simp[BT.aP] at gp;exact absurd gp hne
 | cons e es =>
  simp only[ao,Rn] at hst;have h30:decide ((e::es).length+([]:List Wy).length+(if ([]:List Wy).isEmpty then 0 else 1) < 30)=XZ:=decide_eq_true (by
   simp only[R6,SY,List.isEmpty_nil,if_true] at hlen ⊢;lia)
  refine (Gk PySem.F.plainAttrs_tuple PySem.F.slot_tuple_index PySem.F.type_tuple_index (yb O.hu) (pK (aM O h2) hm rv (bJ h3).1) ha rfl (by
   rw[kh (es:=e::es) (by simp only[ao,Rn];exact hst),h30];rfl) hl (ai hst.1) (aH hst.2)) zt s σ H Q I ?_
  refine ⟨.inr (.inl ⟨rfl,o,k1,k2,k6⟩),m,s',h,ws,g2,R,S,e3,λvs H2 m2 x2 R2 r2=>?_⟩;exact ⟨m2,g2,.p (.tup xs),ws,z,h',R2,rw0 m2 H2,r2,e4,λv5 H5 m5 x5 R5 r5=>zr v5 H5 m5 (x2.trans x5) R5 r5⟩
theorem IW {X:Cx}{me:BT.Me} (hm:me=.append\/me=.pop\/me=.extend) {o:BT.E}:∀ (m:List Z0) (h h2:BT.HH) (H:Hp) (v:V) (x:BT.W) ws r,RH X.K m H h->RW X.prog X.w X.K m H v x->BT.n8 x h=XZ->BT.meW me x ws h2=XX r->(∃ σ s,RS X.prog X.w X.K m H σ s/\∃ h0,BT.ev F G o s h0=XX (x,h))->tyV X.K "list" v H:=by intro m h h2 H v x ws r R rq ok e _;obtain ⟨n,rfl⟩:=Pz hm e;exact ty_list R rq ok
theorem PB {X:Cx}{o:BT.E}:∀ (m:List Z0) (h h2:BT.HH) (H:Hp) (v:V) (x:BT.W) ws r,RH X.K m H h->RW X.prog X.w X.K m H v x->BT.n8 x h=XZ->BT.meW .sindex x ws h2=XX r->(∃ σ s,RS X.prog X.w X.K m H σ s/\∃ h0,BT.ev F G o s h0=XX (x,h))->tyV X.K "str" v H:=by
 intro m h h2 H v x ws r R rq _ e _;cases x with
 | p d =>
  rw[BT.mP] at e;cases g:BT.aP ws with
  | none=>rw[g] at e;cases e
  | some ds =>
   rw[g] at e;obtain ⟨b,e7,e8⟩:=aF e;cases d with
   | str y=>cases rq with|p r=>cases r;exact rfl
   | _=>cases ds<;>exact ay e7
 | _=>cases ws<;>(first|(cases e;done)|simp[BT.meW] at e)
theorem Mj {X:Cx}{me:BT.Me} (hm:me=.count\/me=.lindex) {o:BT.E}:∀ (m:List Z0) (h h2:BT.HH) (H:Hp) (v:V) (x:BT.W) ws r,RH X.K m H h->RW X.prog X.w X.K m H v x->BT.n8 x h=XZ->BT.meW me x ws h2=XX r->(∃ σ s,RS X.prog X.w X.K m H σ s/\∃ h0,BT.ev F G o s h0=XX (x,h))->tyV X.K "list" v H:=by
 intro m h h2 H v x ws r R rq _ e _;have key:∃ xs,x=.p (.lst xs):=by
  cases x with
  | p d =>
   rw[rX] at e;cases g:BT.aP ws with
   | none=>rw[g] at e;cases e
   | some ds =>
    rw[g] at e;obtain ⟨b,e7,e8⟩:=aF e;cases d with
    | lst y=>exact ⟨y,rfl⟩
    | _=>rcases hm with rfl|rfl<;>cases ds<;>exact ay e7
  | _=>rcases hm with rfl|rfl<;>cases ws<;>(first|(cases e;done)|simp[BT.meW] at e)
 obtain ⟨xs,rfl⟩:=key;cases rq with
 | p r =>
  cases r with
  | @lst a vs _ h _=>exact .inl ⟨rfl,vs,LL.sq (h.elim (λq=>.inl q.1) .inr)⟩
theorem PD (σ:L2.St) (H:Hp) (Q:Bool->Hp->Prop) (q:tDT X F G e σ H Q):tB (tD X F G e) σ H Q:=by obtain ⟨m,s,h0,b,h',R,S,ee,zr⟩:=q;refine ⟨m,s,h0,_,h',R,S,ee,λv H' m' x R' r=>?_⟩;exact ⟨b,mZ r,zr H' m' x R'⟩
def XE (F:FT) (G:ZZ->Option BT.W) (X:Cx) (e':BT.E) (e:Rt):Prop:=PE X e (tD X F G e')/\(tOK e'=XZ->PT X e (tDT X F G e')/\∀ op vs p,e=.BoolOp op vs p->PW X e (tDT X F G e'))
def XO (F:FT) (G:ZZ->Option BT.W) (X:Cx) (es':BT.Es) (o:Option Rt):Prop:=∃ t,PO X o t ∧
 ∀ σ H (Q:Option Int->Hp->Prop),(∃ m s h l zs h',RH X.K m H h/\RS X.prog X.w X.K m H σ s/\BT.evs F G es' s h=XX (zs,h')/\(BT.aP zs).bind BT.pR=XX l/\∀ H' m',Ext m H m' H'->RH X.K m' H' h'->Q l H')->t σ H Q
theorem bX (p:PE X e (tD X F G e')) (hb:∀ op vs q,e≠.BoolOp op vs q) (he:∀ whole,isTrue e X.env whole=(do let v ← whole;standAt e.pos;holding [v] (truthy v)):=by intro _;rfl):XE F G X e' e :=
 ⟨p,λ_=>⟨PT.weak (GU p he) PD,λop vs q z=>absurd z (hb op vs q)⟩⟩
theorem IX:XO F G X .nil XY:=⟨_,Do,fun σ H Q q=>by obtain ⟨m,s,h,l,zs,h',R,S,e1,e2,zr⟩:=q;simp only[BT.evs] at e1;cases e1;simp[BT.aP,BT.pR] at e2;subst e2;exact zr H m (.refl _ _) R⟩
theorem IY (ha:PE X e (tD X F G a)):XO F G X (.cons a .nil) (XX e):=by
 refine ⟨_,Dp ha,fun σ H Q q=>?_⟩;obtain ⟨m,s,h,l,zs,h',R,S,e1,e2,zr⟩:=q;simp only[BT.evs] at e1;obtain ⟨x,h1,e3,e4⟩:=ak e1;simp only[BT.mR,BT.bH,BT.jy] at e4;cases e4;refine ⟨m,s,h,x,h',R,S,e3,λv H1 m1 x1 R1 r1=>?_⟩;cases r1 with
 | p r =>
  cases r<;>simp[BT.aP,BT.pR] at e2;subst e2;exact ⟨_,rfl,zr H1 m1 x1 R1⟩
 | _=>simp[BT.aP] at e2
theorem qp (ha:PE X e (tD X F G a)) (hs:noStar e=XZ):PA X [e] (tDs X F G (.cons a .nil)) :=
 PA.weak (dg ha jw (ai hs)) fun σ H Q q=>by obtain ⟨m,s,h,z0,h',R,S,ee,zr⟩:=cons_of σ H Q q;exact ⟨m,s,h,z0,h',R,S,ee,λv H1 m1 x1 R1 r1=>gR (zr v H1 m1 x1 R1 r1)⟩
theorem uH (ha:PE X e (tD X F G a)) (hb:PE X f (tD X F G b)) (hs:noStar e=XZ) (hs2:noStar f=XZ):PA X [e,f] (tDs X F G (.cons a (.cons b .nil))) :=
 PA.weak (dg ha (qp hb hs2) (ai hs)) cons_of
def Ml (sc:SE) (oe:Rt) (o:BT.E):Prop:=∃ x p,o=.glo x/\oe=.Name x p/\aA sc x=XZ/\aB x=XZ
noncomputable def PF (sc:SE):Tq->Prop
 | .e o oe=>uA o=X0\/Ml sc oe o| _=>True
theorem Eu {sc:SE}{N:List ZZ}{t:Tq} (h:CQ sc N t):PF sc t:=by
 cases h with
 | glo hg hn=>exact .inr ⟨_,_,rfl,rfl,hg,hn⟩
 | _=>first|exact .inl rfl|exact Ul
theorem IZ {sc:SE}{N:List ZZ}{o:BT.E}{oe:Rt} (h:CE' sc N o oe):uA o=X0\/Ml sc oe o:=Eu h
theorem sMe (O:Ok X F G sc N) (h1:HX m o=XZ) (h2:name=zU m) (h3:aC oe=XZ) (h6:(apos.endLine==cpos.line)=XZ) (h7:es.length < 20) (ho:CE' sc N o oe) (ha:CEs sc N as es) (hO:PE X oe (tD X F G o)) (hA:PA X es (tDs X F G as)) :
 PE X (.Call (.Attribute oe name apos) es [] cpos) (tD X F G (.me m o as)):=by
 subst h2;cases m with
 | append=>exact kR (sc:=sc) (N:=N) TN PySem.F.slot_list_append PySem.F.type_list_append xZ h3 h6 h7 hO ha hA (IW (.inl rfl))| pop=>exact kR (sc:=sc) (N:=N) TN PySem.F.slot_list_pop PySem.F.type_list_pop Im h3 h6 h7 hO ha hA (IW (.inr (.inl rfl)))| extend=>exact kR (sc:=sc) (N:=N) TN PySem.F.slot_list_extend PySem.F.type_list_extend ya h3 h6 h7 hO ha hA (IW (.inr (.inr rfl)))| sindex=>exact kR (sc:=sc) (N:=N) PySem.F.plainAttrs_str PySem.F.slot_str_index PySem.F.type_str_index yc h3 h6 h7 hO ha hA PB
 | tindex =>
  rcases IZ ho with z|⟨x,p,rfl,rfl,hg,hn⟩
  exact Bool.noConfusion (z.symm.trans h1);exact yp O hg hn h6 h7 ha hA
 | dget=>simp[HX] at h1| count=>exact kR (sc:=sc) (N:=N) TN PySem.F.slot_list_count PySem.F.type_list_count (Ay O.hu) h3 h6 h7 hO ha hA (Mj (.inl rfl))| lindex=>exact kR (sc:=sc) (N:=N) TN PySem.F.slot_list_index PySem.F.type_list_index (yh O.hu) h3 h6 h7 hO ha hA (Mj (.inr rfl))
theorem Mm (pe:PE X (.BoolOp .And (x::r) p) (tD X F G (.and a b))) (w:tOK (.and a b)=XZ->PW X (.BoolOp .And (x::r) p) (tDT X F G (.and a b))):XE F G X (.and a b) (.BoolOp .And (x::r) p) :=
 ⟨pe,λht=>⟨(w ht).pt,λ_ _ _ e=>by cases e;exact w ht⟩⟩
theorem sOr (pe:PE X (.BoolOp .Or (x::r) p) (tD X F G (.or a b))) (w:tOK (.or a b)=XZ->PW X (.BoolOp .Or (x::r) p) (tDT X F G (.or a b))):XE F G X (.or a b) (.BoolOp .Or (x::r) p) :=
 ⟨pe,λht=>⟨(w ht).pt,λ_ _ _ e=>by cases e;exact w ht⟩⟩
theorem mh (h:tOK (.and a b)=XZ):tOK a=XZ/\tOK b=XZ:=by have h:(tOK a&&tOK b)=XZ:=h;simpa only[Rn] using h
theorem qt (h:tOK (.or a b)=XZ):tOK a=XZ/\tOK b=XZ:=by have h:(tOK a&&tOK b)=XZ:=h;simpa only[Rn] using h
noncomputable def MX (F:FT) (G:ZZ->Option BT.W) (sc:SE) (N:List ZZ):Tq->Prop
 | .e e' e=>∀ (X:Cx),Ok X F G sc N->XE F G X e' e| .es as es=>∀ (X:Cx),Ok X F G sc N->PA X es (tDs X F G as)| .o es' o=>∀ (X:Cx),Ok X F G sc N->XO F G X es' o| .c cond ifs=>nq F G sc N cond ifs| .i sr sa iter=>∀ (X:Cx),Ok X F G sc N->∀ (tg:Rt),rT sr tg=XZ->PI X tg iter (iD X F G sr sa)
theorem sQ {sc:SE}{N:List ZZ}{t:Tq} (h:CQ sc N t):MX F G sc N t:=by
 refine @CQ.rec (λsc N t _=>MX F G sc N t)
  (λh1 h2 h3 X O=>bX (qf O h1 h2 h3) (λ_ _ _ z=>nomatch z))
  (λh X O=>bX (DW h) (λ_ _ _ z=>nomatch z))
  (λh2 h3 X O=>bX (DX O h2 h3) (λ_ _ _ z=>nomatch z))
  (λh _ _ ia ib X O=>bX (PE.weak (Gd (opB h) (ia _ O).1 (ib _ O).1) (mY λs h=>by simp only[BT.ev])) (λ_ _ _ z=>nomatch z))
  (λ_ ia X O=>bX (PE.weak (Ge ze (ia _ O).1) Iw) (λ_ _ _ z=>nomatch z))
  (λ_ ia X O=>⟨PE.weak (GX (ia _ O).1) D3,λht=>⟨PT.weak (GW ((ia _ O).2 ht).1) D0,λ_ _ _ e=>nomatch e⟩⟩)
  (λ_ _ ia ib X O=>Mm (PE.weak (yY (ia _ O).1 (yX (ib _ O).1)) vK) λht=>PW.weak (yW ((ia _ O).2 (mh ht).1).1 (C3 ((ib _ O).2 (mh ht).2).1)) vL)
  (λ_ _ ia ib X O=>Mm (PE.weak (yY (ia _ O).1 (ib _ O).1) vK) λht=>PW.weak (yW ((ia _ O).2 (mh ht).1).1 (((ib _ O).2 (mh ht).2).2 _ _ _ rfl)) vL)
  (λ_ _ ia ib X O=>sOr (PE.weak (Gb (ia _ O).1 (yX (ib _ O).1)) Ai) λht=>PW.weak (F8 ((ia _ O).2 (qt ht).1).1 (GV ((ib _ O).2 (qt ht).2).1)) Aj)
  (λ_ _ ia ib X O=>sOr (PE.weak (Gb (ia _ O).1 (ib _ O).1) Ai) λht=>PW.weak (F8 ((ia _ O).2 (qt ht).1).1 (((ib _ O).2 (qt ht).2).2 _ _ _ rfl)) Aj)
  (λh _ _ hm ia ib X O=>⟨PE.weak (Dg (opC O h) (ia _ O).1 (ib _ O).1 hm) (mY λs h=>by simp only[BT.ev]),λ_=>⟨PT.weak (Dh (opC O h) (ia _ O).1 (ib _ O).1 hm) (Af (mY λs h=>by simp only[BT.ev])),λ_ _ _ e=>nomatch e⟩⟩)
  (λh _ _ _ ic ia ib X O=>⟨PE.weak (yZ ((ic _ O).2 h).1 (ia _ O).1 (ib _ O).1) Iv,λht=>nomatch ht⟩)
  (λ_ ia X O=>⟨PE.weak (Hq (ia _ O)) IB,λht=>nomatch ht⟩)
  (λ_ ia X O=>⟨PE.weak (Hr (ia _ O)) IC,λht=>nomatch ht⟩)
  (λ_ _ hs ia ii X O=>bX (PE.weak (K7 Il (ia _ O).1 (ii _ O).1 (Ad hs)) (mY λs h=>by simp only[BT.ev])) (λ_ _ _ z=>nomatch z))
  (λ_ _ _ ia il iu X O=>bX (by
   obtain ⟨tl,hl1,hl2⟩:=il _ O;obtain ⟨tu,hu1,hu2⟩:=iu _ O;exact PE.weak (zw osl (ia _ O).1 hl1 hu1) (Iz hl2 hu2)) (λ_ _ _ z=>nomatch z))
  (λhg hn ha ia X O=>bX (Ak O hg hn ha (ia _ O)) (λ_ _ _ z=>nomatch z))
  (λhu hg hg2 hs _ ia X O=>bX (AM O hu hg hg2 hs (qp (ia _ O).1 hs)) (λ_ _ _ z=>nomatch z))
  (λhu hb hg hs _ ia X O=>bX (IA O hu hb hg (by simp[ao,hs]) (qp (ia _ O).1 hs)) (λ_ _ _ z=>nomatch z))
  (λhb hg hg2 hs _ ia X O=>bX (Al O hb hg hg2 hs (ia _ O).1) (λ_ _ _ z=>nomatch z))
  (λhx hn hg hg2 hs _ ia X O=>bX (Ec O hx hn hg hg2 hs (ia _ O).1) (λ_ _ _ z=>nomatch z))
  (λh1 h2 h3 h6 h7 ho ha io ia X O=>bX (sMe O h1 h2 h3 h6 h7 ho ha (io _ O).1 (ia _ O)) (λ_ _ _ z=>nomatch z))
  (λhu hk ht hz hs _ _ _ ii ic ie X O=>⟨Ep O hu hk ht hs (ii _ O _ hz) ic λX' O'=>(ie _ O').1,λht=>nomatch ht⟩)
  (λhb hf _ ia X O=>bX (D5 (sc:=sc) (N:=N) hb hf (ia _ O).1) (λ_ _ _ z=>nomatch z))
  (λh3 h6 h7 _ ha io ia X O=>bX (An O h3 h6 h7 (io _ O).1 ha (ia _ O)) (λ_ _ _ z=>nomatch z))
  (λhk _ ia X O=>bX (D6 hk (ia _ O).1) (λ_ _ _ z=>nomatch z))
  (λhu hb hg hs1 hs2 _ _ ia ib X O=>bX (D7 O hu hb hg (by simp[ao,hs1,hs2]) (uH (ia _ O).1 (ib _ O).1 hs1 hs2)) (λ_ _ _ z=>nomatch z))
  (λhg hn ha ia X O=>bX (Ao O hg hn ha (ia _ O)) (λ_ _ _ z=>nomatch z))
  (λh1 h2 h3 ha ia X O=>bX (Av O h1 h2 h3 ha (ia _ O)) (λ_ _ _ z=>nomatch z))
  (λX O=>bX Ej (λ_ _ _ z=>nomatch z))
  (λhu hg h3 h6 _ io X O=>bX (IT O hu hg h3 h6 (io _ O).1) (λ_ _ _ z=>nomatch z))
  (λ_ _ ia ib X O=>bX (PE.weak (Gd Ib (ia _ O).1 (ib _ O).1) (mY λs h=>by simp only[BT.ev])) (λ_ _ _ z=>nomatch z))
  (λhu hg hg2 hs hs2 _ _ ia ib X O=>bX (yk O hu hg hg2 hs hs2 (uH (ia _ O).1 (ib _ O).1 hs hs2)) (λ_ _ _ z=>nomatch z))
  (λX O=>PA.weak jw fun σ H Q q=>gR q)
  (λhs _ _ ia ir X O=>PA.weak (dg (ia _ O).1 (ir _ O) (ai hs)) cons_of)
  (λX O=>IX)
  (λ_ ia X O=>IY (ia _ O).1)
  (.inl ⟨rfl,rfl⟩)
  (λht _ ia=>.inr ⟨_,_,rfl,rfl,λX' O'=>((ia _ O').2 ht).1⟩)
  (λhg hs _ ia X O _ _=>AE O hg hs (qp (ia _ O).1 hs))
  (λhg hs hs2 _ _ ia ib X O _ _=>AF O hg hs hs2 (uH (ia _ O).1 (ib _ O).1 hs hs2))
  (λhg hs _ ia X O _ _=>Ei O hg hs (ia _ O).1)
  (λ_ ia X O _ _=>Eh (ia _ O).1)
  sc N t h
theorem sE (h:CE' sc N e' e) (O:Ok X F G sc N):PE X e (tD X F G e'):=(sQ h X O).1
theorem sT (h:CE' sc N e' e) (O:Ok X F G sc N) (ht:tOK e'=XZ):PT X e (tDT X F G e')/\∀ op vs p,e=.BoolOp op vs p->PW X e (tDT X F G e'):=(sQ h X O).2 ht
theorem sCC (h:CC sc N cond ifs):nq F G sc N cond ifs:=sQ h
theorem sCI (h:CI sc N sr sa iter) (O:Ok X F G sc N) (hz:rT sr tg=XZ):PI X tg iter (iD X F G sr sa):=sQ h X O tg hz
end
noncomputable def mk3 (H:Hp) (P c f:Z0) (t c0 f0:HO):Hp:=upd (upd (upd H P t) c c0) f f0
theorem cF (hP:H P=XX (.tbl ps)) (hc:H c=XY) (hf:H f=XY) (e:H a=XX u) (n:zZ u=X0):mk3 H P c f t c0 f0 a=XX u:=by unfold mk3;rw[au (aE e hf),au (aE e hc),au (λz=>by subst z;rw[hP] at e;cases e;cases n)];exact e
theorem uI (l:List Z1) (h:TriplesOk l) (e:U4 pos (l++[U3 a,U3 b,v0])=XX v):U4 pos l=XX v\/v=v0:=by
 fun_induction TriplesOk l with
 | case1 =>
  simp only[TL,U3,U4] at e;split at e;cases e;exact .inr rfl;cases e
 | case2 a' t b' u x rest ih =>
  simp only[List.cons_append,U4] at e ⊢;split at e;rename_i hc;rw[if_pos hc];exact .inl e;rename_i hc;rw[if_neg hc];exact ih h e
 | case3 l h1 h2=>exact h.elim
structure Made (X:Cx) (zt:List (Z0×Obj)) (σ:L2.St) (m:List Z0) (H:Hp) (h:BT.HH) (q:ZZ) (pa:Wp) (be:Rt) (sc:SE) (cl:List (ZZ×Z0)) (f:Z0) (H3:Hp) (s3:Rv):Prop where
 inv:Inv X zt σ H3 s3
 ext:Ext m H m H3
 rh:RH X.K m H3 h
 ex:∃ pm ctv c' oc os t,Tr m H3 f (Vg "<lambda>" q pa be sc cl pm c' ctv)/\Tr m H3 c' oc/\oc.data=.fields os/\os[1]?=XX (.str q t)
theorem Ew (I:Inv X zt σ H s) (R:RH X.K m H h) (lx:LX X x) (tc:Sz X.K x=XX (c,P)) (hP:H P=XX (.tbl ps))
 (ht:TriplesOk ps.toList) (hall:∀ pos v,U4 pos ps.toList=XX v->∃ c' oc os t,v=.ref c'/\H c'=XX (.frz oc (.own 0))/\oc.data=.fields os/\os[1]?=XX (.str (xU x) t))
 (uniq:∀ y∈BT.dR,∀ c2,Sz X.K y=XX (c2,P)->y=x)
 (hn:U4 pos ps.toList=XY) {f:Z0} (hfo:fo.isFreed=X0) {os:Array Z1} (hx:Heap.ExtBut P s.heap h') (hge:s.heap.objs.size<=c') (hlt:c' < h'.objs.size) (ho:h'.get? c'=XX oc) (hd:oc.data=.fields os) (hq:os[1]?=XX (.str (xU x) t))
 (hT:h'.get? P=XX (Ua (ps++#[U3 pos.line,U3 pos.col,.ref c']))) :
 Inv X zt σ (mk3 H P c' h'.objs.size (.tbl (ps++#[U3 pos.line,U3 pos.col,.ref c'])) (.frz oc (.own 0)) (.frz fo (.own 0))) { s with heap:=h'.push fo,toks:=tk }/\Ext m H m (mk3 H P c' h'.objs.size (.tbl (ps++#[U3 pos.line,U3 pos.col,.ref c'])) (.frz oc (.own 0)) (.frz fo (.own 0))) ∧
 RH X.K m (mk3 H P c' h'.objs.size (.tbl (ps++#[U3 pos.line,U3 pos.col,.ref c'])) (.frz oc (.own 0)) (.frz fo (.own 0))) h:=by
 have hPs:s.heap.get? P=XX (Ua ps):=I.hok _ _ hP;have szP:P < s.heap.objs.size:=RB hPs;have cP:c'≠P:=λz=>by rw[z] at hge;exact absurd szP (Nat.not_lt.mpr hge)
 have fP:h'.objs.size≠P:=λz=>by rw[← z] at szP;exact absurd (Sb szP hge) (Nat.not_lt.mpr (TF hlt))
 have fc:h'.objs.size≠c':=UY hlt;have fr:∀ a,s.heap.objs.size<=a->H a=XY:=λa ha=>I.hok.fresh ha;have hc:=fr c' hge;have hf:=fr h'.objs.size (TF (VY hge hlt));have at1:∀ t c0 f0,mk3 H P c' h'.objs.size t c0 f0 h'.objs.size=XX f0:=λ_ _ _=>aG;have at2:∀ t c0 f0,mk3 H P c' h'.objs.size t c0 f0 c'=XX c0:=λ_ _ _=>by unfold mk3;rw[au (Ti fc),aG]
 have at3:∀ t c0 f0,mk3 H P c' h'.objs.size t c0 f0 P=XX t:=λ_ _ _=>by unfold mk3;rw[au (Ti fP),au (Ti cP),aG]
 have at4:∀ t c0 f0 b,b≠P->b≠c'->b≠h'.objs.size->mk3 H P c' h'.objs.size t c0 f0 b=H b:=λ_ _ _ b n1 n2 n3=>by unfold mk3;rw[au n3,au n2,au n1]
 have nP:∀ b,H b=XY->b≠P:=λb e z=>by rw[z,hP] at e;cases e
 have lt:∀ b o,s.heap.get? b=XX o->b≠c'/\b≠h'.objs.size:=λb o e=>by have l:=RB e;exact ⟨λz=>by rw[z] at l;exact absurd l (Nat.not_lt.mpr hge),λz=>by rw[z] at l;exact absurd (Sb l hge) (Nat.not_lt.mpr (TF hlt))⟩
 have kp:∀ b o,b≠P->s.heap.get? b=XX o->(h'.push fo).get? b=XX o:=λb o n e=>Ro _ (hx b o n e);refine ⟨I.un ⟨λb o e n _ _=>kp b o (nP b n) e,λb o e n _ _=>⟨o.slots,kp b o (nP b n) e⟩,λb o e n _=>?_,λb o e _=>?_,λb xs e=>cF hP hc hf e rfl,λb o u e=>cF hP hc hf e rfl,λb qs e=>?_⟩ λb u e=>?_,?_,?_⟩;rw[at4 _ _ _ b (nP b n) (lt b o e).1 (lt b o e).2];exact n
 ·by_cases z:b=P
  exact ⟨_,by rw[z];exact Ro _ hT⟩;exact ⟨o,kp b o z e⟩
 ·by_cases z:b=P
  subst z;rw[hP] at e;cases e;exact ⟨_,at3 _ _ _⟩;exact ⟨#[],by rw[at4 _ _ _ b z (aE e hc) (aE e hf),e];simp⟩
 ·by_cases z1:b=h'.objs.size
  subst z1;rw[at1] at e;cases e;exact ⟨RT _ hfo,_,RT _ hfo⟩
  by_cases z2:b=c'
  subst z2;rw[at2] at e;cases e;exact ⟨Ro _ ho,_,Ro _ ho⟩
  by_cases z3:b=P
  subst z3;rw[at3] at e;cases e;exact Ro _ hT;rw[at4 _ _ _ b z3 z2 z1] at e;refine (I.hok b u e).stay (λd o hd q=>kp d o ?_ q) (λd q=>cF hP hc hf q rfl) λd xs q=>cF hP hc hf q rfl;rcases hd with rfl|hd
  exact z3
  ·rintro rfl;rw[hP] at hd;cases hd
 ·refine ⟨⟨[],by simp,by simp⟩,λa o e n t=>cF hP hc hf e t,λa e=>?_⟩
  by_cases z1:a=h'.objs.size
  rw[z1];exact hf
  by_cases z2:a=c'
  rw[z2];exact hc
  by_cases z3:a=P
  subst z3;rw[at3] at e;cases e;rw[at4 _ _ _ a z3 z2 z1] at e;exact e
 ·have sq:m6 H (mk3 H P c' h'.objs.size (.tbl (ps++#[U3 pos.line,U3 pos.col,.ref c'])) (.frz oc (.own 0)) (.frz fo (.own 0))) :=
   ⟨λa vs r=>r.elim (λz=>.inl (cF hP hc hf z rfl)) λ⟨o,z⟩=>.inr ⟨o,cF hP hc hf z rfl⟩,λa vs r=>r.elim (λz=>.inl (cF hP hc hf z rfl)) λ⟨o,z⟩=>.inr ⟨o,cF hP hc hf z rfl⟩⟩
  refine R.tr sq (λa ha=>?_) λy hy c2 P2 e2=>?_
  ·obtain ⟨o,e,z⟩:=R.mu ha;rw[e];exact cF hP hc hf e (by cases o<;>first|rfl|cases z)
  ·by_cases z:P2=P
   ·subst z;obtain rfl:=uniq y hy c2 e2;refine ⟨_,at3 _ _ _,?_,λpos' v e=>?_⟩
    ·have:=TriplesOk_snoc pos.line pos.col (.ref c') ps.toList ht;simpa using this
    ·have e':U4 pos' (ps.toList++[U3 pos.line,U3 pos.col,.ref c'])=XX v:=by simpa using e
     rcases uI _ ht e' with q|q
     ·obtain ⟨c3,oc3,os3,t3,q1,q2,q3⟩:=hall pos' v q;exact ⟨c3,oc3,os3,t3,q1,cF hP hc hf q2 rfl,q3⟩
     ·subst q;exact ⟨c',oc,os,t,rfl,at2 _ _ _,hd,hq⟩
   ·obtain ⟨qs,e3,e4,e5⟩:=R.tb y hy c2 P2 e2;refine ⟨qs,by rw[at4 _ _ _ P2 z (aE e3 hc) (aE e3 hf)];exact e3,e4,λpos' v e=>?_⟩;obtain ⟨c3,oc3,os3,t3,q1,q2,q3⟩:=e5 pos' v e;exact ⟨c3,oc3,os3,t3,q1,cF hP hc hf q2 rfl,q3⟩
theorem AN (I:Inv X zt σ H s) (R:RH X.K m H h) (lx:LX X x) (hp:LPa pa ps)
 (hfree:∀ y∈scope.names,y.2=.free->X.env.scope.names.lookup y.1=XX .cell) {E:Z1->Rv->Prop}
 (hQ:∀ f H3 s3,Made X zt σ m H h (xU x) pa be scope (BC.cQ X.env.cells scope.names []) f H3 s3->Q (.ref f) s3):ZY (RV X.prog X.w) X.A (eval (.Lambda pa be scope lp) X.env) Q E s:=by
 obtain ⟨c,P,tc,hcode,chd,uniq⟩:=lx.ex;obtain ⟨ts,hP,ht,hall⟩:=R.tb x lx.mem c P tc;have hPs:s.heap.get? P=XX (Ua ts):=I.hok _ _ hP;have hg:=I.ok.mod.glob.keeps I.bk;obtain ⟨bm,ob,b1,b2,b3,b4,b5,b6⟩:=lx.bm;have b3':=I.bk _ _ b3;have hgP:RE≠P:=λq=>by obtain ⟨o,es,ep,e,hd,_⟩:=hg;rw[q,hPs] at e;cases e;cases hd
 have hbP:bm≠P:=λq=>by rw[q,hPs] at b3';cases b3';cases b4
 have hbG:bm≠RE:=λq=>by obtain ⟨o,es,ep,e,hd,_⟩:=hg;rw[q,e] at b3';cases b3';rw[hd] at b6;cases b6
 have hcl:closureFor scope X.env=pure (BC.cQ X.env.cells scope.names []):=BC.nh λy hy e=>I.ok.has y.1 (.inl (hfree y hy e));have hB:s.heap.BuiltinsAt X.mg P:=⟨bm,ob,b1,b2,hbG,hbP,b3',b4,b5,b6⟩;refine PySem.W.kla_eval (by cases hp<;>rfl) ?_;rw[lx.ql];cases hq:U4 lp ts.toList with
 | none =>
  refine PySem.W.kla_makeFunction (mg:=X.mg) hcl I.ok.glob hg hcode (chd.keeps I.bk) hPs ht hq hgP hB λc' ctv h' tk hx hge hlt hrec htb=>?_;obtain ⟨c2,oc,vs,t,e2,hoc,hd,hv⟩:=hrec;cases e2;obtain ⟨z1,z2,z3⟩:=Ew (tk:=tk) (fo:=Vg "<lambda>" (xU x) pa be scope (BC.cQ X.env.cells scope.names []) ((X.mg "__name__").getD .none) c' ctv) I R lx tc hP ht hall uniq (f:=h'.objs.size) hq rfl hx hge hlt hoc hd hv htb;have nf:h'.objs.size≠c':=UY hlt;have e1:=I.hok.fresh (TF (VY hge hlt));have e2:=I.hok.fresh hge;exact hQ _ _ _ ⟨z1,z2,z3,_,ctv,c',oc,vs,t,⟨aG,R.d8 e1⟩,⟨by unfold mk3;rw[au (Ti nf),aG],R.d8 e2⟩,hd,hv⟩
 | some cv =>
  obtain ⟨c',oc,os,t,rfl,q2,q3,q4⟩:=hall _ _ hq;refine PySem.W.kla_makeFunctionHit (mg:=X.mg) hcl I.ok.glob hg hcode (chd.keeps I.bk) hPs ht hq hB λctv h' tk hk hsz=>?_;have e1:=I.hok.fresh hsz;refine hQ _ _ _ ⟨I.laid (o:=.frz (Vg "<lambda>" (xU x) pa be scope (BC.cQ X.env.cells scope.names []) ((X.mg "__name__").getD .none) c' ctv) (.own 0)) (t':=tk) (λb u e=>Ro _ (hk b u e)) hsz ⟨RT _ rfl,_,RT _ rfl⟩,fQ e1,R.new e1,_,ctv,c',oc,os,t,⟨aG,R.d8 e1⟩,⟨z4 e1 _ _ q2,R.nin q2 rfl⟩,q3,q4⟩
end BS
end
section
namespace BS
open PySem PySem.Spec PyProof.Rows L2
open Classical in
noncomputable def eS (cl:List (ZZ×Z0)) (h:Heap) (H:Hp):Hp:=λb=>if ∃ x,cl.lookup x=XX b then XX (.frz ((h.get? b).getD default) (.own 0)) else H b
section
theorem gS (e:cl.lookup x=XX b) (g:h.get? b=XX o):eS cl h H b=XX (.frz o (.own 0)):=by unfold eS;rw[if_pos ⟨x,e⟩,g];rfl
theorem ef (e:¬ ∃ x,cl.lookup x=XX b):eS cl h H b=H b:=if_neg e
theorem Ex (N:∀ x c,cl.lookup x=XX c->H c=XY):Le H (eS cl h H):=λa u e=>by rw[ef (λ⟨x,q⟩=>by rw[N x a q] at e;cases e)];exact e
end
theorem mj:∀ {names:List (ZZ×Ut)}{acc:List (ZZ×Z0)},(BC.cQ cells names acc).lookup y=XX d->acc.lookup y=XX d\/(y,SD)∈names
 | [],acc,e=>.inl e
 | (n,k)::r,acc,e=>by
  rw[BC.cQ] at e;split at e
  ·rename_i hk;have hk:k=.free:=eq_of_beq hk;split at e
   ·rename_i a ea;rcases mj e with q|q
    ·rw[SO] at q;split at q
     ·rename_i hy;have:y=n:=by simpa using hy
      subst this;subst hk;exact .inr RL
     exact .inl q
    exact .inr (RJ _ q)
   ·rcases mj e with q|q
    exact .inl q;exact .inr (RJ _ q)
  ·rcases mj e with q|q
   exact .inl q;exact .inr (RJ _ q)
theorem Ja (e:(BC.cQ cells names []).lookup y=XX d):(y,SD)∈names:=by
 rcases mj e with q|q
 simp at q;exact q
theorem RWs.le {K:Rm} (q:Le H H') (r:RWs P w K m H vs ws):RWs P w K m H' vs ws:=by
 induction r with
 | nil=>exact .nil| cons r t ih=>exact .cons (r.le q) ih
section
variable {F:FT}{G:ZZ->Option BT.W}
theorem Jb {K:Rm} (r:RW P w K m H v x) (e:BT.rJ x=XX cp):RA K m H v cp.w:=by
 cases r with
 | p r=>cases e;exact .p r| o h=>cases e;exact .o h| _=>cases e
theorem sf (I:Inv X zt σ H s) (R:RH X.K m H g) (hsc:X.env.scope=sc) (hN:X.N=N) (S:RS X.prog X.w X.K m H σ sl)
 (hsub:∀ x c,cl.lookup x=XX c->X.env.cells.lookup x=XX c):∀ (fv:List (Nat×ZZ)) (cs:List BT.Cp),uB sc N fv=XZ->(∀ q∈fv,∃ c,cl.lookup q.2=XX c)->BT.caps sl fv=XX cs->∃ cvs,iE m (eS cl s.heap H) cl (fv.map (·.2)) cvs/\RCs X.K m H cvs cs
 | [],cs,_,_,e=>by cases e;exact ⟨[],.nil,.nil⟩
 | q::r,cs,hv,hc,e=>by
  simp only[uB,WN,Rn] at hv;rw[BT.xR] at e;split at e
  ·rename_i w g1;obtain ⟨cp,e1,e2⟩:=Option.bind_eq_some_iff.mp e;obtain ⟨cs',e3,rfl⟩:=aF e2;obtain ⟨cvs,c1,c2⟩:=sf I R hsc hN S hsub r cs' hv.2 (λq hq=>hc q (RJ _ hq)) e3;obtain ⟨v,s1,rv⟩:=S.get _ _ g1;obtain ⟨c,hcc⟩:=hc q RL;have hce:=hsub _ _ hcc;obtain ⟨mm,hn,hl⟩:=I.loc;have kc:X.env.scope.names.lookup q.2=XX .cell:=by rw[hsc];exact eq_of_beq hv.1.2
   obtain ⟨u,ru,lk⟩:=hl q.1 q.2 v (by rw[hN];exact eq_of_beq hv.1.1) s1 (.inr (.inl kc));rcases lk with ⟨k,_⟩|⟨k,c',ec,o,ho,hd⟩
   ·have:X.env.scope.names.lookup q.2=XX .local:=k;rw[kc] at this;cases this
   ·rw[hce] at ec;cases ec;exact ⟨v::cvs,.cons hcc ⟨gS hcc ho,R.d8 (I.freeC _ _ hce)⟩ hd ru c1,.cons (Jb rv e1) c2⟩
  cases e
theorem yq (e:BT.ux F m ea L ocs x h=XX r) :
 ∃ n c fs ws g cs,x=.o n/\BT.oat h n=XX (c,fs)/\(BT.bq m fs).isNone=XZ/\ea h=XX (ws,g)/\ocs=XX cs/\F (.m c m) (.o n::(ws++[.c (.l L) cs])) g=XX r/\BT.noC [r.1]=XZ:=by
 cases x with
 | o n =>
  rw[BT.zK] at e;cases g:BT.oat h n with
  | none=>rw[g] at e;cases e
  | some q =>
   obtain ⟨c,fs⟩:=q;rw[g] at e;simp only at e;split at e
   ·rename_i c1;obtain ⟨ws,g2,e1,e2⟩:=ak e;cases ocs with
    | none=>cases e2
    | some cs =>
     rw[BT.xS] at e2;obtain ⟨z,h2,e3,e4⟩:=ak e2;refine ⟨n,c,fs,ws,g2,cs,rfl,g,c1,e1,rfl,?_⟩;cases z with
     | c _ _=>cases e4| x _=>cases e4| _=>cases e4;exact ⟨e3,rfl⟩
   cases e
 | _=>cases e
def AO (X:Cx) (F:FT) (G:ZZ->Option BT.W) (as:BT.Es) (args:List Rt) (lam:Rt):Prop :=
 ∀ (pos:Pos) (zt:List (Z0×Obj)) (s:Rv) (σ:L2.St) (H:Hp) (m:List Z0) (sl:BT.Sl) (h:BT.HH) (ws:List BT.W) (g:BT.HH) (Q:List Z1->Rv->Prop),Inv X zt σ H s->RH X.K m H h->RS X.prog X.w X.K m H σ sl->BT.evs F G as sl h=XX (ws,g) →
  (∀ vs us H1 s1 m1,Inv X zt σ H1 s1->av vs us->Ext m H m1 H1->RH X.K m1 H1 g->RWs X.prog X.w X.K m1 H1 vs ws->ZY (RV X.prog X.w) X.A (eval lam X.env) (λu s2=>Q (us++[u]) s2) X.xe s1) →
  ZY (RV X.prog X.w) X.A (U1 (TH pos (RX args X.env))) Q X.xe s
theorem GB:AO X F G .nil [.Lambda pa be scope lp] (.Lambda pa be scope lp):=by intro pos zt s σ H m sl h ws g Q I R S e k;simp only[BT.evs] at e;cases e;show ZY _ _ (U1 ((X0,eval (.Lambda pa be scope lp) X.env)::TH pos (RX [] X.env))) _ _ s;exact Sx (thn (k [] [] H s m I .nil (.refl _ _) R .nil) λu s2 q=>Te q)
theorem GC (hs:noStar e=XZ) (ha:PE X e (tD X F G a)):AO X F G (.cons a .nil) [e,.Lambda pa be scope lp] (.Lambda pa be scope lp):=by intro pos zt s σ H m sl h ws g Q I R S ee k;simp only[BT.evs] at ee;obtain ⟨z,g1,e1,e2⟩:=ak ee;simp only[BT.mR,BT.bH,BT.jy] at e2;cases e2;rw[ai hs];show ZY _ _ (U1 ((X0,eval e X.env)::TH pos (RX [.Lambda pa be scope lp] X.env))) _ _ s;refine Sx (thn (ha zt s σ H (λv H1=>∃ m1,Ext m H m1 H1/\RH X.K m1 H1 g/\RW X.prog X.w X.K m1 H1 v z) I ⟨m,sl,h,z,g,R,S,e1,λv H1 m1 x1 R1 r1=>⟨m1,x1,R1,r1⟩⟩) λu s1 zq=>?_);obtain ⟨v,H1,I1,r1,m1,x1,R1,w1⟩:=zq;show ZY _ _ (U1 ((X0,eval (.Lambda pa be scope lp) X.env)::TH pos (RX [] X.env))) _ _ s1;exact Sx (thn (k [v] [u] H1 s1 m1 I1 (.cons r1 .nil) x1 R1 (.cons w1 .nil)) λu s2 q=>Te q)
inductive AQ (X:Cx) (zt:List (Z0×Obj)) (σ:L2.St) (m0:List Z0) (H:Hp) (n:Nat) (ws:List BT.W) (g:BT.HH) (L:Nat) (cs:List BT.Cp) (a f:Z0) (us:List Z1) (vs:List V) (m2:List Z0) (H3:Hp) (s3:Rv) (cl:List (ZZ×Z0)):Prop where
 | mk (I3:Inv X zt σ H3 s3) (hnone:∀ y d,cl.lookup y=XX d->H3 d=XY) (hobj:∀ y d,cl.lookup y=XX d->∃ o u,s3.heap.get? d=XX o/\o.data=.cell u) (hfrm:∀ y d,cl.lookup y=XX d->d∉frs X.stack) (le:Le H3 (eS cl s3.heap H3)) (R4:RH X.K m2 (eS cl s3.heap H3) g)
  (w4:RWs X.prog X.w X.K m2 (eS cl s3.heap H3) (.ref a::(vs++[.ref f])) (.o n::(ws++[.c (.l L) cs]))) (e04:jN X.prog X.w X.K X.mg X.base X.A X.stack s3 (eS cl s3.heap H3)) (rv4:av (V.ref a::(vs++[.ref f])) (Sg a::(us++[.ref f]))) (x:Ext m0 H m2 H3) (rh:RH X.K m2 H3 g):AQ X zt σ m0 H n ws g L cs a f us vs m2 H3 s3 cl
theorem o5 (O:Ok X F G sc N) (hf:∀ x,X.fn x=XZ) {rest:List Rt}
 (hl:BT.mT L=XX ⟨ns,ns,.ret bt⟩) (hp:LPa pa ps) (hn:ns=ps++fv.map (·.2)) (hk:lG ps (fv.map (·.2)) scope=XZ) (hv:uB sc N fv=XZ) (ht:N.contains (BT.bI (BT.rR L))=XZ) (hc:CE' scope ns bt be) (h3:aC oe=XZ) (h6:(apos.endLine==cpos.line)=XZ)
 (hO:PE X oe (tD X F G o)) (hst:ao (e0::rest)=XZ) (hlen:(e0::rest).length < 20) (hS:AO X F G as (e0::rest) (.Lambda pa be scope lp))
 (I:Inv X zt σ H s) (R:RH X.K m0 H h) (S:RS X.prog X.w X.K m0 H σ s') (hC:jX X.K c C) (hM:rA X.K C m ga)
 (e1:BT.ev F G o s' h=XX (.o n,h1)) (e3:BT.oat h1 n=XX (c,fs)) (e4:(BT.bq m fs).isNone=XZ) (e5:BT.evs F G as s' h1=XX (ws,g)) (e6:BT.caps s' fv=XX cs)
 (kk:∀ (a f:Z0) (us:List Z1) (vs:List V) (m2:List Z0) (H3:Hp) (s3:Rv) (cl:List (ZZ×Z0)),AQ X zt σ m0 H n ws g L cs a f us vs m2 H3 s3 cl->ZY (RV X.prog X.w) X.A (call (.ref ga) (Sg a::(us++[Sg f]))) Q X.xe s3) :
 ZY (RV X.prog X.w) X.A (eval (.Call (.Attribute oe m apos) (e0::rest) [] cpos) X.env) Q X.xe s:=by
 have lx:=O.lamx hf _ ht;have lf:=Mc hk;subst hn;refine Uw (thn (hO zt s σ H (λv H1=>∃ m1,Ext m0 H m1 H1/\RH X.K m1 H1 h1/\RW X.prog X.w X.K m1 H1 v (.o n)) I ⟨m0,s',h,_,h1,R,S,e1,λv H1 m1 x1 R1 r1=>⟨m1,x1,R1,r1⟩⟩) λu s1 ⟨v,H1,I1,rv,m1,x1,R1,w1⟩=>?_) (gC h3 hst hlen h6);cases w1 with
 | @o a _ ha =>
 obtain rfl:u=.ref a:=rv;obtain ⟨C',dx,vs0,q1,q2,q3⟩:=R1.mU _ _ _ _ ha e3;cases q2.cn.inj hC.cn;refine gI I1 q1 hC.cls hM (q3.none e4) ?_;have hst':=hst;simp only[ao,Rn] at hst';refine Tj (first:=[.ref a]) (h₀:=X.base) I.ok.mod.kin hM.kp (hS cpos zt s1 σ H1 m1 s' h1 ws g _ I1 R1 (S.ext x1) e5 λvs us H2 s2 m2 I2 rvs x2 R2 w2=>?_) (ai hst'.1) (aH hst'.2);have hfree:∀ y∈scope.names,y.2=.free->X.env.scope.names.lookup y.1=XX .cell:=λy hy e=>by have hm:=lf.all y hy e;obtain ⟨p,hp1,hp2⟩:=List.mem_map.mp hm;have:=List.all_eq_true.mp hv p hp1;simp only[Rn] at this;rw[O.hsc,← hp2];exact eq_of_beq this.2
 refine AN I2 R2 lx hp hfree λf H3 s3 M=>?_;have I3:=M.inv;have hsub:∀ y d,(BC.cQ X.env.cells scope.names []).lookup y=XX d->X.env.cells.lookup y=XX d:=λy d e=>BC.nj (λ_ _ z=>by simp at z) y d e;have hfr:∀ y d,(BC.cQ X.env.cells scope.names []).lookup y=XX d->y∈fv.map (·.2):=λy d e=>lf.all (y,.free) (Ja e) rfl;have hhas:∀ p∈fv,∃ d,(BC.cQ X.env.cells scope.names []).lookup p.2=XX d:=λp hp'=>by have hm:=(lf.fre p.2 (Xq hp')).2;exact BC.nk hm (I3.ok.has p.2 (.inl (hfree _ hm rfl)))
 generalize BC.cQ X.env.cells scope.names []=cl at M hsub hfr hhas;have hcel:∀ y d,cl.lookup y=XX d->X.s₀.heap.objs.size<=d:=λy d e=>I3.ok.cab y d (hf y) (hsub y d e);have hnone:∀ y d,cl.lookup y=XX d->H3 d=XY:=λy d e=>I3.freeC y d (hsub y d e);have hobj:∀ y d,cl.lookup y=XX d->∃ o u,s3.heap.get? d=XX o/\o.data=.cell u:=λy d e=>by obtain ⟨u,ob,g1,g2⟩:=I3.cell y d (hsub y d e);exact ⟨ob,u,g1,g2⟩
 have hfrm:∀ y d,cl.lookup y=XX d->d∉frs X.stack:=λy d e hb=>by
  rcases List.mem_cons.mp (I3.iF d hb) with q|q
  exact I3.cne y d (hsub y d e) q
  ·obtain ⟨_,ob,g1,_⟩:=I3.ok.gc.mem q;exact absurd (RB g1) (Nat.not_lt.mpr (hcel y d e))
 obtain ⟨cvs,cp,rc⟩:=sf I3 M.rh O.hsc O.hN ((S.ext x1).ext (x2.trans M.ext)) hsub fv cs hv hhas e6;have le:Le H3 (eS cl s3.heap H3):=Ex hnone;obtain ⟨pm,ctv,c',oc,os,t,t1,t2,t3,t4⟩:=M.ex;have la:iC m2 (eS cl s3.heap H3) f L cvs:=⟨bt,ps,fv.map (·.2),pa,be,scope,cl,pm,ctv,c',oc,os,t,_,hl,hp,hk,hc,λy y' d e e'=>I3.ok.inj _ _ _ (hsub _ _ e) (hsub _ _ e'),hfr,⟨le _ _ t1.1,t1.2⟩,⟨le _ _ t2.1,t2.2⟩,t3,t4,cp⟩;have R4:RH X.K m2 (eS cl s3.heap H3) g:=M.rh.le le;have w4:RWs X.prog X.w X.K m2 (eS cl s3.heap H3) (.ref a::(vs++[.ref f])) (.o n::(ws++[.c (.l L) cs])):=.cons (.o (x2.ix ha)) (RWs.app ((w2.ext M.ext).le le) (.cons (.c la (rc.tr le.sq)) .nil));have out:∀ b ob,X.base.get? b=XX ob->¬ ∃ y,cl.lookup y=XX b:=λb ob e ⟨y,q⟩=>absurd (RB (I3.ok.bs b ob e).1) (Nat.not_lt.mpr (hcel y b q));have e04:jN X.prog X.w X.K X.mg X.base X.A X.stack s3 (eS cl s3.heap H3):=by
  refine ⟨I3.ok.frames,I3.ok.mod,λb ob e=>⟨(I3.bs b ob e).1,by rw[ef (out b ob e)];exact (I3.bs b ob e).2⟩,Sj I3.ok.bsz I3.sz,I3.stack,λb hb=>?_,λb u e=>?_,I3.bare⟩;rw[ef (λ⟨y,q⟩=>hfrm y b q hb)];exact I3.lT b hb
  ·by_cases cc:∃ y,cl.lookup y=XX b
   ·obtain ⟨y,q⟩:=cc;obtain ⟨ob,uu,g1,g2⟩:=hobj y b q;rw[gS q g1] at e;cases e;exact ⟨g1,_,g1⟩
   ·rw[ef cc] at e;exact (I3.hok b u e).stay (λ_ _ _ z=>z) (λd z=>le _ _ z) λd xs z=>le _ _ z
 have rv4:av (V.ref a::(vs++[.ref f])) (Sg a::(us++[.ref f])):=.cons rfl (rvs.append (.cons rfl .nil));exact ⟨I3.kIn,kk a f us vs m2 H3 s3 cl ⟨I3,hnone,hobj,hfrm,le,R4,w4,e04,rv4,x1.trans (x2.trans M.ext),M.rh⟩⟩
section
variable {X:Cx}{cl:List (ZZ×Z0)}{H3 H5:Hp}{s3 s5:Rv}{m2 m5:List Z0}
theorem AR (hnone:∀ y d,cl.lookup y=XX d->H3 d=XY) (b:Z0) (uu:HO) (e:H3 b=XX uu):¬ ∃ y,cl.lookup y=XX b:=λ⟨y,q⟩=>by rw[hnone y b q] at e;cases e
theorem AS (hnone:∀ y d,cl.lookup y=XX d->H3 d=XY) (hobj:∀ y d,cl.lookup y=XX d->∃ o u,s3.heap.get? d=XX o/\o.data=.cell u) (hfrm:∀ y d,cl.lookup y=XX d->d∉frs X.stack) (le:Le H3 (eS cl s3.heap H3))
 (un:Un (frs X.stack) [] (eS cl s3.heap H3) H5 s3.heap s5.heap) (hok5:HOk P w H5 s5.heap):Un (frs X.stack) [] H3 (hid cl H5) s3.heap s5.heap:=by
 have nc:=AR hnone;refine ⟨λb ob e nn hb hx=>?_,λb ob e nn hb hx=>?_,λb ob e nn hx=>?_,λb ob e hx=>un.there b ob e hx,λb xs e=>?_,λb ob uu e=>?_,λb qs e=>?_⟩
 ·by_cases cc:∃ y,cl.lookup y=XX b
  ·obtain ⟨y,q⟩:=cc;exact (hok5 _ _ (un.frzs _ _ _ (gS q e))).1
  exact un.keep b ob e (by rw[ef cc];exact nn) hb hx
 exact un.slot b ob e (by rw[ef (λ⟨y,q⟩=>hfrm y b q hb)];exact nn) hb hx
 ·by_cases cc:∃ y,cl.lookup y=XX b
  obtain ⟨y,q⟩:=cc;exact uE q;exact d9 (un.free b ob e (by rw[ef cc];exact nn) hx)
 rw[dU (nc _ _ e)];exact un.tups b xs (le _ _ e);rw[dU (nc _ _ e)];exact un.frzs b ob uu (le _ _ e);rw[dU (nc _ _ e)];exact un.tbls b qs (le _ _ e)
theorem vV (hnone:∀ y d,cl.lookup y=XX d->H3 d=XY) (le:Le H3 (eS cl h0 H3)) (x5:Ext m2 (eS cl h0 H3) m5 H5):Ext m2 H3 m5 (hid cl H5):=by
 have nc:=AR hnone;obtain ⟨ex,hm,he⟩:=x5.pre;have lno:∀ b,eS cl h0 H3 b=XY->H3 b=XY:=λb e=>by
  cases gg:H3 b with
  | none=>rfl| some uu=>rw[le _ _ gg] at e;cases e
 refine ⟨⟨ex,hm,λb hb=>lno b (he b hb)⟩,λb ob e nn tt=>?_,λb e=>?_⟩;rw[dU (nc _ _ e)];exact x5.keep b ob (le _ _ e) nn tt
 ·by_cases cc:∃ y,cl.lookup y=XX b
  obtain ⟨y,q⟩:=cc;exact hnone y b q;rw[dU cc] at e;exact lno b (x5.live b e)
end
theorem sj (O:Ok X F G sc N) (hf:∀ x,X.fn x=XZ) {rest:List Rt}
 (hl:BT.mT L=XX ⟨ns,ns,.ret bt⟩) (hp:LPa pa ps) (hn:ns=ps++fv.map (·.2)) (hk:lG ps (fv.map (·.2)) scope=XZ) (hv:uB sc N fv=XZ) (ht:N.contains (BT.bI (BT.rR L))=XZ) (hc:CE' scope ns bt be) (h3:aC oe=XZ) (h6:(apos.endLine==cpos.line)=XZ)
 (hO:PE X oe (tD X F G o)) (hst:ao (e0::rest)=XZ) (hlen:(e0::rest).length < 20) (hS:AO X F G as (e0::rest) (.Lambda pa be scope lp)) :
 PE X (.Call (.Attribute oe m apos) (e0::rest) [] cpos) (tD X F G (.methL o m as L fv)):=by
 intro zt s σ H Q I q;obtain ⟨m0,s',h,z,h',R,S,ee,zr⟩:=q;simp only[BT.ev] at ee;obtain ⟨x,h1,e1,e2⟩:=ak ee;obtain ⟨n,c,fs,ws,g,cs,rfl,e3,e4,e5,e6,e7,e8⟩:=yq e2;obtain ⟨C,ga,fd,ps',k,hC,hM,hB,hR,ok⟩:=O.meth _ _ _ _ _ e7;refine o5 O hf hl hp hn hk hv ht hc h3 h6 hO hst hlen hS I R S hC hM e1 e3 e4 e5 e6 λa f us vs m2 H3 s3 cl P=>?_;obtain ⟨I3,hnone,hobj,hfrm,le,R4,w4,e04,rv4,xx,rh⟩:=P;have sp4:spF X.prog X.w X.K (F (.m c m)) (V.ref a::(vs++[.ref f])) (eS cl s3.heap H3) (λv5 H5=>∃ m5,Ext m2 (eS cl s3.heap H3) m5 H5/\RH X.K m5 H5 h'/\RW X.prog X.w X.K m5 H5 v5 z) E0:=⟨m2,_,g,z,h',R4,w4,e7,λv5 H5 m5 x5 R5 r5=>⟨m5,x5,R5,r5⟩⟩;have hl4:(Sg a::(us++[.ref f])).length=ps'.length:=by rw[← rv4.length];exact ok.len _ _ _ _ sp4
 have hb4:=hB s3 (Sg a::(us++[.ref f])) I3.kIn (by rw[R8];exact hl4);rw[R8] at hb4;have run4:=ok.run X.A X.stack s3 (eS cl s3.heap H3) ⟨Sg a::(us++[Sg f]),[]⟩ (Sg a::(us++[Sg f])) _ _ E0 hR e04 hb4 rv4 sp4;refine Vn (Uv run4 λr s' hq=>?_);cases r with
 | error e=>exact Sa hq
 | ok fl =>
  cases fl with
  | ret u =>
   obtain ⟨v5,H5,os5,bare5,un,hok5,rv5,m5,x5,R5,r5⟩:=hq;have C5:bW cl H5:=λy d e=>by obtain ⟨ob,uu,g1,g2⟩:=hobj y d e;exact ⟨ob,uu,un.frzs _ _ _ (gS e g1),g2⟩
   have un6:=AS hnone hobj hfrm le un hok5;have I6:=I3.yV os5 un6 (lY C5 hok5 λ_ _ e=>e) bare5 (λb zz=>absurd zz (by simp));have x6:=vV hnone le x5;have r6:RW X.prog X.w X.K m5 (hid cl H5) v5 z:=by
    have:=RWs.tr C5.sq (.cons r5 .nil) e8;cases this with
    | cons r _=>exact r
   exact ⟨v5,hid cl H5,I6,rv5,zr v5 _ m5 (xx.trans x6) (C5.rh R5) r6⟩
  | _=>exact Sa hq
end
end BS
end
section
namespace BS
open PySem PySem.Spec PyProof.Rows L2
variable {K:Rm}{st:RU}
noncomputable def gT:Rt->Bool
 | .ListComp _ _ _ _=>X0| .SetComp _ _ _ _=>X0| .DictComp _ _ _ _ _=>X0| _=>XZ
noncomputable def swB (sc scope:SE) (x:ZZ) (np pos:Pos):Bool :=
 (if sc.kind.isAnnotationScope then ScopeKind.function else sc.kind)==.function&&sc.names.lookup x==XX .local&&np.line==pos.line&&!(scope.names.any λ(n,k)=>n==x&&(k==.local||k==.cell))
mutual
inductive CS (sc:SE) (N:List ZZ):BT.S->RU->Prop where
 | setL {i:Nat}{x m:ZZ}{o:BT.E}{as:BT.Es}{L:Nat}{fv:List (Nat×ZZ)}{call:Rt}{np p:Pos} (h1:N[i]?=XX x) (h2:lN sc x=XZ) (hl:CL sc N o m as L fv call):CS sc N (.set i (.methL o m as L fv)) (.Assign [.Name x np] call p)
 | retL {m:ZZ}{o:BT.E}{as:BT.Es}{L:Nat}{fv:List (Nat×ZZ)}{call:Rt}{p:Pos} (hl:CL sc N o m as L fv call):CS sc N (.ret (.methL o m as L fv)) (.Return (XX call) p)
 | setc {i:Nat}{x:ZZ}{mu:Bool}{sr:BT.Sr}{sa:BT.Es}{tg:List ZZ}{fv:List (Nat×ZZ)}{cond:BT.Es}{elt:BT.E}{te iter elt':Rt}{ifs:List Rt}{scope:SE}{pos np p:Pos} (hu:bV N=XZ) (h1:N[i]?=XX x) (h3:(sc.names.lookup x==XX .cell||swB sc scope x np pos)=XZ)
  (hk:jC sc N tg fv scope=XZ) (ht:rV (bF scope sc) tg te=XZ) (hz:rT sr te=XZ) (hs:jA iter=XZ) (hi:CI sc N sr sa iter) (hc:CC (bF scope sc) (tg++fv.map (·.2)) cond ifs) (he:CE' (bF scope sc) (tg++fv.map (·.2)) elt elt') :
  CS sc N (.set i (.comp mu sr sa tg fv cond elt)) (.Assign [.Name x np] (.ListComp elt' [⟨te,iter,ifs,0⟩] scope pos) p)
 | set {i:Nat}{x:ZZ}{e:BT.E}{v:Rt}{np p:Pos} (h1:N[i]?=XX x) (h2:lN sc x=XZ) (h3:gT v=XZ) (he:CE' sc N e v):CS sc N (.set i e) (.Assign [.Name x np] v p)
 | put {i:Nat}{x:ZZ}{k e:BT.E}{ke v:Rt}{np sp p:Pos} (h1:N[i]?=XX x) (h2:lF sc x=XZ) (h3:aB x=XZ) (h4:gT v=XZ) (h5:jW ke=XZ) (hk:CE' sc N k ke) (he:CE' sc N e v):CS sc N (.put i k e) (.Assign [.Subscript (.Name x np) ke sp] v p)
 | putd {i:Nat}{x:ZZ}{k e:BT.E}{ke v:Rt}{np sp p:Pos} (h1:N[i]?=XX x) (h2:lF sc x=XZ) (h3:aB x=XZ) (h4:gT v=XZ) (h5:jW ke=XZ) (hk:CE' sc N k ke) (he:CE' sc N e v):CS sc N (.putd i k e) (.Assign [.Subscript (.Name x np) ke sp] v p)
 | aug {i:Nat}{x:ZZ}{o:BT.Bin}{op:VT}{e:BT.E}{v:Rt}{np p:Pos} (h1:N[i]?=XX x) (h2:lN sc x=XZ) (h3:Aq o op=XZ) (he:CE' sc N e v):CS sc N (.aug i o e) (.AugAssign (.Name x np) op v p)
 | setf {o e:BT.E}{f:ZZ}{oe v:Rt}{np p:Pos} (h1:attrName f=XZ) (h2:gT v=XZ) (ho:CE' sc N o oe) (he:CE' sc N e v):CS sc N (.setf o f e) (.Assign [.Attribute oe f np] v p)
 | augf {o e:BT.E}{f:ZZ}{b:BT.Bin}{op:VT}{oe v:Rt}{np p:Pos} (h1:attrName f=XZ) (h3:Aq b op=XZ) (ho:CE' sc N o oe) (he:CE' sc N e v):CS sc N (.augf o f b e) (.AugAssign (.Attribute oe f np) op v p)
 | ex {e:BT.E}{v:Rt}{p:Pos} (h:gT v=XZ) (he:CE' sc N e v):CS sc N (.ex e) (.Expr v p)
 | ret {e:BT.E}{v:Rt}{p:Pos} (he:CE' sc N e v):CS sc N (.ret e) (.Return (XX v) p)
 | ife {c:BT.E}{a b:BT.S}{t:Rt}{xs ys:List RU}{p:Pos} (h:tOK c=XZ) (hc:CE' sc N c t) (ha:CSs sc N a xs) (hb:CSs sc N b ys):CS sc N (.ife c a b) (.If t xs ys p)
 | whl {c:BT.E}{b:BT.S}{t:Rt}{xs:List RU}{p:Pos} (h:tOK c=XZ) (hc:CE' sc N c t) (hb:CSs sc N b xs):CS sc N (.whl c b) (.While t xs [] p)
 | for {tg:List (Nat×ZZ)}{sr:BT.Sr}{sa:BT.Es}{b:BT.S}{te iter:Rt}{xs:List RU}{p:Pos} (hu:bV N=XZ) (ht:CT sc N tg te) (hi:CI sc N sr sa iter) (hz:rT sr te=XZ) (hs:jA iter=XZ) (hb:CSs sc N b xs):CS sc N (.for tg sr sa b) (.For te iter xs [] p)
 | brk {p:Pos}:CS sc N .brk (.Break p)
 | cnt {p:Pos}:CS sc N .cnt (.Continue p)
 | bad {st:RU}:CS sc N .bad st
inductive CSs (sc:SE) (N:List ZZ):BT.S->List RU->Prop where
 | nil:CSs sc N .nil []
 | one {s:BT.S}{st:RU} (h:CS sc N s st):CSs sc N s [st]
 | cons {a b:BT.S}{st st2:RU}{r:List RU} (h:CS sc N a st) (hr:CSs sc N b (st2::r)):CSs sc N (.seq a b) (st::st2::r)
end
def kj (X:Cx) (m:List Z0) (H:Hp) (fl:BT.Fl) (D:Ends):Prop:=match fl with
 | .nx s' h'=>∀ σ' H' m',Ext m H m' H'->RH X.K m' H' h'->RS X.prog X.w X.K m' H' σ' s'->D.nx σ' H'| .rt z h'=>∀ v H' m',Ext m H m' H'->RH X.K m' H' h'->RW X.prog X.w X.K m' H' v z->D.rt v H'| .bk s' h'=>∀ σ' H' m',Ext m H m' H'->RH X.K m' H' h'->RS X.prog X.w X.K m' H' σ' s'->D.bk σ' H'| .ct s' h'=>∀ σ' H' m',Ext m H m' H'->RH X.K m' H' h'->RS X.prog X.w X.K m' H' σ' s'->D.ct σ' H'
theorem kj.ext {D:Ends} (x:Ext m H m' H') (p:kj X m H fl D):kj X m' H' fl D:=by cases fl<;>exact λa b c y=>p a b c (x.trans y)
inductive tDS (X:Cx) (F:FT) (G:ZZ->Option BT.W) (S:BT.S) (D:Ends) (σ:L2.St) (H:Hp):Prop where
 | mk (m:List Z0) (s:BT.Sl) (h:BT.HH) (fl:BT.Fl) (R:RH X.K m H h) (r:RS X.prog X.w X.K m H σ s) (e:BT.evS F G S s h=XX fl) (p:kj X m H fl D):tDS X F G S D σ H
theorem PS.weak (h:PS X st t) (q:∀ D σ H,t' D σ H->t D σ H):PS X st t':=λzt s σ H D I hw=>h zt s σ H D I (q _ _ _ hw)
theorem PSs.weak {st:List RU} (h:PSs X st t) (q:∀ D σ H,t' D σ H->t D σ H):PSs X st t':=λzt s σ H D I hw=>h zt s σ H D I (q _ _ _ hw)
section
theorem AU (D:Ends) (σ:L2.St) (H:Hp) (q:tDS X F G (.seq a b) D σ H):KG (tDS X F G a) (tDS X F G b) D σ H:=by
 obtain ⟨m,s,h,fl,R,S,e,zr⟩:=q;simp only[BT.evS] at e;cases g:BT.evS F G a s h with
 | none=>rw[g] at e;cases e
 | some f1 =>
  rw[g] at e;refine ⟨m,s,h,f1,R,S,g,?_⟩;cases f1 with
  | nx s1 h1=>exact fun σ1 H1 m1 x1 R1 S1=>⟨m1,s1,h1,fl,R1,S1,e,zr.ext x1⟩
  | _=>cases e;exact zr
theorem jo {X:Cx}{S0:BT.S}{a:BT.E}{k:BT.Sl->BT.W->BT.HH->Option BT.Fl} (he:∀ s h,BT.evS F G S0 s h=BT.bnd (BT.ev F G a s h) (k s)) {D:Ends}{σ:L2.St}{H:Hp} (q:tDS X F G S0 D σ H) {R':V->Hp->Prop}
 (h1:∀ m s h x fl v H1,RH X.K m H1 h->RS X.prog X.w X.K m H1 σ s->RW X.prog X.w X.K m H1 v x->k s x h=XX fl->kj X m H1 fl D->R' v H1):tD X F G a σ H R':=by
 obtain ⟨m,s,h,fl,R,S,ee,zr⟩:=q;rw[he] at ee;obtain ⟨x,g,e1,e2⟩:=ak ee;exact ⟨m,s,h,x,g,R,S,e1,λv H1 m1 x1 R1 r1=>h1 m1 s g x fl v H1 R1 (S.ext x1) r1 e2 (zr.ext x1)⟩
theorem vW (h:BT.tst x k=XX fl):∃ b g,x=XX (.p (.bl b),g)/\k b g=XX fl:=by
 unfold BT.tst at h;obtain ⟨w,g,e1,e2⟩:=ak h;unfold BT.LK at e2;cases w with
 | p d =>
  cases d<;>simp only at e2<;>try contradiction
  exact ⟨_,g,e1,e2⟩
 | _=>cases e2
theorem jg (h:gT e=XZ):U0 e t l env=pure X0:=by cases e<;>first|rfl|cases h
theorem vX (h:gT e=XZ):swapsWithSole [t] e l env=pure X0:=jg h
theorem nu (h:jW i=XZ):∀ v,WS (.Subscript o i pos) env v=(do
 let ov ← holding [v] (eval o env)
 let iv ← holding [v,ov] (eval i env)
 standAt pos
 holding [v,ov,iv] (setItem ov iv v)
 release [v,ov,iv] []):=by
 intro v;cases i<;>first|rfl|cases h
theorem Jc (D:Ends) (σ:L2.St) (H:Hp) (q:tDS X F G (.whl c b) D σ H):zc (tDT X F G c) (tDS X F G b) D σ H:=by
 obtain ⟨m0,s,h,fl,R,S,e,zr⟩:=q;simp only[BT.evS] at e;refine ⟨λn σ H=>∃ m s h,RH X.K m H h/\RS X.prog X.w X.K m H σ s/\BT.aQ (BT.ev F G c) (BT.evS F G b) n s h=XX fl/\kj X m H fl D,⟨BT.turns,m0,s,h,R,S,e,zr⟩,?_⟩
 rintro n σ1 H1 ⟨m,s,h,R,S,e,zr⟩
 cases n with
 | zero=>cases e
 | succ n =>
  rw[BT.aQ] at e;obtain ⟨t,g,e1,e2⟩:=vW e;refine ⟨m,s,h,t,g,R,S,e1,λH2 m2 x2 R2=>?_⟩;cases t with
  | false =>
   rw[BT.gM] at e2;cases e2;rw[if_neg (by decide)];exact zr σ1 H2 m2 x2 R2 (S.ext x2)
  | true =>
   rw[BT.gK] at e2;rw[if_pos rfl];refine ⟨fun σ' H'=>∃ m' s' h',RH X.K m' H' h'/\RS X.prog X.w X.K m' H' σ' s'/\BT.aQ (BT.ev F G c) (BT.evS F G b) n s' h'=XX fl/\kj X m' H' fl D,fun σ' H' ⟨m',s',h',a1,a2,a3,a4⟩=>⟨n,Tu n,m',s',h',a1,a2,a3,a4⟩,?_⟩;cases gb:BT.evS F G b s g with
   | none=>rw[gb] at e2;cases e2
   | some f1 =>
    rw[gb] at e2;refine ⟨m2,s,g,f1,R2,S.ext x2,gb,?_⟩;cases f1 with
    | nx s1 h1=>exact fun σ3 H3 m3 x3 R3 S3=>⟨m3,s1,h1,R3,S3,e2,(zr.ext x2).ext x3⟩
    | ct s1 h1=>exact fun σ3 H3 m3 x3 R3 S3=>⟨m3,s1,h1,R3,S3,e2,(zr.ext x2).ext x3⟩
    | bk s1 h1=>cases e2;exact fun σ3 H3 m3 x3 R3 S3=>zr σ3 H3 m3 (x2.trans x3) R3 S3
    | rt z h1=>cases e2;exact λv H3 m3 x3 R3 r3=>zr v H3 m3 (x2.trans x3) R3 r3
theorem Jd (D:Ends) (σ:L2.St) (H:Hp) (q:tDS X F G (.aug i o e) D σ H):KN i (tD X F G e) (ID o) D σ H:=by
 obtain ⟨m,s,h,fl,R,S,ee,zr⟩:=q;simp only[BT.evS] at ee;obtain ⟨y,g,e1,e2⟩:=ak ee;unfold BT.LS at e2;have hs:∃ d d' z,s[i]?=XX (XX (.p d))/\y=.p d'/\BT.mL o d d'=XX z/\fl=.nx (s.set i (XX (.p z))) g:=by
  cases g1:s[i]? with
  | none=>rw[g1] at e2;cases y<;>cases e2
  | some ow =>
   cases ow with
   | none=>rw[g1] at e2;cases y<;>cases e2
   | some w0 =>
    rw[g1] at e2;cases w0<;>cases y<;>simp only at e2<;>try contradiction
    obtain ⟨z,e3,e4⟩:=aF e2;exact ⟨_,_,z,rfl,rfl,e3,e4.symm⟩
 obtain ⟨d,d',z,g1,rfl,e3,rfl⟩:=hs;obtain ⟨a,b,k,rfl,rfl,rfl⟩:=vO e3;obtain ⟨v,hv,rv⟩:=S.get i _ g1;have ev:v=.int a:=by cases rv with|p rv=>cases rv;rfl
 subst ev;refine ⟨_,hv,m,s,h,_,g,R,S,e1,λu H1 m1 x1 R1 r1=>?_⟩;cases r1 with
 | p r1 =>
  cases r1;exact ⟨a,b,k,rfl,rfl,e3,zr _ H1 m1 x1 R1 ((S.ext x1).set (.p (.int k)))⟩
theorem yr (e:BT.pX s f v x h=XX fl):∃ n c fs,x=.o n/\BT.oat h n=XX (c,fs)/\BT.attrOk v=XZ/\fs.length < 1000/\fl=.nx s (h.set n (.o c (BT.bL f v fs))):=by
 cases x with
 | o n =>
  rw[BT.zN] at e;cases g:BT.oat h n with
  | none=>rw[g] at e;cases e
  | some q =>
   obtain ⟨c,fs⟩:=q;rw[g] at e;simp only at e;split at e
   ·rename_i c1;cases e;simp only[Rn,decide_eq_true_eq] at c1;exact ⟨n,c,fs,rfl,g,c1.1,c1.2,rfl⟩
   cases e
 | _=>cases e
theorem su {D:Ends} (R:RH X.K m H h) (S:RS X.prog X.w X.K m H σ s) (hn:m[n]?=XX a) (h1:H a=XX (.ins C dx vs)) (h2:jX X.K c C) (h3:RFs X.K m H vs fs) (ra:RA X.K m H v y)
 (zr:kj X m H (.nx s (h.set n (.o c (BT.bL f y fs)))) D):D.nx σ (upd H a (.ins C dx (L2.bL f v vs))):=by
 have x:Ext m H m (upd H a (.ins C dx (L2.bL f v vs))):=jY (RC hn);exact zr σ _ m x (R.setC hn ⟨C,dx,_,aG,h2,(RFs.put ra h3).ext x⟩) (S.ext x)
theorem Ey {X:Cx}{o e:BT.E}{f:ZZ} (hf:attrName f=XZ) (D:Ends) (σ:L2.St) (H:Hp) (q:tDS X F G (.setf o f e) D σ H):K1 X.K (tD X F G o) (tD X F G e) f D σ H:=by
 refine jo (k:=λs=>BT.zO (BT.ev F G o s) s f) (λs h=>by simp only[BT.evS]) q λm s h y fl v H1 R S r e1 zr=>?_;rw[BT.zP] at e1;obtain ⟨x,g,e2,e3⟩:=ak e1;obtain ⟨n,c,fs,rfl,g1,ok,hl,rfl⟩:=yr e3;refine ⟨m,s,h,.o n,g,R,S,e2,λu H2 m2 x2 R2 r2=>?_⟩;cases r2 with
 | @o a _ hn =>
  obtain ⟨C,dx,vs,q1,q2,q3⟩:=R2.mU _ _ _ _ hn g1;exact ⟨a,C,dx,vs,rfl,q1,q2.cls,q2.no f hf,by rw[q3.length];exact hl,su R2 (S.ext x2) hn q1 q2 q3 ((r.ext x2).ra ok) (zr.ext x2)⟩
theorem AV (e:BT.vC ee s f op x h=XX fl):∃ n c fs d y g fs' z,x=.o n/\BT.oat h n=XX (c,fs)/\BT.bq f fs=XX (.p d)/\ee h=XX (.p y,g)/\BT.oat g n=XX (c,fs')/\BT.mL op d y=XX z/\fs'.length < 1000/\fl=.nx s (g.set n (.o c (BT.bL f (.p z) fs'))):=by
 cases x with
 | o n =>
  rw[BT.DL] at e;cases g1:BT.oat h n with
  | none=>rw[g1] at e;cases e
  | some q =>
   obtain ⟨c,fs⟩:=q;rw[g1] at e;simp only at e;cases g2:BT.bq f fs with
   | none=>rw[g2] at e;cases e
   | some w0 =>
    rw[g2] at e;cases w0 with
    | p d =>
     simp only at e;obtain ⟨y,g,e1,e2⟩:=ak e;cases y with
     | p y =>
      rw[BT.zQ] at e2;cases g3:BT.oat g n with
      | none=>rw[g3] at e2;cases e2
      | some q =>
       obtain ⟨c',fs'⟩:=q;rw[g3] at e2;simp only at e2;cases g4:BT.mL op d y with
       | none=>rw[g4] at e2;cases e2
       | some z =>
        rw[g4] at e2;simp only at e2;split at e2
        ·rename_i c1;cases e2;obtain ⟨rfl,c1⟩:=c1;exact ⟨n,c',fs,d,y,g,fs',z,rfl,g1,g2,e1,g3,g4,c1,rfl⟩
        cases e2
     | _=>cases e2
    | _=>cases e
 | _=>cases e
theorem Ez {X:Cx}{o e:BT.E}{f:ZZ}{b:BT.Bin} (hf:attrName f=XZ) (D:Ends) (σ:L2.St) (H:Hp) (q:tDS X F G (.augf o f b e) D σ H):ve X.K (tD X F G o) (tD X F G e) (ID b) f D σ H:=by
 refine jo (k:=λs=>BT.vC (BT.ev F G e s) s f b) (λs h=>by simp only[BT.evS]) q λm s h y fl v H1 R S r e1 zr=>?_;obtain ⟨n,c,fs,d,y,g,fs',z,rfl,g1,g2,e2,g3,g4,hl,rfl⟩:=AV e1;obtain ⟨i,j,k,rfl,rfl,rfl⟩:=vO g4;cases r with
 | @o a _ hn =>
  obtain ⟨C,dx,vs,q1,q2,q3⟩:=R.mU _ _ _ _ hn g1;obtain ⟨u,l,ra⟩:=q3.get g2;have eu:u=.int i:=by cases ra with|p ra=>cases ra;rfl
  subst eu;refine ⟨a,C,dx,vs,_,rfl,q1,q2.cls,q2.no f hf,l,m,s,h,_,g,R,S,e2,λu2 H2 m2 x2 R2 r2=>?_⟩;cases r2 with
  | p r2 =>
   cases r2;obtain ⟨C',dx',vs',p1,p2,p3⟩:=R2.mU _ _ _ _ (x2.ix hn) g3;cases p2.cn.inj q2.cn;exact ⟨i,j,k,rfl,rfl,g4,dx',vs',p1,by rw[p3.length];exact hl,su R2 (S.ext x2) (x2.ix hn) p1 p2 p3 (.p (.int k)) (zr.ext x2)⟩
theorem Je {X:Cx}{i:Nat}{k e:BT.E} (D:Ends) (σ:L2.St) (H:Hp) (q:tDS X F G (.put i k e) D σ H):xm (tD X F G e) (G4 (tD X F G (.var i)) (tD X F G k) Gj) D σ H:=by
 refine jo (k:=λs=>BT.HW (BT.ev F G k s) s i) (λs h=>by simp only[BT.evS]) q λm s h y fl v H1 R S r e1 zr=>?_;unfold BT.HW at e1;cases y with
 | p d =>
  cases g:s[i]? with
  | none=>rw[g] at e1;cases e1
  | some o =>
   cases o with
   | none=>rw[g] at e1;cases e1
   | some wz =>
    cases wz with
    | r n =>
     rw[g] at e1;simp only at e1;obtain ⟨q,h2,e2,e3⟩:=ak e1;refine ⟨m,s,h,.r n,h,R,S,by simp only[BT.ev,g],λo H2 m2 x2 R2 r2=>⟨m2,s,h,q,h2,R2,S.ext x2,e2,λki H3 m3 x3 R3 r3=>?_⟩⟩;unfold BT.Gs at e3;cases q with
     | p dk =>
      cases g2:BT.lat h2 n with
      | none=>rw[g2] at e3;cases dk<;>cases e3
      | some xs =>
       rw[g2] at e3;cases dk with
       | int j =>
        simp only at e3;cases g3:BT.place xs.length j with
        | none=>rw[g3] at e3;cases e3
        | some mm =>
         rw[g3] at e3;cases e3;have r2':=r2.ext x3;cases r2' with
         | @r a _ hn =>
          cases r3 with
          | p r3 =>
           cases r3;obtain ⟨us,hH,ru⟩:=R3.cell n a xs hn g2;refine ⟨a,us,j,mm,rfl,rfl,hH,by rw[ru.length];exact g3,?_⟩;have x4:Ext m3 H3 m3 (upd H3 a (.lst (us.set mm v))):=gA (RC hn) hH;cases r with
           | p r=>exact zr σ _ m3 ((x2.trans x3).trans x4) (R3.set hn hH (RDs.set ((r.ext x2).ext x3) mm ru)) (((S.ext x2).ext x3).ext x4)
       | _=>cases e3
     | _=>cases e3
    | _=>rw[g] at e1;cases e1
 | _=>cases e1
theorem EA {X:Cx}{i:Nat}{k e:BT.E} (D:Ends) (σ:L2.St) (H:Hp) (q:tDS X F G (.putd i k e) D σ H):xm (tD X F G e) (G4 (tD X F G (.var i)) (tD X F G k) GA) D σ H:=by
 refine jo (k:=λs=>BT.vB (BT.ev F G k s) s i) (λs h=>by simp only[BT.evS]) q λm s h y fl v H1 R S r e1 zr=>?_;cases y with
 | p d =>
  rw[BT.DK] at e1;cases g:s[i]? with
  | none=>rw[g] at e1;cases e1
  | some o =>
   cases o with
   | none=>rw[g] at e1;cases e1
   | some wz =>
    cases wz with
    | r n =>
     rw[g] at e1;simp only at e1;obtain ⟨q,h2,e2,e3⟩:=ak e1;refine ⟨m,s,h,.r n,h,R,S,by simp only[BT.ev,g],λo H2 m2 x2 R2 r2=>⟨m2,s,h,q,h2,R2,S.ext x2,e2,λki H3 m3 x3 R3 r3=>?_⟩⟩;cases q with
     | p dk =>
      rw[BT.zM] at e3;obtain ⟨kvs,e4,e5⟩:=Option.bind_eq_some_iff.mp e3;obtain ⟨ky,e6,e7⟩:=Option.bind_eq_some_iff.mp e5;split at e7
      case isFalse=>cases e7
      rename_i c;cases e7;have r2':=r2.ext x3;cases r2' with
      | @r a _ hn =>
       cases r3 with
       | p r3 =>
        obtain ⟨us,hH,ru⟩:=R3.Gx n a kvs hn e4;have:=cO;have hl:=ru.length;refine ⟨a,us,ky,rfl,IP r3 e6,hH,by lia,?_⟩;have x4:Ext m3 H3 m3 (upd H3 a (.dK (putK us ky v))):=jY (RC hn);cases r with
        | p r=>exact zr σ _ m3 ((x2.trans x3).trans x4) (R3.setC hn ⟨_,aG,(ru.put ky (IQ r3 e6) ((r.ext x2).ext x3)).ext x4⟩) (((S.ext x2).ext x3).ext x4)
     | _=>cases e3
    | _=>rw[g] at e1;cases e1
 | _=>cases e1
end
section
theorem Jf (hg:GOk X tg g) (D:Ends) (σ:L2.St) (H:Hp) (q:tDS X F G (.for tg sr sa b) D σ H):KR (iD X F G sr sa) g (tDS X F G b) D σ H:=by
 obtain ⟨m,s,h,fl,R,S,e,zr⟩:=q;simp only[BT.evS] at e;obtain ⟨ws,h1,e1,e2⟩:=ak e;unfold BT.kFor at e2;cases g1:(BT.rds ws h1).bind (BT.c9 sr) with
 | none=>rw[g1] at e2;cases e2
 | some ds =>
  rw[g1] at e2;simp only at e2;split at e2
  ·rename_i ca;refine ⟨m,s,h,ws,h1,ds,R,S,e1,g1,.inl ca,λH1 m1 J x1 R1 it=>?_⟩;refine ⟨λi n σ H=>i<=ds.length/\n=ds.length - i/\∃ m s h,Ext m1 H1 m H/\RH X.K m H h/\RS X.prog X.w X.K m H σ s/\BT.aR (BT.evS F G b) tg (ds.drop i) s h=XX fl/\kj X m H fl D,
    ⟨ds.length,SC _,rfl,m1,s,h1,.refl _ _,R1,S.ext x1,by rw[VA];exact e2,zr.ext x1⟩,?_⟩
   rintro i n σ2 H2 ⟨hi,rfl,m2,s2,h2,x2,R2,S2,e3,post2⟩
   by_cases c:i < ds.length
   ·refine .inr ⟨it.go m2 H2 h2 i x2 R2 (m8 ca) c,_,fun σ' H' z=>⟨ds.length - (i+1),by lia,c,rfl,z⟩,λx H3 y=>?_⟩;obtain ⟨x3,k3,r3⟩:=it.yld m2 H2 h2 i x H3 ds[i] x2 R2 (m8 ca) (Ru c) y;rw[WC c,BT.aR] at e3;cases g2:BT.target tg.length ds[i] with
    | none=>rw[g2] at e3;cases e3
    | some dd =>
     rw[g2] at e3;simp only at e3;have R3:=R2.ext x3 k3;refine hg m2 H3 σ2 s2 x ds[i] dd _ (S2.ext x3) r3 g2 fun σ4 S4=>?_;cases g3:BT.evS F G b (BT.sets tg dd s2) h2 with
     | none=>rw[g3] at e3;cases e3
     | some f1 =>
      rw[g3] at e3;refine ⟨m2,_,h2,f1,R3,S4,g3,?_⟩;cases f1 with
      | nx s5 h5=>exact fun σ5 H5 m5 x5 R5 S5=>⟨m5,s5,h5,(x2.trans x3).trans x5,R5,S5,e3,(post2.ext x3).ext x5⟩
      | ct s5 h5=>exact fun σ5 H5 m5 x5 R5 S5=>⟨m5,s5,h5,(x2.trans x3).trans x5,R5,S5,e3,(post2.ext x3).ext x5⟩
      | bk s5 h5=>cases e3;exact fun σ5 H5 m5 x5 R5 S5=>post2 σ5 H5 m5 (x3.trans x5) R5 S5
      | rt z h5=>cases e3;exact λv H5 m5 x5 R5 r5=>post2 v H5 m5 (x3.trans x5) R5 r5
   ·have ei:i=ds.length:=by lia
    subst ei;refine .inl ⟨it.stop m2 H2 h2 x2 R2 (m8 ca),?_⟩;rw[List.drop_length,BT.aR] at e3;cases e3;exact post2 σ2 H2 m2 (.refl _ _) R2 S2
  cases e2
theorem Mn {X:Cx}{sc:SE}{N:List ZZ} (O:Ok X F G sc N) {x:ZZ}{np pos p:Pos}{elt':Rt}{gs:List Comprehension}{scope:SE} (h:swB sc scope x np pos=XZ):U0 (.ListComp elt' gs scope pos) (XX (.Name x np)) p.line X.env=pure XZ:=by have e:U0 (.ListComp elt' gs scope pos) (XX (.Name x np)) p.line X.env=pure (swB X.env.scope scope x np pos):=rfl;rw[e,O.hsc,h]
theorem EB (c:(sc.names.lookup x==XX .cell)=XZ):lN sc x=XZ:=by unfold lN;rw[eq_of_beq c]
theorem AW (h:swB sc scope x np pos=XZ):sc.names.lookup x=XX .local:=by unfold swB at h;simp only[Rn] at h;exact eq_of_beq h.1.1.2
theorem Mp {X:Cx}{sc:SE}{N:List ZZ} (O:Ok X F G sc N) {x:ZZ}{np pos p:Pos}{elt':Rt}{gs:List Comprehension}{scope:SE} (c:(sc.names.lookup x==XX .cell)=XZ):U0 (.ListComp elt' gs scope pos) (XX (.Name x np)) p.line X.env=pure X0:=by
 have e:U0 (.ListComp elt' gs scope pos) (XX (.Name x np)) p.line X.env=pure (swB X.env.scope scope x np pos):=rfl;have z:swB sc scope x np pos=X0:=by
  cases h:swB sc scope x np pos with
  | false=>rfl
  | true =>
   have:=AW h;rw[eq_of_beq c] at this;cases this
 rw[e,O.hsc,z]
theorem sCL (O:Ok X F G sc N) (hf:∀ x,X.fn x=XZ) {call:Rt} (h:CL sc N o m as L fv call):PE X call (tD X F G (.methL o m as L fv))/\gT call=XZ:=by
 cases h with
 | zero hl hp hn hk hv ht hc h3 h6 ho=>exact ⟨sj O hf hl hp hn hk hv ht hc h3 h6 (sE ho O) rfl (by simp) GB,rfl⟩| one hl hp hn hk hv ht hc h3 h6 ho hs ha=>exact ⟨sj O hf hl hp hn hk hv ht hc h3 h6 (sE ho O) (by simp only[ao,hs];rfl) (by simp) (GC hs (sE ha O)),rfl⟩
theorem AX:PSs X [] (tDS X F G .nil):=PSs.weak C4 λD σ H q=>by obtain ⟨m,s,h,fl,R,S,e,zr⟩:=q;simp only[BT.evS] at e;cases e;exact zr σ H m (.refl _ _) R S
theorem sS (O:Ok X F G sc N) (hf:∀ x,X.fn x=XZ) (hh:CS sc N s st):PS X st (tDS X F G s) :=
 CS.rec (motive_1:=λs st _=>PS X st (tDS X F G s)) (motive_2:=λs sts _=>PSs X sts (tDS X F G s))
  (@λi x m o as L fv call np p h1 h2 hl=>PS.weak (tU (i:=i) O.nd (by rw[O.hN];exact h1) (jG O h2) (sCL O hf hl).1 (jg (sCL O hf hl).2) (.inl (hf x))) λD σ H q =>
   jo (k:=λs=>BT.uy s i) (λs h=>by simp only[BT.evS]) q λm s h y fl v H1 R S r e1 zr=>by simp only[BT.uy] at e1;cases e1;exact zr _ H1 m (.refl _ _) R (S.set r))
  (λhl=>PS.weak (tT (sCL O hf hl).1) λD σ H q =>
   jo (k:=λs=>BT.zR) (λs h=>by simp only[BT.evS]) q λm s h y fl v H1 R S r e1 zr=>by simp only[BT.zR] at e1;cases e1;exact zr v H1 m (.refl _ _) R r)
  (@λi x mu sr sa tg fv cond elt te iter elt' ifs scope pos np p hu h1 h3 hk ht hz hs hi hc he=>by
   have K:∀ (D:Ends) (σ:L2.St) (H:Hp),tDS X F G (.set i (.comp mu sr sa tg fv cond elt)) D σ H->xm (tD X F G (.comp mu sr sa tg fv cond elt)) (qY i) D σ H:=λD σ H q =>
    jo (k:=λs=>BT.uy s i) (λs h=>by rw[BT.evS]) q λm s h y fl v H1 R S r e1 zr=>by simp only[BT.uy] at e1;cases e1;exact zr _ H1 m (.refl _ _) R (S.set r)
   by_cases c:(sc.names.lookup x==XX .cell)=XZ
   exact PS.weak (tU (i:=i) O.nd (by rw[O.hN];exact h1) (jG O (EB c)) (sE (CQ.comp hu hk ht hz hs hi hc he) O) (Mp O c) (.inl (hf x))) K
   ·have h4:swB sc scope x np pos=XZ:=by rw[T8] at h3;exact h3.resolve_left c
    exact PS.weak (Er O hu hk ht hs (sCI hi O hz) (sCC hc) (λX' O'=>sE he O') h1 (AW h4) (Mn O h4)) K)
  (@λi x e v np p h1 h2 h3 he=>PS.weak (tU (i:=i) O.nd (by rw[O.hN];exact h1) (jG O h2) (sE he O) (jg h3) (.inl (hf x))) λD σ H q =>
   jo (k:=λs=>BT.uy s i) (λs h=>by simp only[BT.evS]) q λm s h y fl v H1 R S r e1 zr=>by simp only[BT.uy] at e1;cases e1;exact zr _ H1 m (.refl _ _) R (S.set r))
  (λh1 h2 h3 h4 h5 hk he=>PS.weak (zb (sE he O) (za (qf O h1 h2 h3) (sE hk O) set_list (nu h5)) (vX h4) rfl) Je)
  (λh1 h2 h3 h4 h5 hk he=>PS.weak (zb (sE he O) (za (qf O h1 h2 h3) (sE hk O) set_dict (nu h5)) (vX h4) rfl) EA)
  (λh1 h2 h3 he=>PS.weak (G5 O.nd (by rw[O.hN];exact h1) (jG O h2) (sE he O) (vN h3) (.inl (hf _))) Jd)
  (λh1 h2 ho he=>PS.weak (Ho (sE ho O) (sE he O) (jg h2)) (Ey h1))
  (λh1 h3 ho he=>PS.weak (xG (sE ho O) (sE he O) (vN h3)) (Ez h1))
  (λh he=>PS.weak (C6 (sE he O) (jg h)) λD σ H q =>
   jo (k:=λs=>BT.kEx s) (λs h=>by simp only[BT.evS]) q λm s h y fl v H1 R S r e1 zr=>by simp only[BT.kEx] at e1;cases e1;exact zr σ H1 m (.refl _ _) R S)
  (λhe=>PS.weak (tT (sE he O)) λD σ H q =>
   jo (k:=λs=>BT.zR) (λs h=>by simp only[BT.evS]) q λm s h y fl v H1 R S r e1 zr=>by simp only[BT.zR] at e1;cases e1;exact zr v H1 m (.refl _ _) R r)
  (λh hc ha hb ia ib=>PS.weak (KJ (sT hc O h).1 ia ib) λD σ H q=>by
   obtain ⟨m,s,h,fl,R,S,e,zr⟩:=q;simp only[BT.evS] at e;obtain ⟨t,g,e1,e2⟩:=vW e;refine ⟨m,s,h,t,g,R,S,e1,λH1 m1 x1 R1=>?_⟩;simp only[BT.kIf] at e2;cases t with
   | true=>exact ⟨m1,s,g,fl,R1,S.ext x1,e2,zr.ext x1⟩
   | false=>exact ⟨m1,s,g,fl,R1,S.ext x1,e2,zr.ext x1⟩)
  (λh hc hb ib=>PS.weak (zd O.own (sT hc O h).1 ib) Jc)
  (λhu ht hi hz hs hb ib=>by obtain ⟨g,hg1,hg2⟩:=sCT O (O.calm hu) ht (λq _=>.inl (hf q.2));exact PS.weak (G7 O.own (O.calm hu) (sCI hi O hz) hg1 ib (vS hs)) (Jf hg2))
  (PS.weak y9 λD σ H q=>by obtain ⟨m,s,h,fl,R,S,e,zr⟩:=q;simp only[BT.evS] at e;cases e;exact zr σ H m (.refl _ _) R S)
  (PS.weak qX λD σ H q=>by obtain ⟨m,s,h,fl,R,S,e,zr⟩:=q;simp only[BT.evS] at e;cases e;exact zr σ H m (.refl _ _) R S)
  (λzt s σ H D I q=>by obtain ⟨m,s,h,fl,R,S,e,zr⟩:=q;simp only[BT.evS] at e;cases e)
  AX
  (λ_ ih=>lV ih)
  (λ_ _ ih ir=>PSs.weak (qW ih ir) AU)
  hh
theorem sSs (O:Ok X F G sc N) (hf:∀ x,X.fn x=XZ) {sts:List RU} (hh:CSs sc N s sts):PSs X sts (tDS X F G s):=by refine CSs.rec (motive_1:=λ_ _ _=>True) (motive_2:=λs sts _=>PSs X sts (tDS X F G s)) ?_ ?_ ?_ ?_ ?_ ?_ ?_ ?_ ?_ ?_ ?_ ?_ ?_ ?_ ?_ ?_ ?_ AX (λh _=>lV (sS O hf h)) (λh _ _ ir=>PSs.weak (qW (sS O hf h) ir) AU) hh<;>(intros;trivial)
end
section
variable {K:Rm}
mutual
theorem RD.shrink (x:∀ a∈m,a∈m'):∀ {v:V}{d:BT.D},RD K m' H v d->RD K m H v d
 | _,_,.non=>.non| _,_,.bl b=>.bl b| _,_,.int i=>.int i| _,_,.str y h=>.str y h| _,_,.tup h r=>.tup (h.elim (λq=>.inl ⟨q.1,λz=>q.2 (x _ z)⟩) .inr) (RDs.shrink x r)| _,_,.lst h r=>.lst (h.elim (λq=>.inl ⟨q.1,λz=>q.2 (x _ z)⟩) .inr) (RDs.shrink x r)
theorem RDs.shrink (x:∀ a∈m,a∈m'):∀ {vs:List V}{ds:List BT.D},RDs K m' H vs ds->RDs K m H vs ds
 | _,_,.nil=>.nil| _,_,.cons r t=>.cons (RD.shrink x r) (RDs.shrink x t)
end
end
theorem RFs.shrink {K:Rm}:∀ {vs0 vs:List (ZZ×V)}{fs:List (ZZ×BT.W)},RFs K m H vs0 fs->RFs K (m++ex) H' vs fs->RFs K m H' vs fs
 | _,_,_,.nil,.nil=>.nil
 | _,_,_,.cons r0 t0,.cons r t=>by
  refine .cons ?_ (RFs.shrink t0 t);have back:∀ {n:Nat}{a b:Z0},m[n]?=XX b->(m++ex)[n]?=XX a->m[n]?=XX a:=λ{n a b} h1 h2=>by rw[Rp (getD_some h1)] at h2;exact h2
  cases r with
  | p r=>exact .p (r.shrink λa ha=>SM _ ha)
  | r h=>cases r0 with|r h0=>exact .r (back h0 h)
  | o h=>cases r0 with|o h0=>exact .o (back h0 h)
theorem RKs.shrink {K:Rm} (sub:∀ a∈m,a∈m') (r:RKs K m' H vs kvs):RKs K m H vs kvs:=by
 induction r with
 | nil=>exact .nil| cons hk r t ih=>exact .cons (hk.shrink sub) (r.shrink sub) ih
theorem b9 (e:BT.fin h y g=XX (z,h')) (R:RH K m H h) (x:Ext m H m' H') (R':RH K m' H' g) (r:RW P w K m' H' v y) :
 ∃ m2,Ext m H m2 H'/\RH K m2 H' h'/\RW P w K m2 H' v z:=by
 unfold BT.fin at e;split at e;cases e;exact ⟨m',x,R',r⟩
 ·split at e
  ·rename_i c1 c2;obtain ⟨ex,rfl,hx⟩:=x.pre;have sub:∀ a∈m,a∈m++ex:=λa ha=>SM _ ha;have x2:Ext m H m H':=⟨⟨[],by simp,by simp⟩,x.keep,x.live⟩;have R2:RH K m H' h:=by
    refine ⟨R.nd,R.len,λi a xs e1 e2=>?_,R'.tb⟩;have hi:i < m.length:=getD_some e1;have hi2:i < h.length:=by rw[← R.len];exact hi
    have e3:g[i]?=XX xs:=by rw[← c2,Uo hi2] at e2;exact e2
    have z:=R'.cl i a xs (by rw[Rp hi];exact e1) e3;cases xs with
    | o c fs =>
     obtain ⟨C0,dx0,vs0,_,_,q0⟩:=R.cl i a _ e1 e2;obtain ⟨C,dx,vs,q1,q2,q3⟩:=z;exact ⟨C,dx,vs,q1,q2,q0.shrink q3⟩
    | _=>obtain ⟨vs,q1,q2⟩:=z;exact ⟨vs,q1,q2.shrink sub⟩
   cases r with
   | p r=>cases e;exact ⟨m,x2,R2,.p (r.shrink sub)⟩
   | @o a n hn =>
    simp only at e;split at e
    ·rename_i c3;cases e;refine ⟨m,x2,R2,.o ?_⟩;rw[Rp (by rw[R.len];exact c3)] at hn;exact hn
    cases e;exact ⟨m++ex,x,R',.o hn⟩
   | @r a n hn =>
    simp only at e;split at e
    ·rename_i c3;cases e;refine ⟨m,x2,R2,.r ?_⟩;rw[Rp (by rw[R.len];exact c3)] at hn;exact hn
    ·rename_i c3;obtain ⟨xs,e4,e5⟩:=aF e;cases e5;obtain ⟨vs,q1,q2⟩:=R'.cell n a xs hn e4;refine ⟨m,x2,R2,.p (.lst (.inl ⟨.inl q1,λz=>?_⟩) (q2.shrink sub))⟩;obtain ⟨j,hj⟩:=SN z;have hjl:=getD_some hj;have ej:(m++ex)[j]?=XX a:=by rw[Rp hjl];exact hj
     have:=oW R'.nd ej hn;rw[R.len] at hjl;lia
   | _=>cases e
  cases e;exact ⟨m',x,R',r⟩
theorem fq (r:RWs P w K m H vs ws):RS P w K m H (L2.start N vs) (BT.aY N.length ws):=by
 have hl:=r.length;refine ⟨by simp[L2.start,BT.aY,hl],λi y e=>?_⟩;simp only[BT.aY] at e
 by_cases c:i < ws.length
 ·rw[Rp (by simpa using c),RY] at e;obtain ⟨z,e1,e2⟩:=aF e;cases e2;have:∀ {vs:List V}{ws:List BT.W}{i:Nat},RWs P w K m H vs ws->ws[i]?=XX y->∃ v,vs[i]?=XX v/\RW P w K m H v y:=by
   intro vs ws i r
   induction r generalizing i with
   | nil=>intro e;simp at e
   | cons r t ih =>
    intro e;cases i with
    | zero=>simp at e;subst e;exact ⟨_,rfl,r⟩| succ i=>simpa using ih (by simpa using e)
  obtain ⟨v,h1,h2⟩:=this r e1;refine ⟨v,?_,h2⟩;unfold L2.start;rw[Rp (by simp;lia),RY,h1];rfl
 ·rw[RM (by simpa using c),Td] at e;split at e<;>cases e
theorem Jg (hT:BT.mT L=XX ⟨ns,ns,.ret bt⟩)
 (hg:∀ ws h r,g ws h=XX r->ws.length=ns.length/\BT.jz (BT.evS F G (.ret bt) (BT.aY ns.length ws) h) (BT.fin h)=XX r)
 (hO:∀ (q:ZZ) (sc:SE) (cl:List (ZZ×Z0)) (f c':Z0) (A:TR) (outer:List Env) (s:Rv) (H:Hp),ns.Nodup->bG k (A.deeper (UQ q sc s.heap.objs.size f (.ref c') cl))->Ok (Au P w K mg base ns q sc cl f c' A outer s H) F G sc ns):rY P w K mg base (k+1) L g:=by
 intro A outer s H f us vs cvs m ws cs h z h' Q E hr e0 rv R rw nc la rc e zr;obtain ⟨bt',ps,fs,pa,be,sc,cl,pm,ctv,c',oc,os,t,q,l0,l1,l2,l3,l4,l5,l6,l7,l8,l9,l10⟩:=la;rw[hT] at l0;cases l0;have lf:=Mc l2;obtain ⟨hwl,e1⟩:=hg _ _ _ e;have C:=l10.cells l5;have FG:=rv.length;have yR:=rw.length;have yS:=l10.len;have CG:cvs.length=cs.length:=by
  clear e e1 hwl l10 yS
  induction rc with
  | nil=>rfl| cons _ _ ih=>simp[ih]
 have hu:us.length=ps.length:=by simp only[RI,RN] at hwl;lia
 refine PySem.W.kla_callFunE hr.depth (e0.hok _ _ l6.1).1 rfl lf.co lf.ge rfl ⟨c',oc,os,t,rfl,(e0.hok _ _ l7.1).1,l8,l9⟩ ?_;rw[D8 l1 hu];refine wpAny_pure (wpAny_newFunctionEnv lf.cell (λy hy=>lf.loc y.1 (US hy).1) (λh1 hns hsb=>?_) lf.kd);have hk1:∀ b o,s.heap.get? b=XX o->h1.get? b=XX o:=λb o e=>hsb.extBut b o (Sk (RB e)) (Ro _ e);refine ⟨e0.mod.nolimit.keeps λb o e=>hk1 b o (e0.bs b o e).1,?_⟩;show codeAny _ _ (.expr be (UQ q sc s.heap.objs.size f (.ref c') cl)) _ _;refine PySem.W.kla_codeExpr ?_;have I:=D9 (q:=q) (f:=f) (c':=c') (tk:=s.toks+(ps.zip us).length) l1 lf l4 l5 l10 hr.hd e0 rv hu hns hk1;have hr1:bG k (A.deeper (UQ q sc s.heap.objs.size f (.ref c') cl)):=hr.deeper _;have O:=hO q sc cl f c' A outer s H lf.nd hr1;simp only[BT.evS] at e1;cases g1:BT.ev F G bt (BT.aY (ps++fs).length (ws++cs.map BT.Cp.w)) h with
 | none=>rw[g1] at e1;cases e1
 | some yg =>
  obtain ⟨y,gh⟩:=yg;rw[g1] at e1;have e2:BT.fin h y gh=XX (z,h'):=e1;have hs:RS P w K m (hid cl H) (vs.map XX++cvs.map XX) (BT.aY (ps++fs).length (ws++cs.map BT.Cp.w)):=by
   have r0:=fq (N:=ps++fs) ((rw.tr C.sq nc).app (RCs.ws (P:=P) (w:=w) (rc.tr C.sq)));have e3:L2.start (ps++fs) (vs++cvs)=vs.map XX++cvs.map XX:=by unfold L2.start;simp only[RI];rw[show ps.length+fs.length - (vs.length+cvs.length)=0 by lia];simp
   rw[e3] at r0;exact r0
  refine wpAny_mono (sE l3 O [] _ _ _ (λv H'=>∃ m',Ext m (hid cl H) m' H'/\RH K m' H' gh/\RW P w K m' H' v y) I ⟨m,_,h,y,gh,C.rh R,hs,g1,λv H' m' x' R' r'=>⟨m',x',R',r'⟩⟩) (λu s' ⟨v,H',I',rv',m',x',R',r'⟩=>?_) (λe s' hx=>Sa hx);have N':∀ x c,cl.lookup x=XX c->H' c=XY:=λx c e=>I'.freeC x c e;have le:Le H' (ret cl H H'):=IG N';obtain ⟨m2,x2,R2,r2⟩:=b9 e2 (C.rh R) x' R' r';have B:Un (frs outer) [] (hid cl H) H' s.heap s'.heap:=I'.base;have nc':∀ b,H b=XY->¬ ∃ y,cl.lookup y=XX b:=λb n ⟨y,qq⟩=>by obtain ⟨o,uu,k1,_⟩:=C y b qq;rw[n] at k1;cases k1
  refine ⟨v,ret cl H H',I'.os,I'.bare,⟨λb o e n hb hx=>B.keep b o e (d9 n) hb hx,λb o e n hb hx=>B.slot b o e (d9 n) hb hx,λb o e n hx=>?_,λb o e hx=>B.there b o e hx,λb xs e=>?_,λb o uu e=>?_,λb qs e=>?_⟩,λb uu e=>?_,rv',zr v _ m2 (C.II N' x2 R2) (R2.le le) (r2.le le)⟩;rw[fS (nc' b n)];exact B.free b o e (d9 n) hx;rw[fS (C.out e rfl)];exact B.tups b xs (C.hid e rfl)
  ·by_cases cc:∃ y,cl.lookup y=XX b
   obtain ⟨y,qq⟩:=cc;rw[qi qq];exact e;rw[fS cc];exact B.frzs b o uu (by rw[dU cc];exact e)
  rw[fS (C.out e rfl)];exact B.tbls b qs (C.hid e rfl)
  ·by_cases cc:∃ y,cl.lookup y=XX b
   ·obtain ⟨y,qq⟩:=cc;rw[qi qq] at e;obtain ⟨o,u2,k1,k2⟩:=C y b qq;rw[k1] at e;cases e;have k3:=B.keep b o (e0.hok _ _ k1).1 (uE qq) (λhb=>by rw[e0.frf b hb] at k1;cases k1) (by simp);exact ⟨k3,_,k3⟩
   ·rw[fS cc] at e;exact (I'.hok b uu e).stay (λ_ _ _ q=>q) (λd q=>le _ _ q) λd xs q=>le _ _ q
def gD (K:Rm) (q:ZZ) (fd:Tz) (fn:BT.Fn):Prop:=∀ y,fn.ns.contains (BT.bI y)=XZ->q=y/\y∈BT.dR ∧
 (∃ c P,Sz K y=XX (c,P)/\fd.code=.ref c/\U7 K c P=XZ/\∀ z∈BT.dR,∀ c2,Sz K z=XX (c2,P)->z=y) ∧
 ∃ bm ob,Sq K RE "__builtins__"=XX (XX (.ref bm))/\bm≠T6/\K.lookup bm=XX ob/\ob.cls=.type "module"/\ob.dict=XX T6/\ob.data=.plain
inductive Mq (K:Rm) (mg:ZZ->Option Z1) (x:ZZ) (fn:BT.Fn):Prop where
 | mk (f:Z0) (fd:Tz) (st:RU) (h1:mg x=XX (.ref f)) (h2:Fun K x x st f fd) (h3:aO fn.ns fn.ps (aa st)) (h4:Binds K fd fn.ps []) (h5:CSs (aa st) fn.ns fn.body (aq st)) (h6:gD K x fd fn):Mq K mg x fn
structure Def (K:Rm) (mg:ZZ->Option Z1) (x:ZZ) (fn:BT.Fn):Prop where
 ex:Mq K mg x fn
inductive GD (K:Rm) (mg:ZZ->Option Z1) (c m:ZZ) (fn:BT.Fn):Prop where
 | mk (C f:Z0) (fd:Tz) (x qual:ZZ) (st:RU) (h1:jX K c C) (h2:mg c=XX (.ref C)) (h3:rA K C m f) (h4:(m="__init__"->Mk K C f)) (h5:Fun K x qual st f fd) (h6:aO fn.ns fn.ps (aa st)) (h7:Binds K fd fn.ps []) (h8:CSs (aa st) fn.ns fn.body (aq st)) (h9:gD K qual fd fn):GD K mg c m fn
structure AY (K:Rm) (mg:ZZ->Option Z1) (c m:ZZ) (fn:BT.Fn):Prop where
 ex:GD K mg c m fn
structure Txt (P:Se) (w:SB) (K:Rm) (mg:ZZ->Option Z1) (T:BT.FK->Option BT.Fn) (G:ZZ->Option BT.W):Prop where
 defs:∀ x fn,T (.f x)=XX fn->Def K mg x fn
 meths:∀ c m fn,T (.m c m)=XX fn->AY K mg c m fn
 lams:∀ L fn,T (.l L)=XX fn->BT.mT L=XX fn/\∃ ns bt,fn=⟨ns,ns,.ret bt⟩/\∀ y,ns.contains (BT.bI y)=X0
 glob:∀ x z,G x=XX z->∃ u v,mg x=XX u/\RelV v u/\∀ m H,RW P w K m H v z
 blt:∀ x∈DU,mg x=XY
theorem vY (e:BT.runN T G k x ws h=XX r):∃ fn,T x=XX fn:=by
 cases k with
 | zero=>cases e
 | succ k =>
  rw[BT.runN] at e;cases q:T x with
  | none=>rw[q] at e;cases e| some fn=>exact ⟨fn,rfl⟩
theorem vZ (F:Fun K x qual st f fd) (S:aO N ps (aa st)) (len:∀ vs H Q E,sp vs H Q E->vs.length=ps.length)
 (hbody:∀ (cdv:Z1) (A:TR) (outer:List Env) (s:Rv) (H:Hp) (vs:List V) (Q:VK) (E:XK),fd.code=cdv->bG k (A.deeper (Us qual (aa st) s.heap.objs.size f cdv))->Mod K mg base->sp vs H Q E →
  ∃ t,PSs (aI CX0 P w K mg base N qual (aa st) f cdv A outer s H E).nox (aq st) t/\t { nx:=λ_ H'=>Q .non H',rt:=Q } (L2.start N vs) H):cK P w K mg base CX0 (k+1) f fd ps sp:=by
 obtain ⟨oc,od,kV,doc,pm,an,cdv,ct,osl,rfl,lk,hcd⟩:=F.ex;refine ⟨len,λA outer s H args us vs Q E hr e0 hb r hs=>?_⟩;have F1:cK P w K mg base CX0 (k+1) f (SL x qual (cE st) (aq st) (aa st) .none kV doc pm an cdv ct) ps sp:=zo lk hcd S len λA outer s H vs Q E hr hsp=>by obtain ⟨t,h,q⟩:=hbody cdv A outer s H vs Q E rfl hr e0.mod hsp;exact ⟨t,h.nox,q⟩
 exact F1.run A outer s H args us vs Q E hr e0 hb r hs
theorem sy (X:Txt P w K mg T G)
 (ih:∀ (x:BT.FK) (fn:BT.Fn),T x=XX fn->∀ (f:Z0) (fd:Tz) (nm qual:ZZ) (st:RU),Fun K nm qual st f fd->aO fn.ns fn.ps (aa st)->CSs (aa st) fn.ns fn.body (aq st)->gD K qual fd fn->cK P w K mg base CX0 (2*k) f fd fn.ps (spF P w K (BT.runN T G k x)))
 (il:∀ L,(∃ fn,T (.l L)=XX fn)->rY P w K mg base (2*k) L (BT.runN T G k (.l L)))
 (e1:Y.prog=P) (e2:Y.w=w) (e3:Y.K=K) (e4:Y.mg=mg) (e5:Y.base=base) (hsc:Y.env.scope=sc) (hN:Y.N=N) (nd:Y.N.Nodup) (ca:Y.calm=XZ) (hr:bG (2*k+1) Y.A) (own:WW (RV Y.prog Y.w) Y.A Y.env Y.xe)
 (lx:(∀ x,Y.fn x=XZ)->∀ x,N.contains (BT.bI x)=XZ->LX Y x):Ok Y (BT.runN T G k) G sc N:=by
 subst e1 e2 e3 e4 e5;refine ⟨hsc,hN,nd,λ_=>ca,?_,own,X.glob,λg ws h r e=>?_,λc g ws h r e=>?_,λc ws h r e=>?_,X.blt,λL ws h r e=>⟨2*k,hr.mono (S6 _),il L (vY e)⟩,lx⟩
 ·have:=hr.un;lia
 ·obtain ⟨fn',hTg⟩:=vY e;obtain ⟨f',fd',st',a1,a2,a3,a4,a5,a6⟩:=(X.defs g fn' hTg).ex;exact ⟨f',fd',fn'.ps,2*k,a1,a2.kp,a4,hr.mono (S6 _),ih _ fn' hTg f' fd' g g st' a2 a3 a5 a6⟩
 ·obtain ⟨fn',hTg⟩:=vY e;obtain ⟨C,f',fd',x',q',st',b1,b2,b3,b4,a2,a3,a4,a5,a6⟩:=(X.meths c g fn' hTg).ex;exact ⟨C,f',fd',fn'.ps,2*k,b1,b3,a4,hr.mono (S6 _),ih _ fn' hTg f' fd' x' q' st' a2 a3 a5 a6⟩
 ·obtain ⟨fn',hTg⟩:=vY e;obtain ⟨C,f',fd',x',q',st',b1,b2,b3,b4,a2,a3,a4,a5,a6⟩:=(X.meths c _ fn' hTg).ex;exact ⟨C,f',fd',fn'.ps,2*k,b1,b2,b4 rfl,a4,hr,ih _ fn' hTg f' fd' x' q' st' a2 a3 a5 a6⟩
theorem jh (X:Txt P w K mg T G) :
 ∀ (k:Nat),(∀ (x:BT.FK) (fn:BT.Fn),T x=XX fn->∀ (f:Z0) (fd:Tz) (nm qual:ZZ) (st:RU),Fun K nm qual st f fd->aO fn.ns fn.ps (aa st)->CSs (aa st) fn.ns fn.body (aq st)->gD K qual fd fn->cK P w K mg base CX0 (2*k) f fd fn.ps (spF P w K (BT.runN T G k x))) ∧
  ∀ L,(∃ fn,T (.l L)=XX fn)->rY P w K mg base (2*k) L (BT.runN T G k (.l L)):=by
 intro k
 induction k with
 | zero =>
  refine ⟨λx fn hT f fd nm qual st h2 h3 h5 h6=>?_,λL hL=>?_⟩
  ·have no:∀ vs H Q E,¬ spF P w K (BT.runN T G 0 x) vs H Q E:=λvs H Q E h=>by obtain ⟨m,ws,h,z,h',_,_,e,_⟩:=h;cases e
   exact ⟨λvs H Q E h=>absurd h (no vs H Q E),λA outer s H args us vs Q E _ _ _ _ h=>absurd h (no vs H Q E)⟩
  ·intro A outer s H f us vs cvs m ws cs h z h' Q E hr e0 rv R rw nc la rc e zr;cases e
 | succ k ihk =>
  obtain ⟨ih,il⟩:=ihk;refine ⟨λx fn hT f fd nm qual st h2 h3 h5 h6=>?_,λL hL=>?_⟩
  ·show cK P w K mg base CX0 (2*k+1+1) f fd fn.ps (spF P w K (BT.runN T G (k+1) x));refine vZ h2 h3 (λvs H Q E h=>?_) λcdv A outer s H vs Q E hcd hr hM h=>?_
   ·obtain ⟨m,ws,h,z,h',R,r,e,zr⟩:=h;rw[BT.runN,hT] at e;simp only at e;split at e;rename_i c;rw[r.length];exact c;cases e
   ·obtain ⟨m,ws,h,z,h',R,r,e,zr⟩:=h;rw[BT.runN,hT] at e;simp only at e;split at e
    ·have O:Ok (aI CX0 P w K mg base fn.ns qual (aa st) f cdv A outer s H E).nox (BT.runN T G k) G (aa st) fn.ns:=by refine sy X ih il rfl rfl rfl rfl rfl rfl rfl h3.nd rfl hr UF λ_ y hy=>?_;obtain ⟨t1,t2,⟨c,Pt,t3,t4,t5,t6⟩,bm,ob,t7,t8,t9,t10,t11,t12⟩:=h6 y hy;exact ⟨t2,⟨c,Pt,t3,hcd.symm.trans t4,UM hM.kin t5,t6⟩,by show qual++".<locals>."=_;rw[t1],bm,ob,Su hM.kin hM.glob t7,t8,hM.kin _ _ t9,t10,t11,t12⟩
     refine ⟨_,sSs O (λ_=>rfl) h5,?_⟩;cases gg:BT.evS (BT.runN T G k) G fn.body (BT.aY fn.ns.length ws) h with
     | none=>rw[gg] at e;cases e
     | some fl =>
      rw[gg] at e;refine ⟨m,_,h,fl,R,fq r,gg,?_⟩;cases fl with
      | rt y g =>
       intro v H' m' x' R' r';obtain ⟨m2,y1,y2,y3⟩:=b9 e R x' R' r';exact zr v H' m2 y1 y2 y3
      | nx s' g =>
       intro σ' H' m' x' R' _;obtain ⟨m2,y1,y2,y3⟩:=b9 (v:=.non) e R x' R' (.p .non);exact zr .non H' m2 y1 y2 y3
      | _=>cases e
    cases e
  ·obtain ⟨fn,hT⟩:=hL;obtain ⟨hl,ns,bt,rfl,nt⟩:=X.lams L fn hT;show rY P w K mg base (2*k+1+1) L (BT.runN T G (k+1) (.l L));refine Jg (F:=BT.runN T G k) (G:=G) hl (λws h r e=>?_) λq sc cl f c' A outer s H nd hr=>sy X ih il rfl rfl rfl rfl rfl rfl rfl nd rfl hr UF λ_ y hy=>absurd hy (by rw[nt y];decide);rw[BT.runN,hT] at e;simp only at e;split at e;rename_i c;exact ⟨c,e⟩;cases e
end BS
end
section
end
section
namespace BS
open PySem PySem.Spec PyProof.Rows L2
variable {B:Heap}
inductive CX1 (P:Se) (w:SB) (outer:List Env) (H:Hp) (s:Rv) (E:XK) (e:Z1) (s':Rv):Prop where
 | mk (x C:Z0) (H':Hp) (B G:Heap) (a0:Z1) (he:e=.ref x) (os:s'.os=s.os) (bare:Wc s'.gens) (un:Un (frs outer) [] H H' s.heap s'.heap) (hk:HOk P w H' s'.heap) (fl:Heap.FlyingW B outer x (.ref C) a0 s'.heap)
  (cov:∀ b o,s.heap.get? b=XX o->b∉frs outer->∃ o',B.get? b=XX o'/\(H b=XY->o'=o)) (hg:HOk P w H' G) (cv:∀ b o,H' b≠XY->G.get? b=XX o->B.get? b=XX o) (q:E (.ref C) XY H'):CX1 P w outer H s E e s'
theorem uJ {P:Se}{w:SB}{H:Hp}{G h:Heap} (x:HOk P w H G) (k:∀ b o,H b≠XY->G.get? b=XX o->B.get? b=XX o) (st:B.StaysIn h):HOk P w H h:=λb u e =>
 (x b u e).stay (λc v hc q=>st c v (k c v (by rcases hc with rfl|hc<;>simp[*]) q)) (λ_ q=>q) λ_ _ q=>q
section
variable {K:Rm}{E:XK}
theorem uK {zt:List (Z0×Obj)}{σ:L2.St}{H1:Hp}{s1:Rv}{h':Heap} (I:Inv (aI CX P w K mg base N qual scope f cd A outer s H E) zt σ H1 s1)
 (cov:∀ b o,s.heap.get? b=XX o->b∉frs outer->∃ o',B.get? b=XX o'/\(H b=XY->o'=o)) (st:B.StaysIn h') (up:s1.heap.UpToSlots h'):Un (frs outer) [] H H1 s.heap h':=by
 have fr:∀ b o,s.heap.get? b=XX o->H b=XY->b∈frs outer->∃ sl,h'.get? b=XX { o with slots:=sl }:=λb o e n hb=>by obtain ⟨sl,q⟩:=I.base.slot b o e n hb (by simp[aI]);obtain ⟨_,o2,ho,hd⟩:=I.ok.gc.mem hb;have ho:s.heap.get? b=XX o2:=ho;rw[e] at ho;cases ho;obtain ⟨sl2,q2⟩:=up b _ q hd;exact ⟨sl2,q2⟩
 refine ⟨λb o e n hb _=>?_,λb o e n hb _=>fr b o e n hb,λb o e n _=>I.base.free b o e n (by simp[aI]),λb o e _=>?_,I.base.tups,I.base.frzs,I.base.tbls⟩
 ·obtain ⟨o',q,r⟩:=cov b o e hb;rw[r n] at q;exact st b o q
 ·by_cases hb:b∈frs outer
  ·obtain ⟨sl,q⟩:=fr b o e (I.ok.frf b hb) hb;exact ⟨_,q⟩
  ·obtain ⟨o',q,_⟩:=cov b o e hb;exact ⟨o',st b o' q⟩
theorem fT (I:Inv (aI CX P w K mg base N qual scope f cd A outer s H E) zt σ H1 s1) (e:s.heap.get? b=XX o) (hb:b∉frs outer) :
 b∉frs (aI CX P w K mg base N qual scope f cd A outer s H E).stack:=λz=>by
 rcases List.mem_cons.mp (I.iF b z) with q|q
 ·have:s.heap.objs.size<=b:=by rw[q];exact I.ok.above
  exact absurd (RB e) (Nat.not_lt.mpr this)
 exact hb q
end
section
variable {K:Rm}{E:XK}
theorem EC (I:Inv (aI (CX1 P w) P w K mg base N qual scope f cd A outer s H E) zt σ H1 s1)
 (hx:VB s1.heap h2 x (.ref C) args) (hE:E (.ref C) XY H1):(aI (CX1 P w) P w K mg base N qual scope f cd A outer s H E).xe (.ref x) { s1 with heap:=h2 }:=by
 show ZY (RV P w) (A.deeper (Us qual scope s.heap.objs.size f cd)) (leaving (Us qual scope s.heap.objs.size f cd) (.ref x)) _ _ _;have hin:∀ env∈(Us qual scope s.heap.objs.size f cd::outer),∀ b,env.frame=XX b->b∈frs (Us qual scope s.heap.objs.size f cd::outer):=λenv he b hb=>List.mem_filterMap.mpr ⟨env,he,hb⟩;refine wpAny_leaves_madeW (s:={ s1 with heap:=h2 }) (base:=Vh s1.heap (frs (Us qual scope s.heap.objs.size f cd::outer))) (h:=s1.heap) I.ok.frames rfl (λb o q=>W6 _ q) (PySem.W.funFrames_hide I.stack hin) hx λh' t x1 x2 x3 x4=>?_;have cov:∀ b o,s.heap.get? b=XX o->b∉frs outer->∃ o',(Vh s1.heap (frs (Us qual scope s.heap.objs.size f cd::outer))).get? b=XX o'/\(H b=XY->o'=o):=λb o e hb=>by obtain ⟨o',q⟩:=I.base.there b o e (by simp[aI]);refine ⟨o',Vu _ q (fT I e hb),λn=>?_⟩;have:=I.base.keep b o e n hb (by simp[aI]);rw[q] at this;exact Ry this
 have cv2:∀ b o,H1 b≠XY->s1.heap.get? b=XX o->(Vh s1.heap (frs (Us qual scope s.heap.objs.size f cd::outer))).get? b=XX o:=λb o n e=>Vu _ e λz=>n (I.lT b z);exact ⟨x,C,H1,_,s1.heap,.ref t,rfl,I.os,I.bare,uK I cov x1.1 ((Heap.UpToSlots.of_keeps hx.keeps).trans x4),uJ I.hok cv2 x1.1,x1,cov,I.hok,cv2,hE⟩
theorem Mr (hE:∀ C H',E1 (.ref C) XY H'->E (.ref C) XY H'):eN (CX1 P w) (aI (CX1 P w) P w K mg base N qual scope f cd A outer s H E) E1:=by
 intro zt σ H1 s1 e s' I h;obtain ⟨x,C,H',B,G,a0,rfl,e1,e2,un,ho,fl,cov,hg,cv2,hE1⟩:=h;show ZY (RV P w) (A.deeper (Us qual scope s.heap.objs.size f cd)) (leaving (Us qual scope s.heap.objs.size f cd) (.ref x)) _ _ _;have J:Inv (aI (CX1 P w) P w K mg base N qual scope f cd A outer s H E) zt σ H' s':=I.yV (ch:=[]) e1 un ho e2 (λb z=>absurd z (by simp));refine wpAny_leaves_onW (Q:=λ_ s''=>CX1 P w outer H s E (.ref x) s'') I.ok.frames rfl fl λh' x1 x2=>?_;have cov':∀ b o,s.heap.get? b=XX o->b∉frs outer->∃ o',B.get? b=XX o'/\(H b=XY->o'=o):=λb o e hb=>by obtain ⟨o1,q⟩:=I.base.there b o e (by simp[aI]);obtain ⟨o2,q2,r2⟩:=cov b o1 q (fT I e hb);refine ⟨o2,q2,λn=>?_⟩;have k:=I.base.keep b o e n hb (by simp[aI]);rw[q] at k;rw[r2 (I.base.free b o e n (by simp[aI]))];exact Ry k
 exact ⟨x,C,H',B,G,a0,rfl,J.os,J.bare,uK J cov' x1.1 x2,uJ hg cv2 x1.1,x1,cov',hg,cv2,hE C H' hE1⟩
end
theorem o6 {i:Int} (h:i.natAbs < 2 ^ 64):i.natAbs.log2 < 1920:=by
 by_cases z:i.natAbs=0
 rw[z];decide
 ·have:=(Nat.log2_lt z).mpr h;lia
structure nv (K:Rm) (C:Z0):Prop where
 ok:Wu K C [.type "ValueError",.type "Exception",.type "BaseException",.type "object"] "ValueError.__new__"=XZ
inductive Ms (K:Rm) (C:Z0) (h:Heap):Prop where
 | mk (bm:List Z1) (N:Z0) (nm qn:ZZ) (bs:List Z1) (hdct:Bool) (sn:List ZZ) (sub:List Z1) (ab:Bool) (col:Option Bool) (dd:Option Z0) (k0 k1 k2 k3 k5:Option Z1) (mN:ZZ->Option Z1) (hC:h.get? C=XX (V7 nm qn C N bs bm hdct sn sub ab col dd k0 k1 k2 k3 k5 "ValueError.__new__"))
  (hN:h.Ns N mN) (hni:mN "__init__"=XY) (T:OwnTail h [.type "ValueError",.type "Exception",.type "BaseException",.type "object"] bm) (lC:K.lookup C=XX (V7 nm qn C N bs bm hdct sn sub ab col dd k0 k1 k2 k3 k5 "ValueError.__new__")):Ms K C h
theorem nv.obj {K:Rm} (X:K.In h) (q:nv K C):Ms K C h:=by
 have q:=q.ok;unfold Wu at q;split at q
 ·rename_i dd cd sl ho;split at q
  ·rename_i C' bm k0 k1 k2 k3 n k5 hm hs;simp only[Rn,beq_iff_eq,T9] at q;obtain ⟨⟨⟨⟨⟨rfl,rfl⟩,hdel⟩,ht⟩,hok⟩,hni⟩:=q;obtain ⟨nm,bs,mro,ns,qn,hd,sn,sub,ab,col,del⟩:=cd;dsimp only at hm hdel hok hni;subst hm hdel;have hsl:sl=#[k0,k1,k2,k3,XX (.builtin "ValueError.__new__"),k5]:=by obtain ⟨l⟩:=sl;simp only at hs;rw[hs]
   subst hsl;exact ⟨bm,ns,nm,qn,bs,hd,sn,sub,ab,col,dd,k0,k1,k2,k3,k5,_,X _ _ ho,.of_isNs (PySem.W.isNs_of_in X hok),PySem.W.nsMap_none_of_in X hok hni,PySem.W.tail_of_in X ht,ho⟩
  cases q
 cases q
inductive yt:V->Prop where
 | int {i:Int} (h:i.natAbs < 2 ^ 64):yt (.int i)
 | str {x:ZZ} (h:(reprText x).length<=1921):yt (.str x)
 | non:yt .non
 | bl {b:Bool}:yt (.bl b)
theorem Jh (h:yt v) (r:RelV v u):∃ x:ZZ,x.length<=1921/\∀ {A:TR}{E:Z1->Rv->Prop}{s:Rv}{Q:Z1->Rv->Prop},Q (.str x s.toks) { s with toks:=s.toks+1 }->ZY (RV P w) A (pyReprObj u) Q E s:=by
 have lz:(1921:Nat)<=ZX:=by decide
 cases h with
 | @int i hi =>
  obtain ⟨tk,rfl⟩:=r;have li:(RG (toString i)).length<=1921:=by rw[PySem.ofString_length];exact int_text_length_le (by decide) (o6 hi)
  exact ⟨_,li,λq=>VH (T:="int") rfl PySem.F.slot_int_repr PySem.F.entry_int_repr (PySem.F.args_int_repr_1 _) (gives_int_repr i tk (o6 hi)) q rfl (Sj li lz)⟩
 | @str x hx =>
  obtain ⟨tk,rfl⟩:=r;exact ⟨_,hx,λq=>wpAny_pyReprObj_str q (Sj hx lz)⟩
 | non =>
  obtain rfl:=r;exact ⟨_,by decide,λq=>VH (T:="NoneType") rfl PySem.F.slot_NoneType_repr PySem.F.entry_NoneType_repr (PySem.F.args_NoneType_repr_1 _) gives_none_repr q rfl (by decide)⟩
 | @bl b =>
  obtain rfl:=r;exact ⟨_,by cases b<;>decide,λq=>VH (T:="bool") rfl PySem.F.slot_bool_repr PySem.F.entry_bool_repr (PySem.F.args_bool_repr_1 _) (gives_bool_repr b) q rfl (by cases b<;>decide)⟩
theorem AZ (hg:Gl X x) (hn:aB x=XZ) (hm:X.mg x=XX (.ref C)) (hq:nv X.K C) (hc:X.calm=XZ) (hl:c.length<=1000) (he:PE X e t)
 (I:Inv X zt σ H s)
 (h:t σ H λv H1=>yt v/\∀ s1 h2 a args,Inv X zt σ H1 s1->VB s1.heap h2 a (.ref C) args->X.xe (.ref a) { s1 with heap:=h2 }) :
 ZY (RV X.prog X.w) X.A (exec (.Raise (XX (.Call (.Name x np) [.JoinedStr [.Constant (.str c) j p1,.FormattedValue e 114 XY p2] p3] [] cpos)) XY pos) X.env) Q X.xe s:=by
 obtain ⟨bm,N,nm,qn,bs,hdct,sn,sub,ab,col,dd,k0,k1,k2,k3,k5,mN,hC,hN,hni,T,_⟩:=hq.obj I.mod.kin;have hdb:(x==("__debug__":ZZ))=X0:=by unfold aB at hn;simp only[Rn] at hn;simpa using hn.1.1
 refine wpAny_Raise_call_subT (C:=C) (nm:=nm) (q:=qn) (N:=N) (bs:=bs) (bm:=bm) (hdct:=hdct) (sn:=sn) (sub:=sub) (ab:=ab) (col:=col) (dd:=dd) (k0:=k0) (k1:=k1) (k2:=k2) (k3:=k3) (k5:=k5)
  PySem.F.excBase_ValueError (mN:=mN) (T.hasType PySem.F.excBase_ValueError.hasBase) (I.ok.hd hc) rfl hni (fJ I hg hm ⟨rfl,?_⟩ hdb)
 refine Xc (Sx (wpAny_JoinedStr (pos:=p3) ?_));show ZY _ _ (eval (.Constant (.str c) j p1) X.env) _ _ s;have lz:(1000:Nat)+1921<=ZX:=by decide
 have l0:(VW++c).length<=1000:=by rw[strLen_append];show 0+c.length<=1000;lia
 refine Xu ⟨_,_,rfl,Sj l0 (by lia),?_⟩;show ZY _ _ (eval (.FormattedValue e 114 XY p2) X.env) _ _ _;refine wpAny_FormattedValue_repr (thn (he zt _ σ H _ (I.tok _) h) λu s1 zq=>?_);obtain ⟨v,H1,I1,r1,hv,zr⟩:=zq;obtain ⟨tx,li,wr⟩:=Jh (P:=X.prog) (w:=X.w) hv r1;refine wr ?_;have l1:((VW++c)++tx).length<=ZX:=by rw[strLen_append];lia
 have fin:∀ (tt:Tok) (s2:Rv),Inv X zt σ H1 s2->∃ y t,(U5 (tx) tt)=.str y t/\(VW++c++y).length<=ZX/\Joins (RV X.prog X.w) X.A X.xe [] (VW++c++y) (λout s₁=>out.length<=ZX/\ZY (RV X.prog X.w) X.A (U1 (TH cpos (RX [] X.env))) (λvs s₂=>(⟨U5 out s₁.toks::vs,[]⟩:Args).kw=[]/\(⟨U5 out s₁.toks::vs,[]⟩:Args).pos.length<=ZX/\s₂.heap.get? C=XX (V7 nm qn C N bs bm hdct sn sub ab col dd k0 k1 k2 k3 k5 "ValueError.__new__")/\s₂.heap.Ns N mN/\OwnTail s₂.heap [.type "ValueError",.type "Exception",.type "BaseException",.type "object"] bm ∧
  ∀ h' e,VB s₂.heap h' e (.ref C) (⟨U5 out s₁.toks::vs,[]⟩:Args).pos->X.xe (.ref e) { s₂ with heap:=h' }) X.xe { s₁ with toks:=s₁.toks+1 }) s2:=λtt s2 J=>by
  refine ⟨_,tt,rfl,l1,l1,Te ?_⟩;exact ⟨rfl,by show 1<=ZX;decide,J.bk _ _ hC,hN.keeps J.bk,T.keeps J.bk,λh' a hx=>zr _ h' a _ (J.tok _) hx⟩
 refine wpAny_formatField_str (fin _ _ (I1.tok _)) (fin _ _ ((I1.tok _).tok _)) (Sj li (by lia))
section
variable {K:Rm}{E:XK}
theorem v7 {h h':Heap}{c:Z0}{v:Option Z1} (x:h.IsCell c v) (u:h.UpToSlots h'):h'.IsCell c v:=by
 obtain ⟨o,ho,hd⟩:=x;obtain ⟨sl,q⟩:=u c o ho λvs z=>by rw[hd] at z;cases z
 exact ⟨_,q,hd⟩
theorem v8 {zt:List (Z0×Obj)}{σ:L2.St}{H1 H2:Hp}{s1 s2:Rv}{G h':Heap} (I:Inv (aI CX P w K mg base N qual scope f cd A outer s H E) zt σ H1 s1) (J:Inv (aI CX P w K mg base N qual scope f cd A outer s H E) zt σ H2 s2)
 (cov:∀ b o,s1.heap.get? b=XX o->b∉frs (aI CX P w K mg base N qual scope f cd A outer s H E).stack->∃ o',B.get? b=XX o'/\(H1 b=XY->o'=o)) (hg:HOk P w H2 G) (cv2:∀ b o,H2 b≠XY->G.get? b=XX o->B.get? b=XX o)
 (st:B.StaysIn h') (up:s2.heap.UpToSlots h'):Inv (aI CX P w K mg base N qual scope f cd A outer s H E) zt σ H2 { s2 with heap:=h' }:=by
 have cov':∀ b o,s.heap.get? b=XX o->b∉frs outer->∃ o',B.get? b=XX o'/\(H b=XY->o'=o):=λb o e hb=>by obtain ⟨o1,q⟩:=I.base.there b o e (by simp[aI]);obtain ⟨o2,q2,r2⟩:=cov b o1 q (fT I e hb);refine ⟨o2,q2,λn=>?_⟩;have k:=I.base.keep b o e n hb (by simp[aI]);rw[q] at k;rw[r2 (I.base.free b o e n (by simp[aI]))];exact Ry k
 refine ⟨J.ok,J.os,J.bare,uK J cov' st up,?_,λx c e=>?_,J.free,J.freeC,λp hp=>?_,uJ hg cv2 st,J.len⟩
 ·obtain ⟨m,hn,hl⟩:=J.loc;refine ⟨m,up.ns hn,λi x v h1 h2 h3=>?_⟩;obtain ⟨u,r,q⟩:=hl i x v h1 h2 h3;refine ⟨u,r,?_⟩;rcases q with q|⟨k,c,e,z⟩
  exact .inl q;exact .inr ⟨k,c,e,v7 z up⟩
 ·obtain ⟨v,z⟩:=J.cell x c e;exact ⟨v,v7 z up⟩
 ·obtain ⟨e,n,ne,nf,d⟩:=J.pin p hp;obtain ⟨e1,n1,ne1,nf1,d1⟩:=I.pin p hp;have ns:p.1∉frs (aI CX P w K mg base N qual scope f cd A outer s H E).stack:=λz=>by
   rcases List.mem_cons.mp (I.iF p.1 z) with q|q
   exact ne1 q;exact nf1 q
  obtain ⟨o',q,r⟩:=cov p.1 p.2 e1 ns;rw[r n1] at q;exact ⟨st _ _ q,n,ne,nf,d⟩
end
section
variable {E:Z1->Rv->Prop}
variable {D:Z0}{hdct hdct2:Bool}{ab ab2:Bool}{dd:Option Z0}{k2:Option Z1}
theorem ny {os:OsState}
 (hC:h.get? C=XX (V7 nm q C N bs bm hdct sn sub ab col dd k0 k1 k2 k3 k5 newId)) (hD:h.get? D=XX (V7 nm2 q2 D N2 bs2 bm2 hdct2 sn2 sub2 ab2 col2 dd2 j0 j1 j2 j3 j5 newId2)) (he:h.get? e=XX oe) (hcls:oe.cls=.ref C) (hbase:bm2.contains (.type "BaseException")=XZ)
 (hcD:(Sg C::bm).contains (.ref D)=XZ) (hq:Q XZ ⟨h,g,d,t,os⟩):ZY M A (excMatches (.ref e) (.ref D)) Q E ⟨h,g,d,t,os⟩:=by
 have hcB:(Sg D::bm2).contains (.type "BaseException")=XZ:=by rw[XU,hbase,Xd]
 have f:=tc_notTuple;unfold excMatches
 repeat (first|(with_reducible refine wpAny_loadPart_at he ?_;rw[hcls])|with_reducible refine wpAny_loadPart_at hD ?_|(with_reducible refine wpAny_isSubtype_exc hD ?_;rw[hcB])|(with_reducible refine wpAny_isSubtype_exc hC ?_;rw[hcD])|wp_step)
 exact hq
end
theorem A5 (I:Inv X zt σ H s) (hn:h'.Ns X.env.locals m') (sb:Up X.env.locals s.heap h') :
 Inv X zt (RO X.N.length XY) H { s with heap:=h',toks:=tk }:=by
 have ne:∀ b o,X.s₀.heap.get? b=XX o->b≠X.env.locals:=λb o e z=>by have:=I.ok.above;rw[← z] at this;exact absurd (RB e) (Nat.not_lt.mpr this)
 have nf:∀ b u,H b=XX u->b≠X.env.locals:=λb u e z=>by rw[z,I.free] at e;cases e
 refine ⟨I.ok,I.os,I.bare,⟨λb o e n hb hx=>(sb.2 b (ne b o e)).trans (I.base.keep b o e n hb hx),λb o e n hb hx=>?_,I.base.free,λb o e hx=>?_,I.base.tups,I.base.frzs,I.base.tbls⟩,⟨m',hn,λi x v h1 h2 h3=>?_⟩,λx c e=>?_,I.free,I.freeC,λp hp=>?_,λb u e=>?_,by simp⟩
 ·obtain ⟨sl,q⟩:=I.base.slot b o e n hb hx;exact ⟨sl,(sb.2 b (ne b o e)).trans q⟩
 ·obtain ⟨o',q⟩:=I.base.there b o e hx;exact ⟨o',(sb.2 b (ne b o e)).trans q⟩
 ·rw[Td] at h2;split at h2<;>cases h2
 ·obtain ⟨v,o,ho,hd⟩:=I.cell x c e;exact ⟨v,o,(sb.2 c (I.cne x c e)).trans ho,hd⟩
 ·obtain ⟨e,n,n1,n2,d⟩:=I.pin p hp;exact ⟨(sb.2 p.1 n1).trans e,n,n1,n2,d⟩
 ·exact (I.hok b u e).stay (λc v hc q=>(sb.2 c (by rcases hc with rfl|hc;exact nf _ _ e;exact nf _ _ hc)).trans q) (λ_ q=>q) λ_ _ q=>q
noncomputable def uL (K:Rm) (C D:Z0):Bool:=match K.lookup C with
 | some ⟨_,_,.cls cd,_⟩=>cd.mro.contains (.ref D)| _=>X0
theorem obj_some (x:cy P w H h a o):∃ q,h.get? a=XX q:=by
 cases o with
 | lst xs=>obtain ⟨_,_,_,_,e⟩:=x;exact ⟨_,e⟩| tup xs=>obtain ⟨_,_,_,ob,e,_⟩:=x;exact ⟨_,e⟩| set S n=>obtain ⟨o,_,_,_,e,_⟩:=x;exact ⟨_,e⟩| ins C dx fs=>obtain ⟨_,_,_,e,_⟩:=x;exact ⟨_,e⟩| own y=>exact x| xd fs=>obtain ⟨_,⟨_,_,_,e,_⟩,_⟩:=x;exact ⟨_,e⟩| rng lo hi=>obtain ⟨_,_,_,e⟩:=x;exact ⟨_,e⟩| frz ob u=>obtain ⟨e,_⟩:=x;exact ⟨_,e⟩| tbl ps=>exact ⟨_,show h.get? a=XX _ from x⟩| met f y=>exact ⟨_,show h.get? a=XX _ from x⟩| ext φ=>exact x.2.1| _=>obtain ⟨_,_,_,_,o,_,_,e,_⟩:=x;exact ⟨_,e⟩
section
variable {K:Rm}{E:XK}
end
end BS
end
section
namespace BT
open PySem
noncomputable abbrev XF:=FK->List W->HH->Option (ZZ×HH)
noncomputable def rsM (R:XF) (m:ZZ) (ea:HH->Option (List W×HH)) (x:W) (h:HH):Option (ZZ×HH):=match x with
 | .o n=>(match oat h n with
  | some (c,fs)=>(match bq m fs with
   | none=>bnd (ea h) λws h2=>R (.m c m) (.o n::ws) h2
   | some _=>XY)
  | none=>XY)
 | _=>XY
noncomputable def ED (R:XF) (m:ZZ) (ea:HH->Option (List W×HH)) (L:Nat) (ocs:Option (List Cp)) (x:W) (h:HH):Option (ZZ×HH):=match x with
 | .o n=>(match oat h n with
  | some (c,fs)=>(match bq m fs with
   | none=>bnd (ea h) λws h2=>(match ocs with
    | some cs=>R (.m c m) (.o n::(ws++[.c (.l L) cs])) h2
    | none=>XY)
   | some _=>XY)
  | none=>XY)
 | _=>XY
noncomputable def rsI (x:Option (W×HH)) (a b:HH->Option (ZZ×HH)):Option (ZZ×HH):=match x with
 | some (.p (.bl XZ),h)=>a h| some (.p (.bl X0),h)=>b h| _=>XY
noncomputable def rsC (x:Option (List W×HH)) (k:List W->HH->Option (ZZ×HH)) (d:Option (ZZ×HH)):Option (ZZ×HH):=match x with
 | some (ws,g)=>k ws g| none=>d
noncomputable def rsA (x:Option (W×HH)) (k:HH->Option (ZZ×HH)) (d:Option (ZZ×HH)):Option (ZZ×HH):=match x with
 | some (_,g)=>k g| none=>d
noncomputable def o7:D->Bool
 | .int i=>big i| .str x=>decide ((reprText x).length<=1921)| .non=>XZ| .bl _=>XZ| _=>X0
@[simp] theorem Ob (i:Int):o7 (.int i)=big i:=rfl
@[simp] theorem Od:o7 .non=XZ:=rfl
@[simp] theorem Oe (b:Bool):o7 (.bl b)=XZ:=rfl
@[simp] theorem Of (x:ZZ):o7 (.str x)=decide ((reprText x).length<=1921):=rfl
section
variable (F:FK->List W->HH->Option (W×HH)) (R:XF) (D:ZZ->Bool) (G:ZZ->Option W)
mutual
noncomputable def rsE:E->Sl->HH->Option (ZZ×HH)
 | .meth o m as,s,h=>bnd (ev F G o s h) (rsM R m (evs F G as s))| .methL o m as L fv,s,h=>bnd (ev F G o s h) (ED R m (evs F G as s) L (caps s fv))| .bi _ _ as,s,h=>nA as s h| .call f as,s,h=>rsC (evs F G as s h) (R (.f f)) (if D f then nA as s h else XY)| .idx a _,s,h=>rsE a s h| .bin _ a _,s,h=>rsE a s h| .cmp _ a _,s,h=>rsE a s h| .ite c a b,s,h=>rsI (ev F G c s h) (rsE a s) (rsE b s)| _,_,_=>XY
noncomputable def nA:Es->Sl->HH->Option (ZZ×HH)
 | .cons a r,s,h=>rsA (ev F G a s h) (nA r s) (rsE a s h)| .nil,_,_=>XY
end
noncomputable def rsS:S->Sl->HH->Option (ZZ×HH)
 | .rai c e,s,h=>(match ev F G e s h with
  | some (.p d,h')=>if o7 d then XX (c,h') else XY
  | _=>XY)
 | .seq a b,s,h=>(match evS F G a s h with
  | some (.nx s' h')=>rsS b s' h'| some _=>XY
  | none=>rsS a s h)
 | .ife c a b,s,h=>rsI (ev F G c s h) (rsS a s) (rsS b s)| .ex e,s,h=>rsE F R D G e s h| .ret e,s,h=>rsE F R D G e s h| .set _ e,s,h=>rsE F R D G e s h| .whl c _,s,h=>rsE F R D G c s h| _,_,_=>XY
end
section
variable {F:FK->List W->HH->Option (W×HH)}{R:XF}{D:ZZ->Bool}{G:ZZ->Option W}{s:Sl}{h:HH}
theorem xe1:rsE F R D G (.meth o m as) s h=bnd (ev F G o s h) (rsM R m (evs F G as s)):=rfl
theorem xe2:rsE F R D G (.methL o m as L fv) s h=bnd (ev F G o s h) (ED R m (evs F G as s) L (caps s fv)):=rfl
theorem xe3:rsE F R D G (.bi b mu as) s h=nA F R D G as s h:=rfl
theorem xe4:rsE F R D G (.call f as) s h=rsC (evs F G as s h) (R (.f f)) (if D f then nA F R D G as s h else XY):=rfl
theorem xe5:rsE F R D G (.idx a b) s h=rsE F R D G a s h:=rfl
theorem xe6:rsE F R D G (.bin o a b) s h=rsE F R D G a s h:=rfl
theorem xe7:rsE F R D G (.cmp o a b) s h=rsE F R D G a s h:=rfl
theorem xe8:rsE F R D G (.ite c a b) s h=rsI (ev F G c s h) (rsE F R D G a s) (rsE F R D G b s):=rfl
theorem xa1:nA F R D G (.cons a r) s h=rsA (ev F G a s h) (nA F R D G r s) (rsE F R D G a s h):=rfl
theorem xa2:nA F R D G .nil s h=XY:=rfl
theorem xs1:rsS F R D G (.rai c e) s h=(match ev F G e s h with
 | some (.p d,h')=>if o7 d then XX (c,h') else XY
 | _=>XY):=rfl
theorem xs2:rsS F R D G (.seq a b) s h=(match evS F G a s h with
 | some (.nx s' h')=>rsS F R D G b s' h'| some _=>XY
 | none=>rsS F R D G a s h):=rfl
theorem xs3:rsS F R D G (.ife c a b) s h=rsI (ev F G c s h) (rsS F R D G a s) (rsS F R D G b s):=rfl
theorem xs4:rsS F R D G (.ex e) s h=rsE F R D G e s h:=rfl
theorem xs5:rsS F R D G (.ret e) s h=rsE F R D G e s h:=rfl
theorem xs6:rsS F R D G (.set i e) s h=rsE F R D G e s h:=rfl
theorem xs7:rsS F R D G (.whl c b) s h=rsE F R D G c s h:=rfl
theorem xs8:rsS F R D G .nil s h=XY:=rfl
end
noncomputable def dk (T:FK->Option Fn) (f:ZZ):Bool:=(T (.f f)).isSome
noncomputable def dh (T TX:FK->Option Fn) (G:ZZ->Option W):Nat->FK->List W->HH->Option (ZZ×HH)
 | 0,_,_,_=>XY
 | k+1,f,ws,h=>match TX f with
  | some fn=>if ws.length=fn.ps.length then rsS (runN T G k) (dh T TX G k) (dk T) G fn.body (aY fn.ns.length ws) h else XY
  | none=>XY
theorem ko (hT:TX f=XX fn) (hl:ws.length=fn.ps.length) :
 dh T TX G (k+1) f ws h=rsS (runN T G k) (dh T TX G k) (dk T) G fn.body (aY fn.ns.length ws) h:=by
 rw[dh,hT];exact if_pos hl
end BT
end
section
namespace BS
open PySem PySem.Spec PyProof.Rows L2
variable {K:Rm}{st:RU}
def XW (K:Rm) (E:XK) (m:List Z0) (H:Hp) (c:ZZ) (h':BT.HH):Prop:=∀ H' m',Ext m H m' H'->RH K m' H' h'->∀ C,CN K c C->E (.ref C) XY H'
theorem XW.ext {E:XK} (w:XW K E m H c h') (x:Ext m H m1 H1):XW K E m1 H1 c h':=λH' m' y R C hC=>w H' m' (x.trans y) R C hC
inductive spX (P:Se) (w:SB) (K:Rm) (g:List BT.W->BT.HH->Option (ZZ×BT.HH)) (vs:List V) (H:Hp) (Q:VK) (E:XK):Prop where
 | mk (m:List Z0) (ws:List BT.W) (h:BT.HH) (c:ZZ) (h':BT.HH) (R:RH K m H h) (r:RWs P w K m H vs ws) (e:g ws h=XX (c,h')) (p:XW K E m H c h'):spX P w K g vs H Q E
inductive Mt (P:Se) (w:SB) (K:Rm) (mg:ZZ->Option Z1) (base:Heap) (A:TR) (f:ZZ) (sp:Sp):Prop where
 | mk (fa:Z0) (fd:Tz) (ps:List ZZ) (k:Nat) (h1:mg f=XX (.ref fa)) (h2:Sd K (.ref fa)=XZ) (h3:Binds K fd ps []) (h4:bG k A) (h5:cK P w K mg base (CX1 P w) k fa fd ps sp):Mt P w K mg base A f sp
structure OkX (X:Cx) (R:BT.XF) (D:ZZ->Bool) (E:XK):Prop where
 meth:∀ (c m:ZZ) ws h r,R (.m c m) ws h=XX r->OkM X.prog X.w X.K X.mg X.base X.A (CX1 X.prog X.w) c m (spX X.prog X.w X.K (R (.m c m)))
 call:∀ (f:ZZ) ws h r,R (.f f) ws h=XX r->Mt X.prog X.w X.K X.mg X.base X.A f (spX X.prog X.w X.K (R (.f f)))
 glo:∀ f,D f=XZ->∃ fa,X.mg f=XX (.ref fa)/\Sd X.K (.ref fa)=XZ
 pass:eN (CX1 X.prog X.w) X E
def PXE (X:Cx) (e:Rt) (t:L2.St->Hp->Prop):Prop:=∀ (zt:List (Z0×Obj)) (s:Rv) (σ:L2.St) (H:Hp) (Q:Z1->Rv->Prop),Inv X zt σ H s->t σ H->ZY (RV X.prog X.w) X.A (eval e X.env) Q X.xe s
def PXS (X:Cx) (st:RU) (t:L2.St->Hp->Prop):Prop:=∀ (zt:List (Z0×Obj)) (s:Rv) (σ:L2.St) (H:Hp) (Q:Flow->Rv->Prop),Inv X zt σ H s->t σ H->ZY (RV X.prog X.w) X.A (exec st X.env) Q X.xe s
def PXA (X:Cx) (es:List Rt) (t:L2.St->Hp->Prop):Prop:=∀ (pos:Pos) (zt:List (Z0×Obj)) (s:Rv) (σ:L2.St) (H:Hp) (Q:List Z1->Rv->Prop),Inv X zt σ H s->t σ H->ZY (RV X.prog X.w) X.A (U1 (TH pos (RX es X.env))) Q X.xe s
def PJ (X:Cx) (st:List RU) (t:L2.St->Hp->Prop):Prop:=∀ (zt:List (Z0×Obj)) (s:Rv) (σ:L2.St) (H:Hp) (Q:Flow->Rv->Prop),Inv X zt σ H s->t σ H->ZY (RV X.prog X.w) X.A (execs st X.env) Q X.xe s
inductive xD (X:Cx) (E:XK) (g:BT.Sl->BT.HH->Option (ZZ×BT.HH)) (σ:L2.St) (H:Hp):Prop where
 | mk (m:List Z0) (s:BT.Sl) (h:BT.HH) (c:ZZ) (h':BT.HH) (R:RH X.K m H h) (S:RS X.prog X.w X.K m H σ s) (e:g s h=XX (c,h')) (p:XW X.K E m H c h'):xD X E g σ H
section
variable {D:ZZ->Bool}{E:XK}
theorem EF (e:BT.rsM R m ea x h=XX r) :
 ∃ n c fs ws g,x=.o n/\BT.oat h n=XX (c,fs)/\(BT.bq m fs).isNone=XZ/\ea h=XX (ws,g)/\R (.m c m) (.o n::ws) g=XX r:=by
 unfold BT.rsM at e;cases x with
 | o n =>
  simp only at e;cases g1:BT.oat h n with
  | none=>rw[g1] at e;cases e
  | some q =>
   obtain ⟨c,fs⟩:=q;rw[g1] at e;simp only at e;cases g2:BT.bq m fs with
   | some _=>rw[g2] at e;cases e
   | none =>
    rw[g2] at e;simp only at e;obtain ⟨ws,g,e1,e2⟩:=ak e;exact ⟨n,c,fs,ws,g,rfl,g1,by rw[g2];rfl,e1,e2⟩
 | _=>cases e
theorem A6 (O:Ok X F G sc N) (O1:OkX X R D E) (hb:aC oe=XZ) (hl:(apos.endLine==cpos.line)=XZ) (hlen:es.length < 20) (ho:PE X oe (tD X F G o)) (hc:CEs sc N as es) (ha:PA X es (tDs X F G as)) :
 PXE X (.Call (.Attribute oe m apos) es [] cpos) (xD X E (BT.rsE F R D G (.meth o m as))):=by
 have hst:=cZ hc;intro zt s σ H Q I q;obtain ⟨m0,s',h,c0,h',RR,S,ee,zr⟩:=q;simp only[BT.xe1] at ee;obtain ⟨x,h1,e1,e2⟩:=ak ee;obtain ⟨n,c,fs,ws,g,rfl,e3,e4,e5,e6⟩:=EF e2;obtain ⟨C,ga,fd,ps,k,hC,hM,hB,hR,ok⟩:=O1.meth _ _ _ _ _ e6;have key:vg C m (spX X.prog X.w X.K (R (.m c m))) [] E (tD X F G o) (tDs X F G as) σ H (λ_ _=>False):=by
  refine ⟨m0,s',h,.o n,h1,RR,S,e1,λv H1 m1 x1 R1 r1=>?_⟩;cases r1 with
  | @o a _ hn =>
   obtain ⟨C',dx,vs,q1,q2,q3⟩:=R1.mU _ _ _ _ hn e3;cases q2.cn.inj hC.cn;refine ⟨a,dx,vs,rfl,q1,q3.none e4,m1,s',h1,ws,g,R1,S.ext x1,e5,λus H2 m2 x2 R2 r2=>?_⟩;show spX X.prog X.w X.K (R (.m c m)) (V.ref a::(us++[])) H2 _ E;rw[R8];exact ⟨m2,.o n::ws,g,c0,h',R2,.cons (.o (x2.ix hn)) r2,e6,zr.ext (x1.trans x2)⟩
 have fin:∀ u s2,EP X zt σ (λ_ _=>False) u s2->Q u s2:=λu s2 ⟨_,_,_,_,z⟩=>z.elim;cases es with
 | nil =>
  cases as with
  | cons a r=>exact (jF hc).elim
  | nil =>
   refine thn (rC ho hC.cls hM ok hR hB .nil O1.pass (gC hb hst hlen hl) zt s σ H (λ_ _=>False) I ?_) fin;obtain ⟨m,s,h,z,h',R,S,ee,zr⟩:=key;refine ⟨m,s,h,z,h',R,S,ee,λv H1 m1 x1 R1 r1=>?_⟩;obtain ⟨a,dx,fs,q1,q2,q3,q4⟩:=zr v H1 m1 x1 R1 r1;exact ⟨a,dx,fs,q1,q2,q3,gR q4⟩
 | cons e es =>
  have hst':=hst;simp only[ao,Rn] at hst';exact thn (vj ho hC.cls hM ok hR hB .nil O1.pass ha (ai hst'.1) (aH hst'.2) (gC hb hst hlen hl) zt s σ H (λ_ _=>False) I key) fin
end
noncomputable def noX:BT.E->Bool
 | .var _=>XZ| .cst _=>XZ| .lst _ _=>XZ| .tup _=>XZ| .lsr _ _ _=>XZ| _=>X0
section
variable {D:ZZ->Bool}{E:XK}
theorem A7 (h:noX a=XZ) (s:BT.Sl) (g:BT.HH):BT.rsE F R D G a s g=XY:=by cases a<;>first|(cases h;done)|rfl
theorem A8 (e:BT.ED R m ea L ocs x h=XX r) :
 ∃ n c fs ws g cs,x=.o n/\BT.oat h n=XX (c,fs)/\(BT.bq m fs).isNone=XZ/\ea h=XX (ws,g)/\ocs=XX cs/\R (.m c m) (.o n::(ws++[.c (.l L) cs])) g=XX r:=by
 unfold BT.ED at e;cases x with
 | o n =>
  simp only at e;cases g1:BT.oat h n with
  | none=>rw[g1] at e;cases e
  | some q =>
   obtain ⟨c,fs⟩:=q;rw[g1] at e;simp only at e;cases g2:BT.bq m fs with
   | some _=>rw[g2] at e;cases e
   | none =>
    rw[g2] at e;simp only at e;obtain ⟨ws,g,e1,e2⟩:=ak e;cases ocs with
    | none=>cases e2| some cs=>exact ⟨n,c,fs,ws,g,cs,rfl,g1,by rw[g2];rfl,e1,rfl,e2⟩
 | _=>cases e
theorem o8 (O:Ok X F G sc N) (O1:OkX X R D E) (hf:∀ x,X.fn x=XZ) {rest:List Rt}
 (hl:BT.mT L=XX ⟨ns,ns,.ret bt⟩) (hp:LPa pa ps) (hn:ns=ps++fv.map (·.2)) (hk:lG ps (fv.map (·.2)) scope=XZ) (hv:uB sc N fv=XZ) (ht:N.contains (BT.bI (BT.rR L))=XZ) (hc:CE' scope ns bt be) (h3:aC oe=XZ) (h6:(apos.endLine==cpos.line)=XZ)
 (hO:PE X oe (tD X F G o)) (hst:ao (e0::rest)=XZ) (hlen:(e0::rest).length < 20) (hS:AO X F G as (e0::rest) (.Lambda pa be scope lp)) :
 PXE X (.Call (.Attribute oe m apos) (e0::rest) [] cpos) (xD X E (BT.rsE F R D G (.methL o m as L fv))):=by
 intro zt s σ H Q I q;obtain ⟨m0,s',h,c0,h',RR,S,ee,zr⟩:=q;simp only[BT.xe2] at ee;obtain ⟨x,h1,e1,e2⟩:=ak ee;obtain ⟨n,c,fs,ws,g,cs,rfl,e3,e4,e5,e6,e7⟩:=A8 e2;obtain ⟨C,ga,fd,ps',k,hC,hM,hB,hR,ok⟩:=O1.meth _ _ _ _ _ e7;refine o5 O hf hl hp hn hk hv ht hc h3 h6 hO hst hlen hS I RR S hC hM e1 e3 e4 e5 e6 λa f us vs m2 H3 s3 cl P=>?_;obtain ⟨I3,hnone,hobj,hfrm,le,R4,w4,e04,rv4,xx,rh⟩:=P;have C5:∀ {m5:List Z0}{H5:Hp},Ext m2 (eS cl s3.heap H3) m5 H5->bW cl H5:=λx5 y d e=>by obtain ⟨ob,uu,g1,g2⟩:=hobj y d e;exact ⟨ob,uu,x5.keep _ _ (gS e g1) (rh.d8 (hnone y d e)) rfl,g2⟩
 have sp4:spX X.prog X.w X.K (R (.m c m)) (V.ref a::(vs++[.ref f])) (eS cl s3.heap H3) (λ_ _=>False) (λcv d H5=>E cv d (hid cl H5)):=by exact ⟨m2,_,g,c0,h',R4,w4,e7,λH5 m5 x5 R5 C hC=>zr (hid cl H5) m5 (xx.trans (vV hnone le x5)) ((C5 x5).rh R5) C hC⟩
 have hl4:(Sg a::(us++[.ref f])).length=ps'.length:=by rw[← rv4.length];exact ok.len _ _ _ _ sp4
 have hb4:=hB s3 (Sg a::(us++[.ref f])) I3.kIn (by rw[R8];exact hl4);rw[R8] at hb4;have run4:=ok.run X.A X.stack s3 (eS cl s3.heap H3) ⟨Sg a::(us++[Sg f]),[]⟩ (Sg a::(us++[Sg f])) _ _ _ hR e04 hb4 rv4 sp4;refine Vn (Uv run4 λr s' hq=>?_);cases r with
 | ok fl =>
  cases fl with
  | ret u=>obtain ⟨_,_,_,_,_,_,_,z⟩:=hq;exact Sa z| _=>exact Sa hq
 | error e =>
  obtain ⟨x,C,H5,B,Gh,a0,rfl,os5,bare5,un,hok5,fl,cov,hg5,cv2,hE⟩:=hq;have CT:bW cl H5:=λy d e=>by obtain ⟨ob,uu,g1,g2⟩:=hobj y d e;exact ⟨ob,uu,un.frzs _ _ _ (gS e g1),g2⟩
  refine O1.pass zt σ H3 s3 _ s' I3 ⟨x,C,hid cl H5,B,Gh,a0,rfl,os5,bare5,AS hnone hobj hfrm le un hok5,lY CT hok5 λ_ _ e=>e,fl,λb o e hb=>?_,lY CT hg5 λ_ _ e=>e,λb o nn e=>?_,hE⟩
  ·obtain ⟨o',q1,q2⟩:=cov b o e hb;refine ⟨o',q1,λnn=>?_⟩
   by_cases cc:∃ y,cl.lookup y=XX b
   ·obtain ⟨y,q⟩:=cc;have z:=un.frzs _ _ _ (gS q e);have z2:=cv2 b o (by rw[z];exact λw=>nomatch w) (hg5 _ _ z).1;rw[q1] at z2;exact Ry z2
   exact q2 (by rw[ef cc];exact nn)
  refine cv2 b o (λz=>nn (d9 z)) e
theorem A9 (O:Ok X F G sc N) (O1:OkX X R D E) (hg:aA sc f=XZ) (hn:aB f=XZ) (hc:CEs sc N as es) (ha:PA X es (tDs X F G as)) (hx:PXA X es (xD X E (BT.nA F R D G as))) :
 PXE X (.Call (.Name f p) es [] cpos) (xD X E (BT.rsE F R D G (.call f as))):=by
 have hst:=cZ hc;intro zt s σ H Q I q;obtain ⟨m0,s',h,c0,h',RR,S,ee,zr⟩:=q;simp only[BT.xe4] at ee;cases es with
 | nil =>
  cases as with
  | cons a r=>exact (jF hc).elim
  | nil =>
   simp only[BT.evs,BT.rsC] at ee;obtain ⟨fa,fd,ps,k,hm,hk,hb,hr,ok⟩:=O1.call _ _ _ _ ee;exact thn (rB ok hr (aM O hg) hm hk hb .nil O1.pass (bJ hn).1 zt s σ H (λ_ _=>False) I ⟨m0,[],h,c0,h',RR,.nil,ee,zr⟩) λu s2 ⟨_,_,_,_,z⟩=>z.elim
 | cons e es =>
  simp only[ao,Rn] at hst;cases g:BT.evs F G as s' h with
  | some q =>
   obtain ⟨ws,g1⟩:=q;rw[g] at ee;simp only[BT.rsC] at ee;obtain ⟨fa,fd,ps,k,hm,hk,hb,hr,ok⟩:=O1.call _ _ _ _ ee;refine thn (vh ok hr (aM O hg) hm hk hb .nil O1.pass ha (bJ hn).1 (ai hst.1) (aH hst.2) zt s σ H (λ_ _=>False) I ?_) λu s2 ⟨_,_,_,_,z⟩=>z.elim;refine ⟨m0,s',h,ws,g1,RR,S,g,λus H2 m2 x2 R2 r2=>?_⟩;show spX X.prog X.w X.K (R (.f f)) (us++[]) H2 _ E;rw[R8];exact ⟨m2,ws,g1,c0,h',R2,r2,ee,zr.ext x2⟩
  | none =>
   rw[g] at ee;simp only[BT.rsC] at ee;split at ee
   ·rename_i hd;obtain ⟨fa,hm,hk⟩:=O1.glo _ hd;refine SQ (fJ I (aM O hg) hm ?_ (bJ hn).1);exact Tj (h₀:=X.base) I.ok.mod.kin hk (hx cpos zt s σ H _ I ⟨m0,s',h,c0,h',RR,S,ee,zr⟩) (ai hst.1) (aH hst.2)
   cases ee
end
mutual
inductive CXE (sc:SE) (N:List ZZ):BT.E->Rt->Prop where
 | meth (h3:aC oe=XZ) (h6:(apos.endLine==cpos.line)=XZ) (h7:es.length < 20) (ho:CE' sc N o oe) (ha:CEs sc N as es):CXE sc N (.meth o m as) (.Call (.Attribute oe m apos) es [] cpos)
 | call (hg:aA sc f=XZ) (hn:aB f=XZ) (ha:CEs sc N as es) (hx:yu sc N as es):CXE sc N (.call f as) (.Call (.Name f np) es [] p)
 | bin (ha:CXE sc N a x):CXE sc N (.bin o a b) (.BinOp x op y p)
 | ite {c a b:BT.E}{t x y:Rt}{p:Pos} (h:tOK c=XZ) (hc:CE' sc N c t) (ha:CXE sc N a x) (hb:CXE sc N b y):CXE sc N (.ite c a b) (.IfExp t x y p)
 | no (h:noX a=XZ):CXE sc N a x
inductive yu (sc:SE) (N:List ZZ):BT.Es->List Rt->Prop where
 | nil:yu sc N .nil []
 | cons {a:BT.E}{as:BT.Es}{e:Rt}{es:List Rt} (hs:noStar e=XZ) (hc:CE' sc N a e) (ha:CXE sc N a e) (hr:yu sc N as es):yu sc N (.cons a as) (e::es)
end
mutual
inductive CXS (sc:SE) (N:List ZZ) (ra:Bool):BT.S->RU->Prop where
 | rai (hu:bV N=XZ) (hr:ra=XZ) (hx:fO c=XZ) (hg:aA sc c=XZ) (hn:aB c=XZ) (hl:t.length<=1000) (he:CE' sc N e v) :
  CXS sc N ra (.rai c e) (.Raise (XX (.Call (.Name c np) [.JoinedStr [.Constant (.str t) j p1,.FormattedValue v 114 XY p2] p3] [] cpos)) XY pos)
 | bad {st:RU}:CXS sc N ra .bad st
 | ex (h:gT v=XZ) (he:CXE sc N e v):CXS sc N ra (.ex e) (.Expr v p)
 | ret (he:CXE sc N e v):CXS sc N ra (.ret e) (.Return (XX v) p)
 | set {st:RU} (h:noX e=XZ):CXS sc N ra (.set i e) st
 | whl (hm:Vr op y=X0) (ha:CXE sc N a x):CXS sc N ra (.whl (.cmp o a b) bd) (.While (.Compare x [op] [y] p2) xs [] p)
 | ife {c:BT.E}{a b:BT.S}{t:Rt}{xs ys:List RU}{p:Pos} (h:tOK c=XZ) (hc:CE' sc N c t) (ha:eg sc N ra a xs) (hb:eg sc N ra b ys):CXS sc N ra (.ife c a b) (.If t xs ys p)
inductive eg (sc:SE) (N:List ZZ) (ra:Bool):BT.S->List RU->Prop where
 | nil {sts:List RU}:eg sc N ra .nil sts
 | bads {sts:List RU}:eg sc N ra .bad sts
 | one {st:RU} (h:CXS sc N ra s st):eg sc N ra s (st::r)
 | cons {a b:BT.S}{st:RU}{r:List RU} (hn:CS sc N a st) (h:CXS sc N ra a st) (hr:eg sc N ra b r):eg sc N ra (.seq a b) (st::r)
end
structure MadeX (X:Cx) (E:XK):Prop where
 made:∀ zt σ H s1 h2 a args C,Inv X zt σ H s1->VB s1.heap h2 a (.ref C) args->E (.ref C) XY H->X.xe (.ref a) { s1 with heap:=h2 }
 cls:∀ c,fO c=XZ->∃ C,CN X.K c C/\X.mg c=XX (.ref C)/\nv X.K C
section
variable {D:ZZ->Bool}{E:XK}{ra:Bool}
theorem sEs (h:CEs sc N as es) (O:Ok X F G sc N):PA X es (tDs X F G as):=sQ h X O
mutual
theorem sXE (O:Ok X F G sc N) (O1:OkX X R D E):∀ {e:BT.E}{v:Rt},CXE sc N e v->PXE X v (xD X E (BT.rsE F R D G e))
 | _,_,.meth h3 h6 h7 ho ha=>A6 O O1 h3 h6 h7 (sE ho O) ha (sEs ha O)| _,_,.call hg hn ha hx=>A9 O O1 hg hn ha (sEs ha O) (Mu O O1 hx)
 | _,_,.bin ha=>λzt s σ H Q I q=>wpAny_BinOp (sXE O O1 ha zt s σ H _ I (by
  obtain ⟨m,s',h,c0,h',RR,S,ee,zr⟩:=q;exact ⟨m,s',h,c0,h',RR,S,ee,zr⟩))
 | _,_,@CXE.ite _ _ c a b t x y p h hc ha hb=>λzt s σ H Q I q=>by
  obtain ⟨m,s',h0,c0,h',RR,S,ee,zr⟩:=q;simp only[BT.xe8] at ee;unfold BT.rsI at ee;split at ee
  ·rename_i h1 e1;refine wpAny_IfExp (thn ((sT hc O h).1 zt s σ H (λd H1=>d=XZ/\xD X E (BT.rsE F R D G a) σ H1) I ⟨m,s',h0,XZ,h1,RR,S,e1,λH1 m1 x1 R1=>⟨rfl,m1,s',h1,c0,h',R1,S.ext x1,ee,zr.ext x1⟩⟩) λd s1 zq=>?_);obtain ⟨H1,I1,q1,q2⟩:=zq;subst q1;exact sXE O O1 ha zt s1 σ H1 Q I1 q2
  ·rename_i h1 e1;refine wpAny_IfExp (thn ((sT hc O h).1 zt s σ H (λd H1=>d=X0/\xD X E (BT.rsE F R D G b) σ H1) I ⟨m,s',h0,X0,h1,RR,S,e1,λH1 m1 x1 R1=>⟨rfl,m1,s',h1,c0,h',R1,S.ext x1,ee,zr.ext x1⟩⟩) λd s1 zq=>?_);obtain ⟨H1,I1,q1,q2⟩:=zq;subst q1;exact sXE O O1 hb zt s1 σ H1 Q I1 q2
  cases ee
 | _,_,.no h=>λzt s σ H Q I q=>by obtain ⟨m,s',h0,c0,h',RR,S,ee,zr⟩:=q;rw[A7 h] at ee;cases ee
theorem Mu (O:Ok X F G sc N) (O1:OkX X R D E):∀ {as:BT.Es}{es:List Rt},yu sc N as es->PXA X es (xD X E (BT.nA F R D G as))
 | _,_,.nil=>λpos zt s σ H Q I q=>by obtain ⟨m,s',h0,c0,h',RR,S,ee,zr⟩:=q;simp only[BT.xa1,BT.xa2] at ee;cases ee
 | _,_,@yu.cons _ _ a as e es hs hc ha hr=>λpos zt s σ H Q I q=>by
  obtain ⟨m,s',h0,c0,h',RR,S,ee,zr⟩:=q;simp only[BT.xa1,BT.xa2] at ee;rw[ai hs];show ZY _ _ (U1 ((X0,eval e X.env)::TH pos (RX es X.env))) _ _ s;unfold BT.rsA at ee;split at ee
  ·rename_i z g1 e1;refine Sx (thn (sE hc O zt s σ H (λv H1=>xD X E (BT.nA F R D G as) σ H1) I ⟨m,s',h0,z,g1,RR,S,e1,λv H1 m1 x1 R1 r1=>⟨m1,s',g1,c0,h',R1,S.ext x1,ee,zr.ext x1⟩⟩) λu s1 zq=>?_);obtain ⟨v,H1,I1,rv,q1⟩:=zq;exact Mu O O1 hr pos zt s1 σ H1 _ I1 q1
  exact Sx (sXE O O1 ha zt s σ H _ I ⟨m,s',h0,c0,h',RR,S,ee,zr⟩)
end
theorem sXL (O:Ok X F G sc N) (O1:OkX X R D E) (hf:∀ x,X.fn x=XZ) {call:Rt} (h:CL sc N o m as L fv call):PXE X call (xD X E (BT.rsE F R D G (.methL o m as L fv))):=by
 cases h with
 | zero hl hp hn hk hv ht hc h3 h6 ho=>exact o8 O O1 hf hl hp hn hk hv ht hc h3 h6 (sE ho O) rfl (by simp) GB| one hl hp hn hk hv ht hc h3 h6 ho hs ha=>exact o8 O O1 hf hl hp hn hk hv ht hc h3 h6 (sE ho O) (by simp only[ao,hs];rfl) (by simp) (GC hs (sE ha O))
theorem Ji (O:Ok X F G sc N) (hu:bV N=XZ) (M:MadeX X E) (hx:fO c=XZ) (hg:aA sc c=XZ) (hn:aB c=XZ) (hl:t.length<=1000) (he:CE' sc N e v) :
 PXS X (.Raise (XX (.Call (.Name c np) [.JoinedStr [.Constant (.str t) j p1,.FormattedValue v 114 XY p2] p3] [] cpos)) XY pos) (xD X E (BT.rsS F R D G (.rai c e))):=by
 intro zt s σ H Q I q;obtain ⟨C,hC,hm,xc⟩:=M.cls c hx;obtain ⟨m,s',h,c0,h',RR,S,ee,zr⟩:=q;simp only[BT.xs1] at ee;split at ee
 ·rename_i d h2 e1;split at ee
  ·rename_i hb;cases ee;refine AZ (aM O hg) hn hm xc (O.calm hu) hl (sE he O) I ⟨m,s',h,_,_,RR,S,e1,λv H1 m1 x1 R1 r1=>?_⟩;cases r1 with
   | p r1 =>
    refine ⟨?_,λs1 h2 a args I1 hx=>M.made _ _ _ _ _ _ _ _ I1 hx (zr H1 m1 x1 R1 C hC)⟩;cases r1 with
    | int i=>exact .int (by simpa [BT.big] using hb)| str x hx=>exact .str (by simpa using hb)| non=>exact .non| bl b=>exact .bl| _=>cases hb
  cases ee
 cases ee
mutual
theorem sXS (O:Ok X F G sc N) (O1:OkX X R D E) (M:ra=XZ->MadeX X E) (hf:∀ x,X.fn x=XZ):∀ {s:BT.S}{st:RU},CXS sc N ra s st->PXS X st (xD X E (BT.rsS F R D G s))
 | _,_,.rai hu hr hx hg hn hl he=>Ji O hu (M hr) hx hg hn hl he
 | _,_,.bad=>λzt s σ H Q I q=>by obtain ⟨m,s',h,c0,h',RR,S,ee,zr⟩:=q;cases ee
 | _,_,.ex h he=>λzt s σ H Q I q=>by refine wpAny_Expr_any (sXE O O1 he zt s σ H _ I ?_) I.quiet (jg h);obtain ⟨m,s',h,c0,h',RR,S,ee,zr⟩:=q;exact ⟨m,s',h,c0,h',RR,S,ee,zr⟩
 | _,_,.ret he=>λzt s σ H Q I q=>by refine wpAny_Return_some (sXE O O1 he zt s σ H _ I ?_);obtain ⟨m,s',h,c0,h',RR,S,ee,zr⟩:=q;exact ⟨m,s',h,c0,h',RR,S,ee,zr⟩
 | _,_,.set h=>λzt s σ H Q I q=>by obtain ⟨m,s',h0,c0,h',RR,S,ee,zr⟩:=q;simp only[BT.xs6] at ee;rw[A7 h] at ee;cases ee
 | _,_,.whl hm ha=>λzt s σ H Q I q=>by
  obtain ⟨m,s',h0,c0,h',RR,S,ee,zr⟩:=q;simp only[BT.xs7,BT.xe7] at ee;refine wpAny_While (codeAny_whileLoop (λ(n:Nat) s'=>s'=s) ?_ 0 rfl)
  rintro n s1 rfl
  exact TU O.own (VI (sXE O O1 ha zt s1 σ H _ I ⟨m,s',h0,c0,h',RR,S,ee,zr⟩) hm)
 | _,_,@CXS.ife _ _ _ c a b t xs ys p h hc ha hb=>λzt s σ H Q I q=>by
  obtain ⟨m,s',h0,c0,h',RR,S,ee,zr⟩:=q;simp only[BT.xs3] at ee;unfold BT.rsI at ee;split at ee
  ·rename_i h1 e1;refine wpAny_If (thn ((sT hc O h).1 zt s σ H (λd H1=>d=XZ/\xD X E (BT.rsS F R D G a) σ H1) I ⟨m,s',h0,XZ,h1,RR,S,e1,λH1 m1 x1 R1=>⟨rfl,m1,s',h1,c0,h',R1,S.ext x1,ee,zr.ext x1⟩⟩) λd s1 zq=>?_);obtain ⟨H1,I1,q1,q2⟩:=zq;subst q1;exact Ba O O1 M hf ha zt s1 σ H1 Q I1 q2
  ·rename_i h1 e1;refine wpAny_If (thn ((sT hc O h).1 zt s σ H (λd H1=>d=X0/\xD X E (BT.rsS F R D G b) σ H1) I ⟨m,s',h0,X0,h1,RR,S,e1,λH1 m1 x1 R1=>⟨rfl,m1,s',h1,c0,h',R1,S.ext x1,ee,zr.ext x1⟩⟩) λd s1 zq=>?_);obtain ⟨H1,I1,q1,q2⟩:=zq;subst q1;exact Ba O O1 M hf hb zt s1 σ H1 Q I1 q2
  cases ee
theorem Ba (O:Ok X F G sc N) (O1:OkX X R D E) (M:ra=XZ->MadeX X E) (hf:∀ x,X.fn x=XZ):∀ {s:BT.S}{sts:List RU},eg sc N ra s sts->PJ X sts (xD X E (BT.rsS F R D G s))
 | _,_,.nil=>λzt s σ H Q I q=>by obtain ⟨m,s',h,c0,h',RR,S,ee,zr⟩:=q;cases ee
 | _,_,.bads=>λzt s σ H Q I q=>by obtain ⟨m,s',h,c0,h',RR,S,ee,zr⟩:=q;cases ee
 | _,_,.one h=>λzt s σ H Q I q=>UU (sXS O O1 M hf h zt s σ H _ I q)
 | _,_,@eg.cons _ _ _ a b st r hn h hr=>λzt s σ H Q I q=>by
  obtain ⟨m,s',h0,c0,h',RR,S,ee,zr⟩:=q;simp only[BT.xs2] at ee;cases g:BT.evS F G a s' h0 with
  | none =>
   rw[g] at ee;exact UU (sXS O O1 M hf h zt s σ H _ I ⟨m,s',h0,c0,h',RR,S,ee,zr⟩)
  | some fl =>
   rw[g] at ee;cases fl with
   | nx s2 h2 =>
    simp only at ee;refine UU (thn (sS O hf hn zt s σ H { nx:=fun σ' H'=>xD X E (BT.rsS F R D G b) σ' H',rt:=λ_ _=>False } I ⟨m,s',h0,.nx s2 h2,RR,S,g,fun σ' H1 m1 x1 R1 S1=>⟨m1,s2,h2,c0,h',R1,S1,ee,zr.ext x1⟩⟩) λf s1 q=>?_);cases f with
    | next =>
     obtain ⟨σ',H1,I1,q1⟩:=q;exact Ba O O1 M hf hr zt s1 σ' H1 Q I1 q1
    | ret u=>obtain ⟨_,_,_,_,_,z⟩:=q;exact z.elim| _=>obtain ⟨_,_,_,z⟩:=q;exact z.elim
   | _=>cases ee
end
end
inductive Bb (K:Rm) (c m:ZZ) (fn:BT.Fn):Prop where
 | mk (C f:Z0) (fd:Tz) (x qual:ZZ) (st:RU) (h1:jX K c C) (h2:rA K C m f) (h3:Fun K x qual st f fd) (h4:aO fn.ns fn.ps (aa st)) (h5:Binds K fd fn.ps []) (h6:eg (aa st) fn.ns XZ fn.body (aq st)) (h7:gD K qual fd fn):Bb K c m fn
structure sA (K:Rm) (c m:ZZ) (fn:BT.Fn):Prop where
 ex:Bb K c m fn
inductive GE (K:Rm) (mg:ZZ->Option Z1) (x:ZZ) (fn:BT.Fn):Prop where
 | mk (f:Z0) (fd:Tz) (st:RU) (h1:mg x=XX (.ref f)) (h2:Fun K x x st f fd) (h3:aO fn.ns fn.ps (aa st)) (h4:Binds K fd fn.ps []) (h5:eg (aa st) fn.ns XZ fn.body (aq st)) (h6:gD K x fd fn):GE K mg x fn
structure Bc (K:Rm) (mg:ZZ->Option Z1) (x:ZZ) (fn:BT.Fn):Prop where
 ex:GE K mg x fn
structure yv (K:Rm) (mg:ZZ->Option Z1) (TX:BT.FK->Option BT.Fn):Prop where
 defs:∀ x fn,TX (.f x)=XX fn->Bc K mg x fn
 meths:∀ c m fn,TX (.m c m)=XX fn->sA K c m fn
 cls:∀ c,fO c=XZ->∃ C,CN K c C/\mg c=XX (.ref C)/\nv K C
theorem Bd (e:BT.dh T TX G k x ws h=XX r):∃ fn,TX x=XX fn:=by
 cases k with
 | zero=>cases e
 | succ k =>
  rw[BT.dh] at e;cases q:TX x with
  | none=>rw[q] at e;cases e| some fn=>exact ⟨fn,rfl⟩
theorem Mv (X:Txt P w K mg T G) {ps:List ZZ}{E:XK}
 (nd:N.Nodup) (nt:∀ x,N.contains (BT.bI x)=X0) (hr:bG (2*k+1) (A.deeper (Us qual (aa st) s.heap.objs.size f cdv))):Ok (aI CX P w K mg base N qual (aa st) f cdv A outer s H E) (BT.runN T G k) G (aa st) N :=
 sy X (jh X k).1 (jh X k).2 rfl rfl rfl rfl rfl rfl rfl nd rfl hr WV λ_ x hx=>by rw[nt x] at hx;cases hx
theorem Be {E:XK} (X:Txt P w K mg T G) (Y:yv K mg TX)
 (ih:∀ (x:BT.FK) (fn:BT.Fn),TX x=XX fn->∀ (f:Z0) (fd:Tz) (nm qual:ZZ) (st:RU),Fun K nm qual st f fd->aO fn.ns fn.ps (aa st)->eg (aa st) fn.ns XZ fn.body (aq st)->gD K qual fd fn->cK P w K mg base (CX1 P w) (2*k) f fd fn.ps (spX P w K (BT.dh T TX G k x)))
 (e1:Z.prog=P) (e2:Z.w=w) (e3:Z.K=K) (e4:Z.mg=mg) (e5:Z.base=base) (hr:bG (2*k+1) Z.A) (ps:eN (CX1 P w) Z E):OkX Z (BT.dh T TX G k) (BT.dk T) E:=by
 subst e1 e2 e3 e4 e5;refine ⟨λc g ws h r e=>?_,λg ws h r e=>?_,λf hf=>?_,ps⟩
 ·obtain ⟨fn',hTg⟩:=Bd e;obtain ⟨C,f',fd',x',q',st',b1,b3,a2,a3,a4,a5,a6⟩:=(Y.meths c g fn' hTg).ex;exact ⟨C,f',fd',fn'.ps,2*k,b1,b3,a4,hr.mono (S6 _),ih _ fn' hTg f' fd' x' q' st' a2 a3 a5 a6⟩
 ·obtain ⟨fn',hTg⟩:=Bd e;obtain ⟨f',fd',st',b1,a2,a3,a4,a5,a6⟩:=(Y.defs g fn' hTg).ex;exact ⟨f',fd',fn'.ps,2*k,b1,a2.kp,a4,hr.mono (S6 _),ih _ fn' hTg f' fd' g g st' a2 a3 a5 a6⟩
 ·obtain ⟨fn,hT⟩:=Option.isSome_iff_exists.mp hf;obtain ⟨fa,fd,st,a1,a2,_⟩:=(X.defs f fn hT).ex;exact ⟨fa,a1,a2.kp⟩
theorem EG (F:Fun K x qual st f fd) (S:aO N ps (aa st)) (len:∀ vs H Q E,sp vs H Q E->vs.length=ps.length)
 (hbody:∀ (cdv:Z1) (A:TR) (outer:List Env) (s:Rv) (H:Hp) (vs:List V) (Q:VK) (E:XK),fd.code=cdv->bG k (A.deeper (Us qual (aa st) s.heap.objs.size f cdv))->Mod K mg base->sp vs H Q E →
  ∃ t,PSs (aI CX P w K mg base N qual (aa st) f cdv A outer s H E) (aq st) t/\t { nx:=λ_ H'=>Q .non H',rt:=Q } (L2.start N vs) H):cK P w K mg base CX (k+1) f fd ps sp:=by
 obtain ⟨oc,od,kV,doc,pm,an,cdv,ct,osl,rfl,lk,hcd⟩:=F.ex;refine ⟨len,λA outer s H args us vs Q E hr e0 hb r hs=>?_⟩;have F1:cK P w K mg base CX (k+1) f (SL x qual (cE st) (aq st) (aa st) .none kV doc pm an cdv ct) ps sp:=zo lk hcd S len λA outer s H vs Q E hr hsp=>hbody cdv A outer s H vs Q E rfl hr e0.mod hsp;exact F1.run A outer s H args us vs Q E hr e0 hb r hs
theorem EI (X:Txt P w K mg T G) (Y:yv K mg TX) :
 ∀ (k:Nat) (x:BT.FK) (fn:BT.Fn),TX x=XX fn->∀ (f:Z0) (fd:Tz) (nm qual:ZZ) (st:RU),Fun K nm qual st f fd->aO fn.ns fn.ps (aa st)->eg (aa st) fn.ns XZ fn.body (aq st)->gD K qual fd fn->cK P w K mg base (CX1 P w) (2*k) f fd fn.ps (spX P w K (BT.dh T TX G k x)):=by
 intro k
 induction k with
 | zero =>
  intro x fn hT f fd nm qual st h2 h3 h5 h6;have no:∀ vs H Q E,¬ spX P w K (BT.dh T TX G 0 x) vs H Q E:=λvs H Q E h=>by obtain ⟨m,ws,h,z,h',_,_,e,_⟩:=h;cases e
  exact ⟨λvs H Q E h=>absurd h (no vs H Q E),λA outer s H args us vs Q E _ _ _ _ h=>absurd h (no vs H Q E)⟩
 | succ k ih =>
  intro x fn hT f fd nm qual st h2 h3 h5 h6;show cK P w K mg base (CX1 P w) (2*k+1+1) f fd fn.ps (spX P w K (BT.dh T TX G (k+1) x));have inv:∀ {ws:List BT.W}{h:BT.HH}{r:ZZ×BT.HH},BT.dh T TX G (k+1) x ws h=XX r->ws.length=fn.ps.length/\BT.rsS (BT.runN T G k) (BT.dh T TX G k) (BT.dk T) G fn.body (BT.aY fn.ns.length ws) h=XX r:=λ{ws h r} e=>by rw[BT.dh,hT] at e;simp only at e;split at e;rename_i c;exact ⟨c,e⟩;cases e
  refine EG h2 h3 (λvs H Q E h=>?_) λcdv A outer s H vs Q E hcd hr hM h=>?_
  ·obtain ⟨m,ws,h,c,h',R,r,e,zr⟩:=h;rw[r.length];exact (inv e).1
  ·obtain ⟨m,ws,h,c,h',R,r,e,zr⟩:=h;have O:Ok (aI (CX1 P w) P w K mg base fn.ns qual (aa st) f cdv A outer s H E) (BT.runN T G k) G (aa st) fn.ns:=by refine sy X (jh X k).1 (jh X k).2 rfl rfl rfl rfl rfl rfl rfl h3.nd rfl hr WV λ_ y hy=>?_;obtain ⟨t1,t2,⟨c,Pt,t3,t4,t5,t6⟩,bm,ob,t7,t8,t9,t10,t11,t12⟩:=h6 y hy;exact ⟨t2,⟨c,Pt,t3,hcd.symm.trans t4,UM hM.kin t5,t6⟩,by show qual++".<locals>."=_;rw[t1],bm,ob,Su hM.kin hM.glob t7,t8,hM.kin _ _ t9,t10,t11,t12⟩
   have O1:OkX (aI (CX1 P w) P w K mg base fn.ns qual (aa st) f cdv A outer s H E) (BT.dh T TX G k) (BT.dk T) E:=Be (base:=base) X Y ih rfl rfl rfl rfl rfl hr (Mr λ_ _ z=>z);have M:MadeX (aI (CX1 P w) P w K mg base fn.ns qual (aa st) f cdv A outer s H E) E:=⟨λzt σ H s1 h2 a args C I hx hE=>EC I hx hE,Y.cls⟩;exact ⟨λD σ H'=>xD (aI (CX1 P w) P w K mg base fn.ns qual (aa st) f cdv A outer s H E) E (BT.rsS (BT.runN T G k) (BT.dh T TX G k) (BT.dk T) G fn.body) σ H',
    λzt s σ H D I q=>Ba O O1 (λ_=>M) (λ_=>rfl) h5 zt s σ H _ I q,m,_,h,c,h',R,fq r,(inv e).2,zr⟩
noncomputable def kq (tn:ZZ) (told:List BT.W->BT.HH->Option (BT.W×BT.HH)) (F:FT):FT:=λx=>match x with
 | .f y=>if y=tn then told else F (.f y)
 | .m c m=>F (.m c m)| .l L=>F (.l L)
theorem sC:kq tn told F (.f tn)=told:=if_pos rfl
theorem v9 (h:¬ y=tn):kq tn told F (.f y)=F (.f y):=if_neg h
theorem EJ (O:Ok X F G sc N)
 (h1:X.mg tn=XX (.ref fa)) (h2:Sd X.K (.ref fa)=XZ) (h3:Binds X.K fd ps []) (h4:bG k X.A) (h5:cK X.prog X.w X.K X.mg X.base CX0 k fa fd ps (spF X.prog X.w X.K told)):Ok X (kq tn told F) G sc N :=
 ⟨O.hsc,O.hN,O.nd,O.calm,O.hu,O.own,O.glob,λf ws h r e=>by
  by_cases c:f=tn
  ·subst c;rw[sC];exact ⟨fa,fd,ps,k,h1,h2,h3,h4,h5⟩
  ·rw[v9 c] at e ⊢;exact O.call f ws h r e,O.meth,O.mkc,O.blt,O.lam,O.lamx⟩
noncomputable def lO (F:FT) (G:ZZ->Option BT.W) (fn:BT.Fn) (ws:List BT.W) (h:BT.HH):Option (BT.W×BT.HH):=if ws.length=fn.ps.length then BT.jz (BT.evS F G fn.body (BT.aY fn.ns.length ws) h) (BT.fin h) else XY
section
variable {K:Rm}
theorem Bf (X:Txt P w K mg T G) (k:Nat) (h2:Fun K nm qual st f fd) (h3:aO fn.ns fn.ps (aa st)) (h5:CSs (aa st) fn.ns fn.body (aq st)) (h6:gD K qual fd fn)
 (q1:mg tn=XX (.ref fa)) (q2:Sd K (.ref fa)=XZ) (q3:Binds K fd' ps []) (q5:cK P w K mg base CX0 (2*k) fa fd' ps (spF P w K told)) :
 cK P w K mg base CX0 (2*k+1+1) f fd fn.ps (spF P w K (lO (kq tn told (BT.runN T G k)) G fn)):=by
 refine vZ h2 h3 (λvs H Q E h=>?_) λcdv A outer s H vs Q E hcd hr hM h=>?_
 ·obtain ⟨m,ws,h,z,h',R,r,e,zr⟩:=h;unfold lO at e;split at e;rename_i c;rw[r.length];exact c;cases e
 ·obtain ⟨m,ws,h,z,h',R,r,e,zr⟩:=h;unfold lO at e;split at e
  ·have O:Ok (aI CX0 P w K mg base fn.ns qual (aa st) f cdv A outer s H E).nox (BT.runN T G k) G (aa st) fn.ns:=by refine sy X (jh X k).1 (jh X k).2 rfl rfl rfl rfl rfl rfl rfl h3.nd rfl hr UF λ_ y hy=>?_;obtain ⟨t1,t2,⟨c,Pt,t3,t4,t5,t6⟩,bm,ob,t7,t8,t9,t10,t11,t12⟩:=h6 y hy;exact ⟨t2,⟨c,Pt,t3,hcd.symm.trans t4,UM hM.kin t5,t6⟩,by show qual++".<locals>."=_;rw[t1],bm,ob,Su hM.kin hM.glob t7,t8,hM.kin _ _ t9,t10,t11,t12⟩
   have O':=EJ O (tn:=tn) (told:=told) (k:=2*k) q1 q2 q3 (hr.mono (S6 _)) q5;refine ⟨_,sSs O' (λ_=>rfl) h5,?_⟩;cases gg:BT.evS (kq tn told (BT.runN T G k)) G fn.body (BT.aY fn.ns.length ws) h with
   | none=>rw[gg] at e;cases e
   | some fl =>
    rw[gg] at e;refine ⟨m,_,h,fl,R,fq r,gg,?_⟩;cases fl with
    | rt y g =>
     intro v H' m' x' R' r';obtain ⟨m2,y1,y2,y3⟩:=b9 e R x' R' r';exact zr v H' m2 y1 y2 y3
    | nx s' g =>
     intro σ' H' m' x' R' _;obtain ⟨m2,y1,y2,y3⟩:=b9 (v:=.non) e R x' R' (.p .non);exact zr .non H' m2 y1 y2 y3
    | _=>cases e
  cases e
end
noncomputable abbrev sD (A:TR):TR:={ A with handled:=XY }
noncomputable def cxU (P:Se) (w:SB) (K:Rm) (mg:ZZ->Option Z1) (base:Heap) (N:List ZZ) (qual:ZZ) (scope:SE) (f:Z0) (cd:Z1) (A:TR) (outer:List Env) (s:Rv) (H:Hp):Cx :=
 { aI CX0 P w K mg base N qual scope f cd A outer s H E0 with calm:=X0,xe:=λ_ _=>False }
section
variable {K:Rm}
theorem uM
 (S:aO N ps scope) (e0:jN P w K mg base A outer s H) (hl:vs.length=ps.length) (r:av vs us)
 (x:InCallC s s.heap.objs.size (bindL (Us qual scope s.heap.objs.size f cd).kindOf (ps.zip us) λ_=>XY) (WR (s.heap.objs.size+1) scope.names []) (bindC (Us qual scope s.heap.objs.size f cd).kindOf (ps.zip us) λ_=>XY) s1) :
 Inv (cxU P w K mg base N qual scope f cd A outer s H) [] (L2.start N vs) H s1:=by
 have e1:jN P w K mg base (sD A) outer s H:=⟨e0.frames,e0.mod,e0.bs,e0.bsz,e0.gc,e0.frf,e0.hok,e0.bare⟩;have I:=oS (CX:=CX0) (A:=sD A) (E:=E0) S rfl e1 hl r x;exact ⟨⟨I.ok.mod,I.ok.kind,I.ok.glob,I.ok.blt,I.ok.above,I.ok.inj,I.ok.has,I.ok.cab,λz=>(by cases z),Vq e0.frames,I.ok.stk,I.ok.exf,I.ok.bs,I.ok.bsz,I.ok.noex,I.ok.exfs,I.ok.gc,I.ok.frf⟩,
  I.os,I.bare,I.base,I.loc,I.cell,I.free,I.freeC,I.pin,I.hok,I.len⟩
structure FnU (P:Se) (w:SB) (K:Rm) (mg:ZZ->Option Z1) (base:Heap) (k:Nat) (f:Z0) (fd:Tz) (ps:List ZZ) (sp:Sp):Prop where
 len:∀ vs H Q E,sp vs H Q E->vs.length=ps.length
 run:∀ (A:TR) (outer:List Env) (s:Rv) (H:Hp) (args:Args) (us:List Z1) (vs:List V) (Q:VK) (E:XK),bG k (sD A)->jN P w K mg base A outer s H->BindsTo s fd args (ps.zip us)->av vs us->sp vs H Q E →
  codeAny (RV P w) A (.call (.ref f) args) (CR CX0 outer P w H s Q E) s
theorem Jj {kV:Z1}
 {osl:Array (Option Z1)} (lk:K.lookup f=XX ⟨oc,od,.func (SL name qual params body scope dV kV doc pm an cdv ct),osl⟩) (hcd:UV K cdv qual=XZ) (S:aO N ps scope)
 (len:∀ vs H Q E,sp vs H Q E->vs.length=ps.length)
 (hbody:∀ (A:TR) (outer:List Env) (s:Rv) (H:Hp) (vs:List V) (Q:VK) (E:XK),bG k (sD (A.deeper (Us qual scope s.heap.objs.size f cdv)))->sp vs H Q E →
  ∃ t,PSs (cxU P w K mg base N qual scope f cdv A outer s H) body t/\t { nx:=λ_ H'=>Q .non H',rt:=Q } (L2.start N vs) H) :
 FnU P w K mg base (k+1) f (SL name qual params body scope dV kV doc pm an cdv ct) ps sp:=by
 refine ⟨len,λA outer s H args us vs Q E hr e0 hb r hsp=>?_⟩;have hl:=len _ _ _ _ hsp;have KX:K.In s.heap:=e0.mod.kin.keeps λb o e=>(e0.bs b o e).1;have lim:s.heap.NoLimit:=e0.mod.nolimit.keeps λb o e=>(e0.bs b o e).1;have hkind:∀ y∈ps.zip us,scope.names.lookup y.1=XX .local\/(scope.names.lookup y.1=XX .cell/\((WR (s.heap.objs.size+1) scope.names []).lookup y.1).isSome=XZ):=λ⟨n,v⟩ hy=>by
  rcases S.par n (US hy).1 with q|q
  exact .inl q;exact .inr ⟨q,U9 _ _ _ (.inl q)⟩
 refine codeAny_call_function (A:=A) hr.depth (KX _ _ lk) rfl S.co S.gen rfl (W7 KX hcd) (hb _ _ _ _ ?_);refine W4 S.kind hkind λenv he s1 x=>?_;subst he;refine ⟨lim.keeps x.toInCall.keep,codeAny_func ?_⟩;obtain ⟨t,ht,hq⟩:=hbody A outer s H vs Q E (hr.deeper _) hsp;have I:=uM (f:=f) (cd:=cdv) (qual:=qual) S e0 hl r x;refine wpAny_mono (ht [] s1 (L2.start N vs) H _ I hq) (λfl s' hs=>?_) λe s' hs=>hs.elim;have fin:∀ {σ':L2.St}{H':Hp}{v:V}{u:Z1},Inv (cxU P w K mg base N qual scope f cdv A outer s H) [] σ' H' s'->RelV v u->Q v H'->CE outer P w H s Q u s' :=
  λ{σ' H' v u} J rv q=>⟨v,H',J.os,J.bare,J.base,J.hok,rv,q⟩
 cases fl with
 | ret u =>
  obtain ⟨v,σ',H',J,rv,q⟩:=hs;exact fin J rv q
 | next =>
  obtain ⟨σ',H',J,q⟩:=hs;exact fin (v:=V.non) (u:=VV) J rfl q
 | _=>obtain ⟨_,_,_,q⟩:=hs;exact Sa q
noncomputable def sF (fn:BT.Fn):List BT.W->BT.HH->Option (BT.W×BT.HH):=lO (λ_ _ _=>XY) (λ_=>XY) fn
theorem Jk (blt:∀ x∈DU,mg x=XY) (h2:Fun K nm qual st f fd) (h3:aO fn.ns fn.ps (aa st)) (h5:CSs (aa st) fn.ns fn.body (aq st)) (hu:bV fn.ns=X0) (hnt:∀ x,fn.ns.contains (BT.bI x)=X0) :
 FnU P w K mg base (k+1) f fd fn.ps (spF P w K (sF fn)):=by
 obtain ⟨oc,od,kV,doc,pm,an,cdv,ct,osl,rfl,lk,hcd⟩:=h2.ex;refine Jj lk hcd h3 (λvs H Q E h=>?_) λA outer s H vs Q E hr h=>?_
 ·obtain ⟨m,ws,h,z,h',R,r,e,zr⟩:=h;unfold sF lO at e;split at e;rename_i c;rw[r.length];exact c;cases e
 ·obtain ⟨m,ws,h,z,h',R,r,e,zr⟩:=h;unfold sF lO at e;split at e
  ·have O:Ok (cxU P w K mg base fn.ns qual (aa st) f cdv A outer s H) (λ_ _ _=>XY) (λ_=>XY) (aa st) fn.ns:=by refine ⟨rfl,rfl,h3.nd,λz=>absurd z (by rw[hu];decide),?_,UF,λx z e=>(by cases e),λg ws h r e=>(by cases e),λc g ws h r e=>(by cases e),λc ws h r e=>(by cases e),blt,λL ws h r e=>(by cases e),λ_ x hx=>absurd hx (by rw[hnt x];decide)⟩;have:=hr.un;show A.units+3+150 < Xf;have this:A.units+3+16*k+200 < Xf:=this;lia
   refine ⟨_,sSs O (λ_=>rfl) h5,?_⟩;cases gg:BT.evS (λ_ _ _=>XY) (λ_=>XY) fn.body (BT.aY fn.ns.length ws) h with
   | none=>rw[gg] at e;cases e
   | some fl =>
    rw[gg] at e;refine ⟨m,_,h,fl,R,fq r,gg,?_⟩;cases fl with
    | rt y g =>
     intro v H' m' x' R' r';obtain ⟨m2,y1,y2,y3⟩:=b9 e R x' R' r';exact zr v H' m2 y1 y2 y3
    | nx s' g =>
     intro σ' H' m' x' R' _;obtain ⟨m2,y1,y2,y3⟩:=b9 (v:=.non) e R x' R' (.p .non);exact zr .non H' m2 y1 y2 y3
    | _=>cases e
  cases e
end
theorem Bg (F:FnU X.prog X.w X.K X.mg X.base k f fd ps sp) (hr:bG k (sD X.A)) (hg:Gl X x) (hm:X.mg x=XX (.ref f)) (hk:Sd X.K (.ref f)=XZ) (hb:Binds X.K fd ps [])
 (ha:PA X (e::es) t) (hdb:(x==("__debug__":ZZ))=X0) (he:RX (e::es) X.env=(X0,eval e X.env)::RX es X.env) (hpl:(TH pos (RX es X.env)).any (·.1)=X0) :
 PE X (.Call (.Name x p) (e::es) [] pos) (vf sp [] E0 t):=by
 intro zt s σ H Q I h;refine SQ (fJ I hg hm ?_ hdb);refine Tj (h₀:=X.base) I.ok.mod.kin hk (thn (ha pos zt s σ H _ I h) λus s1 ⟨vs,H1,I1,r,q⟩=>⟨I1.kIn,?_⟩) he hpl;have q:sp (vs++[]) H1 Q E0:=q;have r2:av (vs++[]) (us++[]):=r.append .nil;have hl:(us++[]).length=ps.length:=by rw[← r2.length];exact F.len _ _ _ _ q
 refine Vn (Uv (F.run X.A X.stack s1 H1 ⟨us,[]⟩ (us++[]) (vs++[]) Q E0 hr I1.Dk (hb s1 us I1.kIn hl) r2 q) λr s' hq=>?_);cases r with
 | error e=>exact Sa hq
 | ok fl =>
  cases fl with
  | ret u=>exact I1.after hq| _=>exact Sa hq
noncomputable def cxI (X:Cx) (x:Z0):Cx:={ X with A:=X.A.mark (XX (.ref x)),calm:=X0,xe:=λ_ _=>False }
theorem EK (I:Inv X zt σ H s) (hx:s.heap.get? x=XX oe) (hc:oe.cls=.ref C) (cn:CN X.K c C) (xt:XT X.K c C) (hH:H x=XY) (hl:x≠X.env.locals) (hd:∀ v,oe.data≠.cell v)
 (hp:∀ p∈X.pn++zt,p.1≠x) (h0:X.s₀.heap.get? x=XY):Inv (cxI X x) zt σ (upd H x (.ext (excAt X.K c x))) s:=by
 have up:∀ {b:Z0}{o:HO},H b=XX o->upd H x (.ext (excAt X.K c x)) b=XX o:=λ{b o} e=>by rw[au (λz=>by rw[z,hH] at e;cases e)];exact e
 refine ⟨⟨I.ok.mod,I.ok.kind,I.ok.glob,I.ok.blt,I.ok.above,I.ok.inj,I.ok.has,I.ok.cab,λz=>(by cases z),I.ok.frames,I.ok.stk,I.ok.exf,I.ok.bs,I.ok.bsz,I.ok.noex,I.ok.exfs,I.ok.gc,I.ok.frf⟩,
  I.os,I.bare,⟨I.base.keep,I.base.slot,λb o e n hb=>?_,I.base.there,λb xs e=>up (I.base.tups b xs e),λb o u e=>up (I.base.frzs b o u e),λb ps e=>?_⟩,I.loc,I.cell,?_,λy a e=>?_,λp hq=>?_,λb u e=>?_,I.len⟩
 rw[au (λz=>by rw[z] at e;have e:X.s₀.heap.get? x=XX o:=e;rw[h0] at e;cases e)];exact I.base.free b o e n hb
 ·obtain ⟨more,q⟩:=I.base.tbls b ps e;exact ⟨more,up q⟩
 ·show upd H x _ X.env.locals=XY;rw[au (Ti hl)];exact I.free
 ·rw[au ?_];exact I.freeC y a e
  ·intro z;obtain ⟨v,o,ho,hdd⟩:=I.cell y a e;rw[z,hx] at ho;cases ho;exact hd v hdd
 ·obtain ⟨q1,q2,q3,q4,q5⟩:=I.pin p hq;exact ⟨q1,by rw[au (hp p hq)];exact q2,q3,q4,q5⟩
 ·by_cases z:b=x
  ·subst z;rw[aG] at e;cases e;refine ⟨⟨oe,C,cn,xt,hx,hc⟩,⟨oe,hx⟩,λh1 h2 q k=>?_⟩;obtain ⟨o,C',a1,a2,a3,a4⟩:=q;exact ⟨o,C',a1,a2,k _ a3,a4⟩
  ·rw[au z] at e;exact (I.hok b u e).stay (λ_ _ _ q=>q) (λ_ q=>up q) λ_ _ q=>up q
theorem yw (ok:X.Ok) (I:Inv (cxI X x) zt σ H s):Inv X zt σ H s :=
 ⟨ok,I.os,I.bare,I.base,I.loc,I.cell,I.free,I.freeC,I.pin,I.hok,I.len⟩
section
variable {K:Rm}{E:XK}
theorem yx {zt:List (Z0×Obj)}{σ:L2.St}{H1:Hp}{s1 s':Rv}{e:Z1}{tn n rn c:ZZ}{C D fr:Z0}{fdr:Tz}{pr:List ZZ}{sp:Sp}{k i:Nat}{p1 p2 p3 p5 p6 hp:Pos}{Wn:Hp->Prop}{R:VK}{Q:Flow->Rv->Prop}
 (I:Inv (aI CX P w K mg base N qual scope f cd A outer s0 H0 E) zt σ H1 s1) (h:CX1 P w (aI CX P w K mg base N qual scope f cd A outer s0 H0 E).stack H1 s1 E1 e s') (hE1:∀ C' d H',E1 (.ref C') d H'->C'=C/\Wn H')
 (nd:N.Nodup) (hi:N[i]?=XX n) (hln:scope.names.lookup n=XX .local) (okn:aB n=XZ) (hgD:Gl (aI CX P w K mg base N qual scope f cd A outer s0 H0 E) tn) (okD:aB tn=XZ) (hmD:mg tn=XX (.ref D)) (hgR:Gl (aI CX P w K mg base N qual scope f cd A outer s0 H0 E) rn) (okR:aB rn=XZ) (hmR:mg rn=XX (.ref fr))
 (hkR:Sd K (.ref fr)=XZ) (hbR:Binds K fdr pr []) (FR:FnU P w K mg base k fr fdr pr sp) (hr:bG k (aI CX P w K mg base N qual scope f cd A outer s0 H0 E).A) (cnC:CN K c C) (xt:XT K c C) (xC:nv K C) (xD:nv K D) (hsub:uL K C D=XZ)
 (hcall:∀ H' x,Wn H'->H' x=XY->sp [.ref x] (upd H' x (.ext (excAt K c x))) R E0)
 (hQ:∀ v u σ' H' s'',R v H'->RelV v u->Inv (aI CX P w K mg base N qual scope f cd A outer s0 H0 E) zt σ' H' s''->Q (.ret u) s'') :
 ZY (RV P w) (aI CX P w K mg base N qual scope f cd A outer s0 H0 E).A (noteFrame e (aI CX P w K mg base N qual scope f cd A outer s0 H0 E).env) (λ_ s2=>ZY (RV P w) (aI CX P w K mg base N qual scope f cd A outer s0 H0 E).A (setFlight e XY) (λ_ s3 =>
  ZY (RV P w) (aI CX P w K mg base N qual scope f cd A outer s0 H0 E).A (handleBy e (aI CX P w K mg base N qual scope f cd A outer s0 H0 E).env [.ExceptHandler (XX (.Name tn p1)) (XX n) [.Return (XX (.Call (.Name rn p2) [.Name n p3] [] p5)) p6] hp]) Q
   (aI CX P w K mg base N qual scope f cd A outer s0 H0 E).xe s3) (aI CX P w K mg base N qual scope f cd A outer s0 H0 E).xe s2) (aI CX P w K mg base N qual scope f cd A outer s0 H0 E).xe s':=by
 obtain ⟨x,C',H',B,G,a0,rfl,e1,e2,un,ho,fl,cov,hg,cv2,hE⟩:=h;obtain ⟨rfl,wn⟩:=hE1 _ _ _ hE;have J:Inv (aI CX P w K mg base N qual scope f cd A outer s0 H0 E) zt σ H' s':=I.yV (ch:=[]) e1 un ho e2 (λb z=>absurd z (by simp));have dbg:∀ {y:ZZ},aB y=XZ->(y==("__debug__":ZZ))=X0:=λ{y} q=>(bJ q).1;refine wpAny_looks_onW I.ok.frames rfl fl λh4 held4 sm4=>?_;refine wpAny_landsW held4 λh5 fl5 sm5=>?_;have J5:Inv (aI CX P w K mg base N qual scope f cd A outer s0 H0 E) zt σ H' { s' with heap:=h5 }:=v8 I J cov hg cv2 fl5.1 (sm4.trans sm5);obtain ⟨ob,hob,hobc⟩:=fl5.there;refine wpAny_handleBy_cons (codeAny_handlers_test ?_) (by intro q;cases q);refine UW J5.ok.kind hgD (WJ (by rw[J5.ok.glob];exact J5.mod.glob.keeps J5.bk) hmD ?_) (dbg okD);obtain ⟨bm,N1,nm,qn,bs,hdct,sn,sub,ab,col,dd,k0,k1,k2,k3,k5,mN,hC,hN,hni,T,lC⟩:=xC.obj I.mod.kin;obtain ⟨bm2,N2,nm2,qn2,bs2,hdct2,sn2,sub2,ab2,col2,dd2,j0,j1,j2,j3,j5,mN2,hD,hN2,hni2,T2,_⟩:=xD.obj I.mod.kin;have lC:K.lookup C'=_:=lC;have hcD:(Sg C'::bm).contains (.ref D)=XZ:=by unfold uL at hsub;rw[lC] at hsub;exact hsub
 refine ny (J5.bk _ _ hC) (J5.bk _ _ hD) hob hobc (T2.hasType rfl) hcD ?_;refine codeAny_handlers_suite_as ?_;refine lands_againW fl5 λh6 fl6 sm6=>?_;have J6:Inv (aI CX P w K mg base N qual scope f cd A outer s0 H0 E) zt σ H' { s' with heap:=h6 }:=v8 I J cov hg cv2 fl6.1 ((sm4.trans sm5).trans sm6);obtain ⟨_,xB,_,oe,vs,_,_,_,hoe,⟨hoc,_⟩,hod,_⟩:=fl6;have nl:x≠(aI CX P w K mg base N qual scope f cd A outer s0 H0 E).env.locals:=λz=>by obtain ⟨m,⟨o,es,ep,ho',hd',_⟩,_⟩:=J6.loc;have ho':h6.get? _=XX o:=ho';rw[← z,hoe] at ho';cases ho';rw[hod] at hd';cases hd'
 have nH:H' x=XY:=by
  cases q:H' x with
  | none=>rfl
  | some u =>
   obtain ⟨o,q2⟩:=obj_some (hg x u q);have:=cv2 x o (by rw[q];exact λz=>nomatch z) q2;rw[xB] at this;cases this
 have nf:x∉(aI CX P w K mg base N qual scope f cd A outer s0 H0 E).fs:=λz=>by obtain ⟨_,o,ho',hd'⟩:=J6.gc.mem z;have ho':h6.get? _=XX o:=ho';rw[hoe] at ho';cases ho';exact hd' _ hod
 have ns:∀ {b:Z0}{o:Obj},s1.heap.get? b=XX o->b∉frs (aI CX P w K mg base N qual scope f cd A outer s0 H0 E).stack->b≠x:=λ{b o} q1 q2 z=>by obtain ⟨o',q3,_⟩:=cov b o q1 q2;rw[z,xB] at q3;cases q3
 have hpn:∀ p∈(aI CX P w K mg base N qual scope f cd A outer s0 H0 E).pn++zt,p.1≠x:=λp hp=>by
  obtain ⟨q1,_,q3,q4,_⟩:=I.pin p hp;refine ns q1 λz=>?_;rcases List.mem_cons.mp (I.iF p.1 z) with q|q
  exact q3 q;exact q4 q
 have hs0:s0.heap.get? x=XY:=by
  cases q:s0.heap.get? x with
  | none=>rfl
  | some o =>
   obtain ⟨o1,q1⟩:=I.base.there x o q (by simp[aI]);exact absurd rfl (ns q1 (fT I q nf))
 refine kL J6 nd hi (.inl hln) (v:=.ref x) rfl (λs7 J7 sb=>?_) (.inr hln);have h7:s7.heap.get? x=XX oe:=by
  obtain ⟨a,sb,ha⟩:=sb;have ne:x≠a:=by
   rcases ha with rfl|ha
   exact nl
   ·intro z;obtain ⟨v,o,ho',hd'⟩:=J6.cell n a ha;have ho':h6.get? _=XX o:=ho';rw[← z,hoe] at ho';cases ho';rw[hod] at hd';cases hd'
  exact (sb.2 x ne).trans hoe
 have J8:=EK (c:=c) J7 h7 hoc cnC xt nH nl (λv z=>by rw[hod] at z;cases z) hpn hs0;have body:ZY (RV P w) (cxI (aI CX P w K mg base N qual scope f cd A outer s0 H0 E) x).A (execs [.Return (XX (.Call (.Name rn p2) [.Name n p3] [] p5)) p6] (aI CX P w K mg base N qual scope f cd A outer s0 H0 E).env)
  (SP (cxI (aI CX P w K mg base N qual scope f cd A outer s0 H0 E) x) zt { nx:=λ_ _=>False,rt:=R }) (λ_ _=>False) s7:=by
  have dn:(n==("__classdict__":ZZ))=X0:=(bJ okn).2.1;refine (lV (tT (Bg (X:=cxI (aI CX P w K mg base N qual scope f cd A outer s0 H0 E) x) FR ⟨rfl,hr.dp,hr.un⟩ hgR hmR hkR hbR (dg (tR (i:=i) hi (.inl hln) (dbg okn) dn) jw) (dbg okR) rfl rfl))) zt s7 _ _ _ J8 ?_;have iσ:i < σ.length:=by rw[J6.len];exact (List.getElem?_eq_some_iff.mp hi).1
  exact ⟨.ref x,SG iσ,hcall H' x wn nH⟩
 refine wpAny_mono body (λfl s8 q=>?_) λ_ _ z=>z.elim;cases fl with
 | ret u =>
  obtain ⟨v,σ',H2,J9,rv,q⟩:=q;obtain ⟨m,hn,_⟩:=J9.loc;show ZY _ _ (do bindName _ n .none;unbindBehindTheSuite _ n hp) _ _ _;exact wpAny_nameGoes hln hn (by rw[show (aI CX P w K mg base N qual scope f cd A outer s0 H0 E).env.scope.kind=.function from J.ok.kind];rfl) λh' m' hn' sb=>hQ _ _ _ _ _ q rv (A5 (yw J.ok J9) hn' sb)
 | _=>obtain ⟨_,_,_,z⟩:=q;exact z.elim
end
noncomputable def cxT (X:Cx) (zt:List (Z0×Obj)) (xe':Z1->Rv->Prop):Cx:={ X with pn:=X.pn++zt,xe:=xe' }
theorem GF (I:Inv X zt σ H s):Inv (cxT X zt xe') [] σ H s :=
 ⟨⟨I.ok.mod,I.ok.kind,I.ok.glob,I.ok.blt,I.ok.above,I.ok.inj,I.ok.has,I.ok.cab,I.ok.hd,I.ok.frames,I.ok.stk,I.ok.exf,I.ok.bs,I.ok.bsz,I.ok.noex,I.ok.exfs,I.ok.gc,I.ok.frf⟩,
  I.os,I.bare,I.base,I.loc,I.cell,I.free,I.freeC,λp hp=>I.pin p (by simpa [cxT] using hp),I.hok,I.len⟩
theorem Bh (ok:X.Ok) (I:Inv (cxT X zt xe') pins' σ H s):Inv X zt σ H s :=
 ⟨ok,I.os,I.bare,I.base,I.loc,I.cell,I.free,I.freeC,λp hp=>I.pin p (SM _ hp),I.hok,I.len⟩
theorem Mw (O:Ok X F G sc N) (own:WW (RV X.prog X.w) X.A X.env xe'):Ok (cxT X zt xe') F G sc N :=
 ⟨O.hsc,O.hN,O.nd,O.calm,O.hu,own,O.glob,O.call,O.meth,O.mkc,O.blt,O.lam,λhf x hx=>let L:=O.lamx hf x hx;⟨L.mem,L.ex,L.ql,L.bm⟩⟩
structure Mx (K:Rm) (D:Z0):Prop where
 all:∀ c,fO c=XZ->∃ C,CN K c C/\XT K c C/\nv K C/\uL K C D=XZ
noncomputable def ku (F:FT) (R:BT.XF) (D:ZZ->Bool) (G:ZZ->Option BT.W) (fn fr:BT.Fn) (ws:List BT.W) (h:BT.HH):Option (BT.W×BT.HH) :=
 if ws.length=fn.ps.length then (match BT.jz (BT.evS F G fn.body (BT.aY fn.ns.length ws) h) (BT.fin h) with
  | some r=>XX r
  | none=>match BT.rsS F R D G fn.body (BT.aY fn.ns.length ws) h with
   | some (c,h')=>if fO c then sF fr [.x c] h' else XY
   | none=>XY) else XY
section
variable {K:Rm}
theorem Bj (X:Txt P w K mg T G) (Y:yv K mg TX) {k:Nat}{D:Z0}{i:Nat} (Z:Mx K D)
 (h2:Fun K nm qual st f fd) (h3:aO fn.ns fn.ps (aa st)) (hB:aq st=[.Try body [.ExceptHandler (XX (.Name tn p1)) (XX n) [.Return (XX (.Call (.Name rn p2) [.Name n p3] [] p5)) p6] hp] [] [] pos])
 (h5:CSs (aa st) fn.ns fn.body body) (h6:eg (aa st) fn.ns X0 fn.body body) (hnt:∀ x,fn.ns.contains (BT.bI x)=X0) (hi:fn.ns[i]?=XX n) (hln:(aa st).names.lookup n=XX .local) (okn:aB n=XZ)
 (hgD:aA (aa st) tn=XZ) (okD:aB tn=XZ) (hmD:mg tn=XX (.ref D)) (xD':nv K D) (hgR:aA (aa st) rn=XZ) (okR:aB rn=XZ) (hmR:mg rn=XX (.ref fr)) (hkR:Sd K (.ref fr)=XZ) (hbR:Binds K fdr fnr.ps []) (FR:FnU P w K mg base 1 fr fdr fnr.ps (spF P w K (sF fnr))) :
 cK P w K mg base CX0 (2*k+1+1) f fd fn.ps (spF P w K (ku (BT.runN T G k) (BT.dh T TX G k) (BT.dk T) G fn fnr)):=by
 obtain ⟨oc,od,kV,doc,pm,an,cdv,ct,osl,rfl,lk,hcd⟩:=h2.ex;refine zo lk hcd h3 (λvs H Q E h=>?_) λA outer s H vs Q E hr h=>?_
 ·obtain ⟨m,ws,h,z,h',R,r,e,zr⟩:=h;rw[r.length];unfold ku at e;split at e;rename_i c;exact c;cases e
 ·obtain ⟨m,ws,h,z,h',R,r,e,zr⟩:=h;unfold ku at e;split at e
  ·have O:=Mv (CX:=CX0) (base:=base) (outer:=outer) (H:=H) (E:=E) (ps:=fn.ps) X h3.nd hnt hr;rw[hB];refine ⟨λDd σ H'=>σ=L2.start fn.ns vs/\H'=H/\(∀ v H2,Dd.rt v H2↔Q v H2)/\∀ σ' H2,Dd.nx σ' H2↔Q .non H2,lV ?_,rfl,rfl,λ_ _=>Iff.rfl,λ_ _=>Iff.rfl⟩;intro zt s1 σ H1 Dd I ⟨q1,q2,q3,q4⟩;subst q1 q2;refine wpAny_Try_except ?_;cases g0:BT.jz (BT.evS (BT.runN T G k) G fn.body (BT.aY fn.ns.length ws) h) (BT.fin h) with
   | some rr =>
    rw[g0] at e;cases e;cases gg:BT.evS (BT.runN T G k) G fn.body (BT.aY fn.ns.length ws) h with
    | none=>rw[gg] at g0;cases g0
    | some fl =>
     rw[gg] at g0;refine thn (sSs (Mw (zt:=zt) O WU) (λ_=>rfl) h5 [] s1 (L2.start fn.ns vs) H1 { nx:=λ_ H2=>Q .non H2,rt:=Q } (GF I) ⟨m,_,h,fl,R,fq r,gg,?_⟩) λfw s2 q=>?_
     ·cases fl with
      | rt y g =>
       intro v H' m' x' R' r';obtain ⟨m2,y1,y2,y3⟩:=b9 g0 R x' R' r';exact zr v H' m2 y1 y2 y3
      | nx s' g =>
       intro σ' H' m' x' R' _;obtain ⟨m2,y1,y2,y3⟩:=b9 (v:=.non) g0 R x' R' (.p .non);exact zr .non H' m2 y1 y2 y3
      | _=>cases g0
     ·cases fw with
      | next =>
       obtain ⟨σ',H',J,z⟩:=q;exact UZ ⟨σ',H',Bh I.ok J,(q4 _ _).mpr z⟩
      | ret u =>
       obtain ⟨v,σ',H',J,rv,z⟩:=q;exact ⟨v,σ',H',Bh I.ok J,rv,(q3 _ _).mpr z⟩
      | _=>obtain ⟨_,_,_,z⟩:=q;exact z.elim
   | none =>
    rw[g0] at e;simp only at e;cases g1:BT.rsS (BT.runN T G k) (BT.dh T TX G k) (BT.dk T) G fn.body (BT.aY fn.ns.length ws) h with
    | none=>rw[g1] at e;cases e
    | some cq =>
     obtain ⟨c,hq⟩:=cq;rw[g1] at e;simp only at e;split at e
     ·rename_i hxn;obtain ⟨C,cnC,xt,xC,hsub⟩:=Z.all c hxn;refine Ba (R:=BT.dh T TX G k) (E:=λcv _ H2=>cv=.ref C/\∃ m2,Ext m H1 m2 H2/\RH K m2 H2 hq) (ra:=X0) (Mw (zt:=zt) O WU) (Be (base:=base) X Y (EI X Y k) rfl rfl rfl rfl rfl hr ?_) (λz=>nomatch z) (λ_=>rfl) h6 [] s1 (L2.start fn.ns vs) H1 _ (GF I) ⟨m,_,h,c,hq,R,fq r,g1,λH' m' x' R' C' hC'=>⟨by rw[hC'.inj cnC],m',x',R'⟩⟩
      ·intro pins' σ' H2 s2 ee s3 I' hcx;refine yx (Wn:=λH2=>∃ m2,Ext m H1 m2 H2/\RH K m2 H2 hq) (R:=Q) (Bh I.ok I') hcx (λC' d H' z=>⟨by have:=z.1;cases this;rfl,z.2⟩) h3.nd hi hln okn (aM O hgD) okD hmD (aM O hgR) okR hmR hkR hbR FR (hr.mono (by lia)) cnC xt xC xD' hsub (λH' x wn hx=>?_) λv u σ' H' s'' q rv J=>⟨v,σ',H',J,rv,(q3 _ _).mpr q⟩;obtain ⟨m2,x2,R2⟩:=wn;refine ⟨m2,[.x c],hq,z,h',R2.new hx,.cons (.x aG (R2.d8 hx) ⟨C,xt⟩) .nil,e,λv H3 m3 x3 R3 r3=>?_⟩;exact zr v H3 m3 ((x2.trans (fQ hx)).trans x3) R3 r3
     cases e
  cases e
end
end BS
end
section
namespace BT
open PySem
noncomputable def cz:Fn:=⟨["part"],["part"], (.seq (.ife (.cmp .eq (.idx (.glo "INNER_COUNTS") (.idx (.var 0) (.cst (.int 0)))) (.cst (.int 0))) (.ret (.tup .nil)) .nil) (.ret (.slc (.var 0) (Z9 (.cst (.int 1))) .nil)))⟩
noncomputable def kB:Fn:=⟨[],[], (.ret (.tup (Z4 (.cst (.int 0)) (.bin .mul (.tup (Z9 (.cst (.int 0)))) (.bi .len X0 (Z9 (.glo "LETTERS")))) (.bin .mul (.tup (Z9 (.cst (.int 0)))) (.glo "CELL_COUNT")) (.tup .nil) (.cst (.int 0)) (.tup .nil))))⟩
noncomputable def fU:Fn:=⟨["term"],["term","parts","waiting","part"], (.seq (.set 1 (.lst XZ .nil)) (.seq (.set 2 (.lst XZ (Z9 (.var 0)))) (.seq (.whl (.cmp .gt (.bi .len X0 (Z9 (.var 2))) (.cst (.int 0))) (.seq (.set 3 (.me .pop (.var 2) .nil)) (.seq (.ex (.me .append (.var 1) (Z9 (.var 3)))) (.ex (.me .extend (.var 2) (Z9 (.call "inner_sums" (Z9 (.var 3))))))))) (.ret (.var 1)))))⟩
noncomputable def ji:Fn:=⟨["word","one","other"],["word","one","other"], (.seq (.ife (.cmp .eq (.var 0) (.cst (.str "less"))) (.ret (.ite (.cmp .lt (.var 1) (.var 2)) (.cst (.int 1)) (.cst (.int 0)))) .nil) (.seq (.ife (.cmp .eq (.var 0) (.cst (.str "add"))) (.ret (.bin .mod (.bin .add (.var 1) (.var 2)) (.glo "WORTH_COUNT"))) .nil) (.seq (.ife (.cmp .eq (.var 0) (.cst (.str "sub"))) (.ret (.bin .mod (.bin .sub (.var 1) (.var 2)) (.glo "WORTH_COUNT"))) .nil) (.ret (.bin .mod (.bin .mul (.var 1) (.var 2)) (.glo "WORTH_COUNT"))))))⟩
noncomputable def gU:Fn:=⟨["thing"],["thing"], (.ret (.cmp .mem (.var 0) (.glo "LETTERS")))⟩
noncomputable def fV:Fn:=⟨["state","thing"],["state","thing"], (.seq (.ife (.call "is_name" (Z9 (.var 1))) (.ret (.idx (.idx (.var 0) (.glo "NAMES")) (.me .tindex (.glo "LETTERS") (Z9 (.var 1))))) .nil) (.seq (.ex (.call "check_thing" (Z9 (.var 1)))) (.ret (.idx (.idx (.var 0) (.glo "CELLS")) (.var 1)))))⟩
noncomputable def bY:Fn:=⟨["part","worths","state"],["part","worths","state","word","last"], (.seq (.set 3 (.idx (.var 0) (.cst (.int 0)))) (.seq (.ife (.cmp .eq (.var 3) (.cst (.str "num"))) (.ret (.idx (.var 0) (.cst (.int 1)))) .nil) (.seq (.ife (.cmp .eq (.var 3) (.cst (.str "name"))) (.ret (.call "worth_in" (Z8 (.var 2) (.idx (.var 0) (.cst (.int 1)))))) .nil) (.seq (.set 4 (.me .pop (.var 1) .nil)) (.seq (.ife (.cmp .eq (.var 3) (.cst (.str "cell"))) (.ret (.idx (.idx (.var 2) (.glo "CELLS")) (.bin .mod (.var 4) (.glo "CELL_COUNT")))) .nil) (.ret (.call "of_two" (Z7 (.var 3) (.me .pop (.var 1) .nil) (.var 4)))))))))⟩
noncomputable def fW:Fn:=⟨["term","state"],["term","state","worths","part"], (.seq (.set 2 (.lst XZ .nil)) (.seq (.for [(3,"part")] .rev (Z9 (.call "laid_out" (Z9 (.var 0)))) (.ex (.me .append (.var 2) (Z9 (.call "worth_of" (Z7 (.var 3) (.var 2) (.var 1))))))) (.ret (.idx (.var 2) (.cst (.int 0))))))⟩
noncomputable def gV:Fn:=⟨["term","state"],["term","state"], (.ret (.bin .mod (.call "reckoned" (Z8 (.var 0) (.var 1))) (.glo "CELL_COUNT")))⟩
noncomputable def fu:Fn:=⟨["program","state"],["program","state","word"], (.seq (.ife (.cmp .ge (.idx (.var 1) (.glo "ROW")) (.bi .len X0 (Z9 (.var 0)))) (.ret (.cst (.bl XZ))) .nil) (.seq (.set 2 (.idx (.idx (.var 0) (.idx (.var 1) (.glo "ROW"))) (.cst (.int 0)))) (.seq (.ife (.cmp .eq (.var 2) (.cst (.str "back"))) (.ret (.cmp .eq (.bi .len X0 (Z9 (.idx (.var 1) (.glo "CALLS")))) (.cst (.int 0)))) .nil) (.seq (.ife (.cmp .eq (.var 2) (.cst (.str "call"))) (.ret (.cmp .ge (.bi .len X0 (Z9 (.idx (.var 1) (.glo "CALLS")))) (.glo "MOST_CALLS"))) .nil) (.ret (.cmp .eq (.var 2) (.cst (.str "stop"))))))))⟩
noncomputable def cG:Fn:=⟨["row","state"],["row","state","word"], (.seq (.set 2 (.idx (.var 0) (.cst (.int 0)))) (.seq (.ife (.or (.cmp .eq (.var 2) (.cst (.str "jump"))) (.cmp .eq (.var 2) (.cst (.str "call")))) (.ret (.idx (.var 0) (.cst (.int 1)))) .nil) (.seq (.ife (.cmp .eq (.var 2) (.cst (.str "back"))) (.ret (.idx (.idx (.var 1) (.glo "CALLS")) (.neg (.cst (.int 1))))) .nil) (.seq (.ife (.and (.cmp .eq (.var 2) (.cst (.str "unless"))) (.cmp .eq (.call "reckoned" (Z8 (.idx (.var 0) (.cst (.int 1))) (.var 1))) (.cst (.int 0)))) (.ret (.idx (.var 0) (.cst (.int 2)))) .nil) (.ret (.bin .add (.idx (.var 1) (.glo "ROW")) (.cst (.int 1))))))))⟩
noncomputable def dW:Fn:=⟨["worths","number","worth"],["worths","number","worth"], (.ret (.bin .add (.bin .add (.slc (.var 0) .nil (Z9 (.var 1))) (.tup (Z9 (.var 2)))) (.slc (.var 0) (Z9 (.bin .add (.var 1) (.cst (.int 1)))) .nil)))⟩
noncomputable def eV:Fn:=⟨["state","name","worth"],["state","name","worth"], (.ret (.call "with_worth" (Z7 (.idx (.var 0) (.glo "NAMES")) (.me .tindex (.glo "LETTERS") (Z9 (.var 1))) (.var 2))))⟩
noncomputable def fy:Fn:=⟨["asked","number"],["asked","number"], (.ret (.ite (.cmp .lt (.var 1) (.bi .len X0 (Z9 (.var 0)))) (.idx (.var 0) (.var 1)) (.cst (.int 0))))⟩
noncomputable def gW:Fn:=⟨["program","asked","state"],["program","asked","state","row","word","behind"], (.seq (.set 3 (.idx (.var 0) (.idx (.var 2) (.glo "ROW")))) (.seq (.set 4 (.idx (.var 3) (.cst (.int 0)))) (.seq (.set 5 (.bi .list XZ (Z9 (.var 2)))) (.seq (.put 5 (.glo "ROW") (.call "place_behind" (Z8 (.var 3) (.var 2)))) (.seq (.ife (.cmp .eq (.var 4) (.cst (.str "set"))) (.put 5 (.glo "NAMES") (.call "with_name" (Z7 (.var 2) (.idx (.var 3) (.cst (.int 1))) (.call "reckoned" (Z8 (.idx (.var 3) (.cst (.int 2))) (.var 2)))))) (.ife (.cmp .eq (.var 4) (.cst (.str "put"))) (.put 5 (.glo "CELLS") (.call "with_worth" (Z7 (.idx (.var 2) (.glo "CELLS")) (.call "cell_by" (Z8 (.idx (.var 3) (.cst (.int 1))) (.var 2))) (.call "reckoned" (Z8 (.idx (.var 3) (.cst (.int 2))) (.var 2)))))) (.ife (.cmp .eq (.var 4) (.cst (.str "ask"))) (.seq (.put 5 (.glo "NAMES") (.call "with_name" (Z7 (.var 2) (.idx (.var 3) (.cst (.int 1))) (.call "brought" (Z8 (.var 1) (.idx (.var 2) (.glo "ASKED"))))))) (.put 5 (.glo "ASKED") (.bin .add (.idx (.var 2) (.glo "ASKED")) (.cst (.int 1))))) (.ife (.cmp .eq (.var 4) (.cst (.str "say"))) (.put 5 (.glo "SAID") (.bin .add (.idx (.var 2) (.glo "SAID")) (.tup (Z9 (.call "reckoned" (Z8 (.idx (.var 3) (.cst (.int 1))) (.var 2))))))) (.ife (.cmp .eq (.var 4) (.cst (.str "call"))) (.put 5 (.glo "CALLS") (.bin .add (.idx (.var 2) (.glo "CALLS")) (.tup (Z9 (.bin .add (.idx (.var 2) (.glo "ROW")) (.cst (.int 1))))))) (.ife (.cmp .eq (.var 4) (.cst (.str "back"))) (.put 5 (.glo "CALLS") (.slc (.idx (.var 2) (.glo "CALLS")) .nil (Z9 (.neg (.cst (.int 1)))))) .nil)))))) (.ret (.bi .tuple X0 (Z9 (.var 5)))))))))⟩
theorem we:RG s=RG t↔s=t:=by
 constructor
 ·intro h;rw[W5,W5] at h;have h1:(s.toList.map WI)=(t.toList.map WI):=by have:=congrArg (λx:ZZ=>x.cps.toList) h;simpa using this
  have inj:∀ (a b:List Char),a.map WI=b.map WI->a=b:=by
   intro a
   induction a with
   | nil=>intro b h;cases b with
    | nil=>rfl| cons _ _=>simp at h
   | cons x xs ih=>intro b h;cases b with
    | nil=>simp at h
    | cons y ys =>
     simp only[RZ,UG] at h;have:x=y:=Char.toNat_inj.mp h.1;rw[this,ih ys h.2]
  have h2:=inj _ _ h1;exact String.toList_inj.mp h2
 intro h;rw[h]
@[simp] theorem Og (s t:String):(RG s==RG t)=(s==t):=by
 by_cases h:s=t
 subst h;simp
 ·have h1:¬ RG s=RG t:=λe=>h (we.mp e);rw[beq_eq_false_iff_ne.mpr h1,beq_eq_false_iff_ne.mpr h]
@[simp] theorem PK (s t:String):(RG s=RG t)=(s=t):=propext we
@[simp] theorem Re (h:List α) (a:α) (r:List α):(h++a::r)[h.length]?=XX a:=by simp
@[simp] theorem Mz (h:List α) (a b:α) (r:List α):(h++a::b::r)[h.length+1]?=XX b:=by rw[RM (by lia)];simp
@[simp] theorem Rf (h:List α) (a x:α) (r:List α):(h++a::r).set h.length x=h++x::r:=by simp
@[simp] theorem Rg (h:List α) (a b x:α) (r:List α):(h++a::b::r).set (h.length+1) x=h++a::x::r:=by rw[UD _ _ (by lia)];simp
theorem aj (h:HH) (w:W):fin h w h=XX (w,h):=by simp[fin]
theorem fz (h g:HH) (d:D):fin h (.p d) (h++g)=XX (.p d,h):=by
 unfold fin;cases g with
 | _=>simp
@[simp] theorem PL (h:HH) (a:Cl) (r:HH):lat (h++a::r) h.length=pQ a:=by simp[lat]
@[simp] theorem Rh (h:HH) (a b:Cl) (r:HH):lat (h++a::b::r) (h.length+1)=pQ b:=by unfold lat;rw[Mz];rfl
@[simp] theorem Rj (h:HH) (a:Cl) (r:HH):oat (h++a::r) h.length=rK a:=by simp[oat]
@[simp] theorem Rk (h:HH) (a b:Cl) (r:HH):oat (h++a::b::r) (h.length+1)=rK b:=by unfold oat;rw[Mz];rfl
theorem EL (e:lat h n=XX ys) (c:Cl):lat (h.set n c) n=pQ c:=by
 unfold lat at e ⊢;cases g:h[n]? with
 | none=>rw[g] at e;cases e| some q=>rw[List.getElem?_set_self',g];rfl
theorem Bk (h:HH) (xs:List D) (g:HH):fin h (.r h.length) (h++.l xs::g)=XX (.p (.lst xs),h):=by unfold fin;simp
theorem wg (h h':HH) (w:W) (e:h'.length=h.length):fin h w h'=XX (w,h'):=by simp[fin,e]
structure Prg (T:FK->Option Fn) (G:ZZ->Option W):Prop where
 inner_sums:T "inner_sums"=XX cz
 begun:T "begun"=XX kB
 laid_out:T "laid_out"=XX fU
 of_two:T "of_two"=XX ji
 worth_of:T "worth_of"=XX bY
 is_name:T "is_name"=XX gU
 worth_in:T "worth_in"=XX fV
 reckoned:T "reckoned"=XX fW
 cell_by:T "cell_by"=XX gV
 is_over:T "is_over"=XX fu
 place_behind:T "place_behind"=XX cG
 with_worth:T "with_worth"=XX dW
 with_name:T "with_name"=XX eV
 brought:T "brought"=XX fy
 stepped:T "stepped"=XX gW
 LETTERS:G "LETTERS"=XX (.p (.tup [.str "a",.str "b",.str "c",.str "d",.str "e",.str "f"]))
 CELL_COUNT:G "CELL_COUNT"=XX (.p (.int 4))
 WORTH_COUNT:G "WORTH_COUNT"=XX (.p (.int 10007))
 INNER:G "INNER_COUNTS"=XX (.k [("num",.int 0),("name",.int 0),("cell",.int 1),("add",.int 2),("sub",.int 2),("mul",.int 2),("less",.int 2)])
 ROW:G "ROW"=XX (.p (.int 0))
 NAMES:G "NAMES"=XX (.p (.int 1))
 CELLS:G "CELLS"=XX (.p (.int 2))
 CALLS:G "CALLS"=XX (.p (.int 3))
 ASKED:G "ASKED"=XX (.p (.int 4))
 SAID:G "SAID"=XX (.p (.int 5))
 MOST_CALLS:G "MOST_CALLS"=XX (.p (.int 6))
inductive Op where
 | add|sub|mul|less
noncomputable def Op.w:Op->String
 | .add=>"add" | .sub=>"sub" | .mul=>"mul" | .less=>"less"
inductive Nm where
 | a|b|c|d|e|f
noncomputable def Nm.w:Nm->String
 | .a=>"a" | .b=>"b" | .c=>"c" | .d=>"d" | .e=>"e" | .f=>"f"
noncomputable def Nm.ix:Nm->Nat
 | .a=>0 | .b=>1 | .c=>2 | .d=>3 | .e=>4 | .f=>5
theorem Nm.wj (x:Nm):x.ix < 6:=by cases x<;>decide
inductive Sm where
 | num (n:Int)
 | nam (i:Nm)
 | cell (s:Sm)
 | two (o:Op) (s t:Sm)
noncomputable def Sm.enc:Sm->D
 | .num n=>.tup [.str "num",.int n]| .nam i=>.tup [.str "name",.str i.w]| .cell s=>.tup [.str "cell",s.enc]| .two o s t=>.tup [.str o.w,s.enc,t.enc]
noncomputable def Sm.size:Sm->Nat
 | .num _=>1| .nam _=>1| .cell s=>s.size+1| .two _ s t=>s.size+t.size+1
noncomputable def Sm.lay:Sm->List Sm
 | .num n=>[.num n]| .nam i=>[.nam i]| .cell s=>.cell s::s.lay| .two o s t=>.two o s t::(t.lay++s.lay)
noncomputable def Sm.subs:Sm->List Sm
 | .num _=>[]| .nam _=>[]| .cell s=>[s]| .two _ s t=>[s,t]
def Wth (n:Int):Prop:=0<=n/\n<=10006
noncomputable def Sm.ok:Sm->Prop
 | .num n=>Wth n| .nam _=>True| .cell s=>s.ok| .two _ s t=>s.ok/\t.ok
theorem Sm.size_pos (s:Sm):1<=s.size:=by cases s<;>simp[Sm.size]
structure St where
 row:Nat
 names:List Int
 cells:List Int
 calls:List Nat
 asked:Nat
 said:List Int
noncomputable def af (xs:List Int):List D:=xs.map D.int
noncomputable def ah (xs:List Nat):List D:=xs.map λ(n:Nat)=>D.int (n:Int)
noncomputable def St.enc (s:St):D:=.tup [.int s.row,.tup (af s.names),.tup (af s.cells),.tup (ah s.calls),.int s.asked,.tup (af s.said)]
structure St.ok (s:St):Prop where
 nlen:s.names.length=6
 clen:s.cells.length=4
 nw:∀ x∈s.names,Wth x
 cw:∀ x∈s.cells,Wth x
noncomputable def two (o:Op) (x y:Int):Int:=match o with
 | .add=>(x+y) % 10007| .sub=>(x - y) % 10007| .mul=>(x*y) % 10007
 | .less=>if x < y then 1 else 0
noncomputable def Sm.val (st:St):Sm->Int
 | .num n=>n| .nam i=>st.names.getD i.ix 0| .cell s=>st.cells.getD (s.val st % 4).toNat 0| .two o s t=>BT.two o (s.val st) (t.val st)
theorem uN {xs:List Int} (h:∀ x∈xs,Wth x) (i:Nat):Wth (xs.getD i 0):=by
 rw[To];cases e:xs[i]? with
 | none=>exact ⟨by decide,by decide⟩| some x=>exact h x (RC e)
theorem MA (o:Op):Wth (BT.two o x y):=by cases o<;>simp only[BT.two,Wth];lia;lia;lia;split<;>decide
theorem Sm.o9 {st:St} (ho:st.ok):∀ {s:Sm},s.ok->Wth (s.val st)
 | .num _,h=>h| .nam i,_=>uN ho.nw _| .cell _,_=>uN ho.cw _| .two _ _ _,_=>MA _
section
theorem yy (P:Prg T G) (k:Nat) (s:Sm) (h:HH):runN T G (k+1) "inner_sums" [.p s.enc] h=XX (.p (.tup (s.subs.map Sm.enc)),h):=by
 rw[run_eq P.inner_sums rfl];cases s with
 | two o s t =>
  have g:=P.INNER;have q:dH (RG o.w) [("num",.int 0),("name",.int 0),("cell",.int 1),("add",.int 2),("sub",.int 2),("mul",.int 2),("less",.int 2)]=XX (.int 2):=by cases o<;>simp[Op.w]
  generalize ([("num",.int 0),("name",.int 0),("cell",.int 1),("add",.int 2),("sub",.int 2),("mul",.int 2),("less",.int 2)]:List (ZZ×D))=I at *;simp[cz,g,q,Sm.enc,Sm.subs,aj]
 | _=>simp[cz,P.INNER,Sm.enc,Sm.subs,aj]
theorem uO (P:Prg T G) (k:Nat) (o:Op) (hx:Wth x) (h:HH) :
 runN T G (k+1) "of_two" [.p (.str o.w),.p (.int x),.p (.int y)] h=XX (.p (.int (two o x y)),h):=by
 rw[run_eq P.of_two rfl];have b:big x=XZ:=by unfold big;exact decide_eq_true (by have h1:=hx.1;have h2:=hx.2;lia)
 cases o<;>simp[ji,P.WORTH_COUNT,aj,Op.w,two,b]
 by_cases c:x < y<;>simp[c,aj]
noncomputable def oq:List D:=[.str "a",.str "b",.str "c",.str "d",.str "e",.str "f"]
theorem EM (x:Nm):cL .mem (.str x.w) (.tup oq)=XX XZ:=by cases x<;>simp[oq,Nm.w]
theorem Bl (x:Nm):meD .tindex (.tup oq) [.str x.w]=XX (.int (x.ix:Int)):=by rw[zC];cases x<;>simp[oq,Nm.w,Nm.ix,gi]
theorem sG {i:Nat} (h:i < xs.length):az (.tup (af xs)) (.int (i:Int))=XX (.int (xs.getD i 0)):=by show atP _ _=_;unfold atP place af;rw[if_pos (Int.natCast_nonneg _),if_pos (by rw[RN];lia)];show (xs.map D.int)[((i:Int)).toNat]?=_;rw[Int.toNat_natCast,RY,To,Ru h];rfl
theorem pq (st:St):az st.enc (.int 1)=XX (.tup (af st.names)):=rfl
theorem yz (st:St):az st.enc (.int 2)=XX (.tup (af st.cells)):=rfl
theorem sH (P:Prg T G) (k:Nat) (x:Nm) (h:HH):runN T G (k+1) "is_name" [.p (.str x.w)] h=XX (.p (.bl XZ),h):=by rw[run_eq P.is_name rfl];have g:G "LETTERS"=XX (.p (.tup oq)):=P.LETTERS;have m:=EM x;generalize oq=L at *;simp[-bP,gU,g,m,aj]
theorem qu (P:Prg T G) (k:Nat) (st:St) (ho:st.ok) (x:Nm) (h:HH):runN T G (k+2) "worth_in" [.p st.enc,.p (.str x.w)] h=XX (.p (.int (st.names.getD x.ix 0)),h):=by rw[run_eq P.worth_in rfl];have r:=sH P k x;have lx:=x.wj;have i1:=sG (xs:=st.names) (i:=x.ix) (by rw[ho.nlen];exact lx);have i2:=Bl x;have i3:=pq st;have g:G "LETTERS"=XX (.p (.tup oq)):=P.LETTERS;generalize oq=L at *;generalize st.enc=se at *;generalize af st.names=sn at *;simp[-br,fV,r,P.NAMES,g,i1,i2,i3,aj]
theorem iR (P:Prg T G) (k:Nat) (st:St) (ho:st.ok) (n:Nat) (h:HH) :
 (∀ i,runN T G (k+3) "worth_of" [.p (Sm.num i).enc,.r n,.p st.enc] h=XX (.p (.int i),h)) ∧
 (∀ i,runN T G (k+3) "worth_of" [.p (Sm.nam i).enc,.r n,.p st.enc] h=XX (.p (.int (st.names.getD i.ix 0)),h)):=by
 refine ⟨λi=>?_,λi=>?_⟩<;>rw[run_eq P.worth_of rfl];simp[bY,Sm.enc,aj]
 ·have r:=qu P k st ho i;simp[bY,Sm.enc,aj,r]
theorem nB (P:Prg T G) (k:Nat) (st:St) (ho:st.ok) (n:Nat) (h:HH) (s:Sm) (ws:List D) (v:Int) (e:lat h n=XX (ws++[.int v])) (hv:0<=v) :
 runN T G (k+1) "worth_of" [.p (Sm.cell s).enc,.r n,.p st.enc] h=XX (.p (.int (st.cells.getD (v % 4).toNat 0)),h.set n (.l ws)):=by
 rw[run_eq P.worth_of rfl];have c:(((v % 4).toNat:Nat):Int)=v % 4:=by lia
 have i1:=sG (xs:=st.cells) (i:=(v % 4).toNat) (by rw[ho.clen];lia);rw[c] at i1;have i3:=yz st;generalize st.enc=se at *;generalize af st.cells=sn at *;generalize st.cells.getD (v % 4).toNat 0=z at *;simp[bY,Sm.enc,P.CELLS,P.CELL_COUNT,e,i1,i3,wg]
theorem Op.other (o:Op):¬ o.w="num"/\¬ o.w="name"/\¬ o.w="cell":=by cases o<;>decide
theorem oz (P:Prg T G) (k:Nat) (st:St) (n:Nat) (h:HH) (o:Op) (s t:Sm) (ws:List D) (x y:Int) (hx:Wth x) (e:lat h n=XX (ws++[.int x,.int y])) :
 runN T G (k+2) "worth_of" [.p (Sm.two o s t).enc,.r n,.p st.enc] h=XX (.p (.int (two o x y)),h.set n (.l ws)):=by
 rw[run_eq P.worth_of rfl];have e3:lat (h.set n (.l (ws++[.int x]))) n=XX (ws++[.int x]):=EL e _;have e1:(ws++[D.int x,D.int y]).getLast?=XX (.int y):=by simp
 have e2:(ws++[D.int x,D.int y]).dropLast=ws++[.int x]:=by simp
 have r:=λhh=>uO P k o (x:=x) (y:=y) hx hh;obtain ⟨n1,n2,n3⟩:=o.other;have en:(Sm.two o s t).enc=.tup [.str o.w,s.enc,t.enc]:=rfl;rw[en];generalize o.w=ow at *;generalize s.enc=se at *;generalize t.enc=te at *;simp[bY,e,e1,e2,e3,n1,n2,n3,r,wg,W8]
noncomputable def loC:E:=.cmp .gt (.bi .len X0 (Z9 (.var 2))) (.cst (.int 0))
noncomputable def loB:S:=.seq (.set 3 (.me .pop (.var 2) .nil)) (.seq (.ex (.me .append (.var 1) (Z9 (.var 3)))) (.ex (.me .extend (.var 2) (Z9 (.call "inner_sums" (Z9 (.var 3)))))))
noncomputable def sizes (l:List Sm):Nat:=(l.map Sm.size).sum
theorem uP (s:Sm) (l:List Sm):sizes (s.subs.reverse++l)+1=sizes (s::l):=by cases s<;>simp[sizes,Sm.subs,Sm.size]<;>lia
theorem Bm (s:Sm) (l:List Sm):(s::l).flatMap Sm.lay=s::(s.subs.reverse++l).flatMap Sm.lay:=by cases s<;>simp[Sm.lay,Sm.subs,List.flatMap_cons]
theorem EN (s:Sm):s.subs.length<=2:=by cases s<;>simp[Sm.subs]
theorem pA (l:List Sm):l.length<=sizes l:=by
 induction l with
 | nil=>simp[sizes]
 | cons s l ih =>
  have h1:=s.size_pos;simp only[sizes,RZ,WM,R6] at ih ⊢;lia
theorem EO (P:Prg T G) (k:Nat) (h:HH) (t0:W):∀ (m:Nat) (stk:List Sm) (ps:List D) (x:Option W),sizes stk<=m->ps.length+sizes stk<=50000 →
 ∃ x',aQ (ev (runN T G (k+1)) G loC) (evS (runN T G (k+1)) G loB) (m+1) [XX t0,XX (.r h.length),XX (.r (h.length+1)),x] (h++[.l ps,.l (stk.reverse.map Sm.enc)]) =
  XX (.nx [XX t0,XX (.r h.length),XX (.r (h.length+1)),x'] (h++[.l (ps++(stk.flatMap Sm.lay).map Sm.enc),.l []])):=by
 intro m
 induction m with
 | zero =>
  intro stk ps x hs _;have:stk=[]:=by have:=pA stk;exact Wh (by lia)
  subst this;exact ⟨x,by simp[aQ,loC,rd]⟩
 | succ m ih =>
  intro stk ps x hs hl;cases stk with
  | nil=>exact ⟨x,by simp[aQ,loC,rd]⟩
  | cons s l =>
   have e:=uP s l;obtain ⟨x',q⟩:=ih (s.subs.reverse++l) (ps++[s.enc]) (XX (.p s.enc)) (by lia) (by simp only[RI,Sv];lia);refine ⟨x',?_⟩;have r:=yy P k s;have l1:l.length+s.subs.length<=100000:=by
    have h1:=EN s;have h2:=pA l;have h3:sizes (s::l)=s.size+sizes l:=by simp[sizes]
    lia
   have c1:(0:Int) < (l.length:Int)+1:=by lia
   have l2:ps.length < 100000:=by lia
   have hc:ev (runN T G (k+1)) G loC [XX t0,XX (.r h.length),XX (.r (h.length+1)),x] (h++[.l ps,.l ((s::l).reverse.map Sm.enc)])=XX (.p (.bl XZ),h++[.l ps,.l ((s::l).reverse.map Sm.enc)]):=by simp[loC,rd,c1]
   have hb:evS (runN T G (k+1)) G loB [XX t0,XX (.r h.length),XX (.r (h.length+1)),x] (h++[.l ps,.l ((s::l).reverse.map Sm.enc)]) =
    XX (.nx [XX t0,XX (.r h.length),XX (.r (h.length+1)),XX (.p s.enc)] (h++[.l (ps++[s.enc]),.l ((s.subs.reverse++l).reverse.map Sm.enc)])):=by
    simp[loB,r,l1,l2]
   rw[aQ,hc,cu,gK,hb,aX,q,Bm,RZ,SW,Tv]
theorem nC:fU=⟨["term"],["term","parts","waiting","part"],.seq (.set 1 (.lst XZ .nil))
 (.seq (.set 2 (.lst XZ (.cons (.var 0) .nil))) (.seq (.whl loC loB) (.ret (.var 1))))⟩:=rfl
theorem qv (P:Prg T G) (k:Nat) (s:Sm) (hs:s.size<=40000) (h:HH):runN T G (k+2) "laid_out" [.p s.enc] h=XX (.p (.lst (s.lay.map Sm.enc)),h):=by rw[run_eq P.laid_out rfl];obtain ⟨x',q⟩:=EO P k h (.p s.enc) 99999 [s] [] XY (by simp only[sizes,RZ,Um,WM,List.sum_nil];lia) (by simp only[sizes,RZ,Um,WM,List.sum_nil,SY];lia);simp only[List.flatMap_cons,List.flatMap_nil,R8,TL,Vk,RZ,Um] at q;rw[nC];simp[turns,q,Bk]
noncomputable def rkB:S:=.ex (.me .append (.var 2) (Z9 (.call "worth_of" (Z7 (.var 3) (.var 2) (.var 1)))))
theorem ER (P:Prg T G) (k:Nat) (h:HH) (t0:W) (st:St) (ho:st.ok):∀ (s:Sm),s.ok->∀ (ws:List D) (rest:List D) (x:Option W),ws.length+s.size<=50000 →
 ∃ x',aR (evS (runN T G (k+3)) G rkB) [(3,"part")] ((s.lay.map Sm.enc).reverse++rest) [XX t0,XX (.p st.enc),XX (.r h.length),x] (h++[.l ws]) =
  aR (evS (runN T G (k+3)) G rkB) [(3,"part")] rest [XX t0,XX (.p st.enc),XX (.r h.length),x'] (h++[.l (ws++[.int (s.val st)])]):=by
 intro s
 induction s with
 | num n =>
  intro _ ws rest x hl;refine ⟨XX (.p (Sm.num n).enc),?_⟩;have r:=(iR P k st ho h.length (h++[.l ws])).1 n;have l:ws.length < 100000:=by simp only[Sm.size] at hl;lia
  have hb:evS (runN T G (k+3)) G rkB [XX t0,XX (.p st.enc),XX (.r h.length),XX (.p (Sm.num n).enc)] (h++[.l ws]) =
   XX (.nx [XX t0,XX (.p st.enc),XX (.r h.length),XX (.p (Sm.num n).enc)] (h++[.l (ws++[.int n])])):=by
   simp[rkB,r,l]
  simp only[Sm.lay,RZ,Um,Vk,Tv,Sm.val];simp[hb]
 | nam i =>
  intro _ ws rest x hl;refine ⟨XX (.p (Sm.nam i).enc),?_⟩;have r:=(iR P k st ho h.length (h++[.l ws])).2 i;have l:ws.length < 100000:=by simp only[Sm.size] at hl;lia
  have hb:evS (runN T G (k+3)) G rkB [XX t0,XX (.p st.enc),XX (.r h.length),XX (.p (Sm.nam i).enc)] (h++[.l ws]) =
   XX (.nx [XX t0,XX (.p st.enc),XX (.r h.length),XX (.p (Sm.nam i).enc)] (h++[.l (ws++[.int (st.names.getD i.ix 0)])])):=by
   simp[rkB,r,l]
  simp only[Sm.lay,RZ,Um,Vk,Tv,Sm.val];simp[hb]
 | cell s ih =>
  intro hok ws rest x hl;obtain ⟨x1,e1⟩:=ih hok ws ((Sm.cell s).enc::rest) x (by simp only[Sm.size] at hl;lia);refine ⟨XX (.p (Sm.cell s).enc),?_⟩;have r:=nB P (k+2) st ho h.length (h++[.l (ws++[.int (s.val st)])]) s ws (s.val st) (by simp) (Sm.o9 (s:=s) ho hok).1;have l:ws.length < 100000:=by simp only[Sm.size] at hl;lia
  have hb:evS (runN T G (k+3)) G rkB [XX t0,XX (.p st.enc),XX (.r h.length),XX (.p (Sm.cell s).enc)] (h++[.l (ws++[.int (s.val st)])]) =
   XX (.nx [XX t0,XX (.p st.enc),XX (.r h.length),XX (.p (Sm.cell s).enc)] (h++[.l (ws++[.int ((Sm.cell s).val st)])])):=by
   simp[rkB,r,l,Sm.val]
  simp only[Sm.lay,RZ,U8,SW,Tv];rw[e1];simp[hb]
 | two o s t ihs iht =>
  intro hok ws rest x hl;have hl':=hl;simp only[Sm.size] at hl';obtain ⟨x1,e1⟩:=ihs hok.1 ws ((t.lay.map Sm.enc).reverse++((Sm.two o s t).enc::rest)) x (by lia);obtain ⟨x2,e2⟩:=iht hok.2 (ws++[.int (s.val st)]) ((Sm.two o s t).enc::rest) x1 (by simp only[RI,Sv];have:=s.size_pos;lia);refine ⟨XX (.p (Sm.two o s t).enc),?_⟩;have r:=oz P (k+1) st h.length (h++[.l (ws++[.int (s.val st),.int (t.val st)])]) o s t ws (s.val st) (t.val st) (Sm.o9 ho hok.1) (by simp);have l:ws.length < 100000:=by lia
  have hb:evS (runN T G (k+3)) G rkB [XX t0,XX (.p st.enc),XX (.r h.length),XX (.p (Sm.two o s t).enc)] (h++[.l (ws++[.int (s.val st),.int (t.val st)])]) =
   XX (.nx [XX t0,XX (.p st.enc),XX (.r h.length),XX (.p (Sm.two o s t).enc)] (h++[.l (ws++[.int ((Sm.two o s t).val st)])])):=by
   simp[rkB,r,l,Sm.val]
  simp only[Sm.lay,RZ,Tg,U8,Xp,SW,Tv];rw[e1,e2];simp only[SW,Tv];simp[hb]
theorem nE:fW=⟨["term","state"],["term","state","worths","part"],.seq (.set 2 (.lst XZ .nil))
 (.seq (.for [(3,"part")] .rev (.cons (.call "laid_out" (.cons (.var 0) .nil)) .nil) rkB) (.ret (.idx (.var 2) (.cst (.int 0)))))⟩:=rfl
theorem dj (P:Prg T G) (k:Nat) (s:Sm) (hs:s.size<=40000) (hok:s.ok) (st:St) (ho:st.ok) (h:HH) :
 runN T G (k+4) "reckoned" [.p s.enc,.p st.enc] h=XX (.p (.int (s.val st)),h):=by
 rw[run_eq P.reckoned rfl];obtain ⟨x',q⟩:=ER P k h (.p s.enc) st ho s hok [] [] XY (by simp only[SY];lia);rw[nE];simp only[R8,TL] at q;have r:=qv P (k+1) s hs;simp[r,eU,q,fz,rd]
end
section
variable {T:FK->Option Fn}{F:FK->List W->HH->Option (W×HH)}{G:ZZ->Option W}{i:Nat}{e e' c:E}{a b:S}{s s':Sl}{h g:HH}{w:W}{d d' z:D}
theorem aD (h1:evS F G a s h=XX (.nx s' g)):evS F G (.seq a b) s h=evS F G b s' g:=by simp[h1]
theorem aK (h1:BT.ev F G e s h=XX (w,g)):evS F G (.seq (.set i e) b) s h=evS F G b (s.set i (XX w)) g:=by simp[h1]
theorem dB (h1:BT.ev F G c s h=XX (.p (.bl X0),h)):evS F G (.seq (.ife c a .nil) b) s h=evS F G b s h:=by simp[h1]
theorem gX (h1:BT.ev F G c s h=XX (.p (.bl XZ),h)) (h2:BT.ev F G e s h=XX (w,g)):evS F G (.seq (.ife c (.ret e) .nil) b) s h=XX (.rt w g):=by simp[h1,h2]
theorem kX (h2:BT.ev F G e s h=XX (w,g)):evS F G (.ret e) s h=XX (.rt w g):=by simp[h2]
theorem jJ (hT:T f=XX fn) (hl:ws.length=fn.ps.length) (h1:evS (runN T G k) G fn.body (aY fn.ns.length ws) h=XX (.rt (.p d) h)):runN T G (k+1) f ws h=XX (.p d,h):=by rw[run_eq hT hl,h1];exact aj h (.p d)
theorem Bo (h1:BT.ev F G e s h=XX (.p d,g)) (h2:BT.ev F G e' s g=XX (.p d',g)) (h3:az d d'=XX z):BT.ev F G (.idx e e') s h=XX (.p z,g):=by simp[h1,h2,h3]
theorem Bp (h1:BT.ev F G e s h=XX (.p d,h)) (h2:BT.ev F G e' s h=XX (.p d',h)) (h3:gJ o d d'=XX z):BT.ev F G (.bin o e e') s h=XX (.p z,h):=by simp[h1,h2,h3]
theorem fB (h1:BT.ev F G e s h=XX (.p d,h)) (h2:BT.ev F G e' s h=XX (.p d',g)) (h3:cL o d d'=XX t):BT.ev F G (.cmp o e e') s h=XX (.p (.bl t),g):=by simp[h1,h2,h3]
theorem qw (h1:BT.ev F G e s h=XX (.p d,h)) (h2:BT.ev F G e' s h=XX (.p d',h)):BT.ev F G (.tup (.cons e (.cons e' .nil))) s h=XX (.p (.tup [d,d']),h):=by simp[h1,h2]
theorem uQ (h1:BT.ev F G e s h=XX (.p (.bl X0),h)):BT.ev F G (.or e e') s h=BT.ev F G e' s h:=by simp[h1]
theorem MB (h1:BT.ev F G e s h=XX (.p (.bl XZ),h)):BT.ev F G (.or e e') s h=XX (.p (.bl XZ),h):=by simp[h1]
theorem wo (h1:BT.ev F G e s h=XX (.p (.bl X0),h)):BT.ev F G (.and e e') s h=XX (.p (.bl X0),h):=by simp[h1]
theorem Bq (h1:BT.ev F G e s h=XX (.p (.bl XZ),h)):BT.ev F G (.and e e') s h=BT.ev F G e' s h:=by simp[h1]
end
section
theorem cH (xs:List α) (i:Nat):atP xs (i:Int)=xs[i]?:=by
 unfold atP place
 by_cases h:i < xs.length
 ·have h1:((i:Int) < (xs.length:Int)):=by lia
  simp[h1,h]
 ·have h1:¬ ((i:Int) < (xs.length:Int)):=by lia
  simp[h1];lia
theorem iS (P:Prg T G) (k:Nat) (xs:List D) (i:Nat) (hi:i < xs.length) (hl:xs.length<=1000) (d:D) (h:HH) :
 runN T G (k+1) "with_worth" [.p (.tup xs),.p (.int i),.p d] h=XX (.p (.tup (xs.set i d)),h):=by
 rw[run_eq P.with_worth rfl];have a1:¬ ((i:Int) < 0):=by lia
 have a2:(i:Int)<=(xs.length:Int):=by lia
 have a3:¬ ((i:Int)+1 < 0):=by lia
 have a4:(i:Int)+1<=(xs.length:Int):=by lia
 have a5:((i:Int)+1).toNat=i+1:=by lia
 have a6:xs.length - (i+1)+(i+1)<=100000:=by lia
 have a7:i+1+(xs.length - (i+1))<=100000:=by lia
 have a8:min i xs.length=i:=by lia
 have a9:i+1<=100000:=by lia
 have e:xs.take i++d::xs.drop (i+1)=xs.set i d:=by rw[List.set_eq_take_append_cons_drop,if_pos hi]
 have b1:(xs.take i).length=i:=by simp;lia
 have b2:(xs.drop (i+1)).length=xs.length - (i+1):=by simp
 have b3:((xs.drop (i+1)).take (xs.length - (i+1)))=xs.drop (i+1):=by apply List.take_of_length_le;simp
 simp[dW,a1,a2,a3,a4,a5,a7,a8,a9,b3,e,aj]
@[simp] theorem Q0 (st:St):az st.enc (.int 0)=XX (.int st.row):=rfl
@[simp] theorem Q2 (st:St):az st.enc (.int 1)=XX (.tup (af st.names)):=rfl
@[simp] theorem Q3 (st:St):az st.enc (.int 2)=XX (.tup (af st.cells)):=rfl
@[simp] theorem Q4 (st:St):az st.enc (.int 3)=XX (.tup (ah st.calls)):=rfl
@[simp] theorem Q5 (st:St):az st.enc (.int 4)=XX (.int st.asked):=rfl
@[simp] theorem Q6 (st:St):az st.enc (.int 5)=XX (.tup (af st.said)):=rfl
inductive Rw where
 | set (x:Nm) (s:Sm)|put (s t:Sm)|ask (x:Nm)|say (s:Sm)|jump (p:Nat)|unless (s:Sm) (p:Nat)|call (p:Nat)|back|stop
noncomputable def Rw.enc:Rw->D
 | .set x s=>.tup [.str "set",.str x.w,s.enc]| .put s t=>.tup [.str "put",s.enc,t.enc]| .ask x=>.tup [.str "ask",.str x.w]| .say s=>.tup [.str "say",s.enc]| .jump p=>.tup [.str "jump",.int p]| .unless s p=>.tup [.str "unless",s.enc,.int p]| .call p=>.tup [.str "call",.int p]| .back=>.tup [.str "back"]| .stop=>.tup [.str "stop"]
def nF (s:Sm):Prop:=s.ok/\s.size<=15
noncomputable def Rw.ok (n:Nat):Rw->Prop
 | .set _ s=>nF s| .put s t=>nF s/\nF t| .ask _=>True| .say s=>nF s| .jump p=>p<=n| .unless s p=>nF s/\p<=n| .call p=>p<=n| .back=>True| .stop=>True
noncomputable abbrev Pg:=List Rw
noncomputable def bw (p:Pg):D:=.tup (p.map Rw.enc)
def Pg.ok (p:Pg):Prop:=∀ r∈p,r.ok p.length
noncomputable def Rw.next (asked:List Int) (st:St):Rw->St
 | .set x s=>{ st with row:=st.row+1,names:=st.names.set x.ix (s.val st) }| .put s t=>{ st with row:=st.row+1,cells:=st.cells.set (s.val st % 4).toNat (t.val st) }| .ask x=>{ st with row:=st.row+1,names:=st.names.set x.ix (asked.getD st.asked 0),asked:=st.asked+1 }| .say s=>{ st with row:=st.row+1,said:=st.said++[s.val st] }| .jump p=>{ st with row:=p }| .unless s p=>{ st with row:=if s.val st=0 then p else st.row+1 }| .call p=>{ st with row:=p,calls:=st.calls++[st.row+1] }| .back=>{ st with row:=st.calls.getLast?.getD 0,calls:=st.calls.dropLast }| .stop=>st
noncomputable def Rw.over (st:St):Rw->Bool
 | .back=>st.calls.length==0| .call _=>decide (6<=st.calls.length)| .stop=>XZ| _=>X0
noncomputable def over (p:Pg) (st:St):Bool:=match p[st.row]? with
 | some r=>r.over st| none=>XZ
noncomputable def step (p:Pg) (asked:List Int) (st:St):St:=match p[st.row]? with
 | some r=>r.next asked st
 | none=>st
noncomputable def St.zero:St:=⟨0,[0,0,0,0,0,0],[0,0,0,0],[],0,[]⟩
theorem ES:St.zero.ok:=⟨rfl,rfl,by simp[St.zero,Wth],by simp[St.zero,Wth]⟩
noncomputable def sts (p:Pg) (asked:List Int):Nat->St->List St
 | 0,st=>[st]
 | n+1,st=>if over p st then [st] else st::sts p asked n (step p asked st)
theorem yC (P:Prg T G) (k:Nat) (h:HH):runN T G (k+1) "begun" [] h=XX (.p St.zero.enc,h):=by rw[run_eq P.begun rfl];simp[kB,P.LETTERS,P.CELL_COUNT,aj,St.zero,St.enc,af,ah,rep,RO,List.flatten]
theorem sI (P:Prg T G) (k:Nat) (asked:List Int) (n:Nat) (h:HH):runN T G (k+1) "brought" [.p (.lst (af asked)),.p (.int n)] h=XX (.p (.int (asked.getD n 0)),h):=by
 rw[run_eq P.brought rfl]
 by_cases c:n < asked.length
 ·have c1:(n:Int) < (asked.length:Int):=by lia
  simp[fy,af,c,c1,aj]
 ·have c1:¬ (n:Int) < (asked.length:Int):=by lia
  have e:asked[n]?=XY:=Rz (by lia);simp[fy,af,c1,aj,e]
theorem jq (P:Prg T G) (k:Nat) (st:St) (ho:st.ok) (x:Nm) (d:Int) (h:HH) :
 runN T G (k+2) "with_name" [.p st.enc,.p (.str x.w),.p (.int d)] h=XX (.p (.tup (af (st.names.set x.ix d))),h):=by
 rw[run_eq P.with_name rfl];have r:=λi=>iS P k (af st.names) i;have l:(af st.names).length=6:=by simp[af,ho.nlen]
 have e:(af st.names).set x.ix (.int d)=af (st.names.set x.ix d):=by simp[af,List.map_set]
 have q:=r x.ix (by rw[l];exact x.wj) (by lia) (.int d);rw[e] at q;have g:G "LETTERS"=XX (.p (.tup oq)):=P.LETTERS;have i2:=Bl x;have i3:=pq st;generalize oq=L at *;generalize st.enc=se at *;generalize hz:(x.ix:Int)=z at *;simp[eV,P.NAMES,g,i2,i3,aj,q]
theorem sJ (P:Prg T G) (k:Nat) (s:Sm) (hs:nF s) (st:St) (ho:st.ok) (h:HH):runN T G (k+5) "cell_by" [.p s.enc,.p st.enc] h=XX (.p (.int (s.val st % 4)),h):=by rw[run_eq P.cell_by rfl];have q:=dj P k s (by have:=hs.2;lia) hs.1 st ho;simp[gV,q,P.CELL_COUNT,aj]
noncomputable def Rw.word:Rw->String
 | .set _ _=>"set" | .put _ _=>"put" | .ask _=>"ask" | .say _=>"say" | .jump _=>"jump" | .unless _ _=>"unless" | .call _=>"call" | .back=>"back" | .stop=>"stop"
theorem Rw.qx (r:Rw):az r.enc (.int 0)=XX (.str r.word):=by cases r<;>rfl
noncomputable def plT:S:=(.seq (.ife (.or (.cmp .eq (.var 2) (.cst (.str "jump"))) (.cmp .eq (.var 2) (.cst (.str "call")))) (.ret (.idx (.var 0) (.cst (.int 1)))) .nil) (.seq (.ife (.cmp .eq (.var 2) (.cst (.str "back"))) (.ret (.idx (.idx (.var 1) (.glo "CALLS")) (.neg (.cst (.int 1))))) .nil) (.seq (.ife (.and (.cmp .eq (.var 2) (.cst (.str "unless"))) (.cmp .eq (.call "reckoned" (Z8 (.idx (.var 0) (.cst (.int 1))) (.var 1))) (.cst (.int 0)))) (.ret (.idx (.var 0) (.cst (.int 2)))) .nil) (.ret (.bin .add (.idx (.var 1) (.glo "ROW")) (.cst (.int 1)))))))
theorem sL:cG=⟨["row","state"],["row","state","word"],
 (.seq (.set 2 (.idx (.var 0) (.cst (.int 0)))) plT)⟩:=rfl
theorem ET (P:Prg T G) (F:FK->List W->HH->Option (W×HH)) (w0:W) (st:St) (h:HH) (v:String) (n1:¬ v="jump") (n2:¬ v="call") (n3:¬ v="back") (n4:¬ v="unless"):evS F G plT [XX w0,XX (.p st.enc),XX (.p (.str v))] h=XX (.rt (.p (.int ((st.row:Int)+1))) h):=by have i0:az st.enc (.int 0)=XX (.int (st.row:Int)):=rfl;generalize st.enc=se at *;simp[plT,n1,n2,n3,n4,P.ROW,i0]
theorem GG (F:FK->List W->HH->Option (W×HH)) (d:D) (w1:W) (h:HH) (v:String) (q:Int) (hv:v="jump"\/v="call") (i1:az d (.int 1)=XX (.int q)):evS F G plT [XX (.p d),XX w1,XX (.p (.str v))] h=XX (.rt (.p (.int q)) h):=by rcases hv with rfl|rfl<;>simp[plT,i1]
theorem yD (P:Prg T G) (k:Nat) (n:Nat) (r:Rw) (hr:r.ok n) (st:St) (ho:st.ok) (asked:List Int) (hb:r.over st=X0) (h:HH) :
 runN T G (k+5) "place_behind" [.p r.enc,.p st.enc] h=XX (.p (.int (r.next asked st).row),h):=by
 have wa:=r.qx;have pre:runN T G (k+5) "place_behind" [.p r.enc,.p st.enc] h=jz (evS (runN T G (k+4)) G plT [XX (.p r.enc),XX (.p st.enc),XX (.p (.str r.word))] h) (fin h):=by rw[run_eq P.place_behind rfl,sL];generalize r.enc=re at *;simp[wa]
 have ot:∀ q:Int,jz (XX (.rt (.p (.int q)) h)) (fin h)=XX (.p (.int q),h):=λq=>by simp[aj]
 rw[pre];cases r with
 | «unless» s p =>
  have q:=dj P k s (by have:=hr.1.2;lia) hr.1.1 st ho;have i1:az (Rw.unless s p).enc (.int 1)=XX s.enc:=rfl;have i2:az (Rw.unless s p).enc (.int 2)=XX (.int (p:Int)):=rfl;have i0:az st.enc (.int 0)=XX (.int (st.row:Int)):=rfl;generalize (Rw.unless s p).enc=re at *;generalize st.enc=se at *;generalize s.enc=sn at *
  by_cases c:s.val st=0<;>simp[plT,Rw.word,Rw.next,q,c,i0,i1,i2,aj,P.ROW]
 | back =>
  have c:st.calls≠[]:=by intro e;simp[Rw.over,e] at hb
  have:∃ l x,st.calls=l++[x]:=⟨st.calls.dropLast,st.calls.getLast c,(UN c).symm⟩;obtain ⟨l,x,e⟩:=this;have i3:az st.enc (.int 3)=XX (.tup (ah st.calls)):=rfl;have ix:az (.tup (ah st.calls)) (.int (-1))=XX (.int (x:Int)):=by
   have e2:-((l.length:Int)+1)<=-1:=by lia
   have e3:(-1+((l.length:Int)+1)).toNat=l.length:=by lia
   simp[ah,e,e2,e3]
  have nx:((Rw.back).next asked st).row=x:=by simp[Rw.next,e]
  rw[nx];generalize st.enc=se at *;generalize ah st.calls=nl at *;simp[-br,plT,Rw.word,P.CALLS,i3,ix,aj]
 | stop=>simp[Rw.over] at hb| jump p=>rw[Rw.word,GG _ _ _ _ _ (p:Int) (.inl rfl) rfl,ot];rfl| call p=>rw[Rw.word,GG _ _ _ _ _ (p:Int) (.inr rfl) rfl,ot];rfl| _=>rw[Rw.word,ET P _ _ _ _ _ (by decide) (by decide) (by decide) (by decide),ot];rfl
noncomputable def ovT:S:=(.seq (.ife (.cmp .eq (.var 2) (.cst (.str "back"))) (.ret (.cmp .eq (.bi .len X0 (Z9 (.idx (.var 1) (.glo "CALLS")))) (.cst (.int 0)))) .nil) (.seq (.ife (.cmp .eq (.var 2) (.cst (.str "call"))) (.ret (.cmp .ge (.bi .len X0 (Z9 (.idx (.var 1) (.glo "CALLS")))) (.glo "MOST_CALLS"))) .nil) (.ret (.cmp .eq (.var 2) (.cst (.str "stop"))))))
theorem oA:fu=⟨["program","state"],["program","state","word"],
 (.seq (.ife (.cmp .ge (.idx (.var 1) (.glo "ROW")) (.bi .len X0 (.cons (.var 0) .nil))) (.ret (.cst (.bl XZ))) .nil)
 (.seq (.set 2 (.idx (.idx (.var 0) (.idx (.var 1) (.glo "ROW"))) (.cst (.int 0))))
 ovT))⟩:=rfl
theorem EU (F:FK->List W->HH->Option (W×HH)) (w0 w1:W) (h:HH) (v:String) (n1:¬ v="back") (n2:¬ v="call"):evS F G ovT [XX w0,XX w1,XX (.p (.str v))] h=XX (.rt (.p (.bl (decide (v="stop")))) h):=by
 by_cases c:v="stop"
 ·subst c;simp[ovT]
 ·skip
  simp[ovT,n1,n2,c]
theorem sM (P:Prg T G) (k:Nat) (p:Pg) (st:St) (h:HH):runN T G (k+1) "is_over" [.p (bw p),.p st.enc] h=XX (.p (.bl (over p st)),h):=by
 have lp:biD .len [bw p]=XX (.int p.length):=by simp[bw]
 by_cases c:st.row < p.length
 ·have c1:¬ (p.length:Int)<=(st.row:Int):=by lia
  have c2:(st.row:Int) < (p.length:Int):=by lia
  have e:p[st.row]?=XX p[st.row]:=Ru c;have row:az (bw p) (.int st.row)=XX (p[st.row]).enc:=by simp[bw,c2,e]
  have ov:over p st=(p[st.row]).over st:=by rw[over,e]
  rw[ov];generalize p[st.row]=r at row ⊢;have wa:=r.qx;have pre:runN T G (k+1) "is_over" [.p (bw p),.p st.enc] h=jz (evS (runN T G k) G ovT [XX (.p (bw p)),XX (.p st.enc),XX (.p (.str r.word))] h) (fin h):=by rw[run_eq P.is_over rfl,oA];generalize r.enc=re at row wa;simp[lp,row,wa,P.ROW,c1]
  rw[pre];have ln:biD .len [.tup (ah st.calls)]=XX (.int (st.calls.length:Int)):=by simp[ah]
  have i3:az st.enc (.int 3)=XX (.tup (ah st.calls)):=rfl;cases r with
  | back =>
   have ee:(((st.calls.length:Nat):Int)==0)=(st.calls.length==0):=by
    cases st.calls with
    | nil=>rfl| cons a l=>rw[beq_eq_false_iff_ne.mpr (by simp only[R6];lia)];rfl
   simp[-ja,ovT,Rw.word,P.CALLS,i3,ln,ee,aj,Rw.over]
  | call q =>
   have ee:decide ((6:Int)<=(st.calls.length:Int))=decide (6<=st.calls.length):=decide_eq_decide.mpr (by lia);simp[-ja,ovT,Rw.word,P.CALLS,P.MOST_CALLS,i3,ln,ee,aj,Rw.over]
  | _ =>
   rw[Rw.word,EU _ _ _ _ _ (by decide) (by decide)];simp[aj,Rw.over]
 ·have c1:(p.length:Int)<=(st.row:Int):=by lia
  have e:p[st.row]?=XY:=Rz (by lia);rw[run_eq P.is_over rfl];simp[fu,lp,P.ROW,c1,aj,over,e]
theorem ints_set (xs:List Int) (i:Nat) (v:Int):(af xs).set i (.int v)=af (xs.set i v):=by simp[af,List.map_set]
theorem bR (xs:List Int):(af xs).length=xs.length:=by simp[af]
theorem ints_snoc (xs:List Int) (v:Int):af xs++[.int v]=af (xs++[v]):=by simp[af]
theorem pB (xs:List Nat) (v:Nat):ah xs++[.int (v:Int)]=ah (xs++[v]):=by simp[ah]
theorem sN (xs:List Nat):cut (ah xs) XY (XX (-1))=ah xs.dropLast:=by
 have e:(-1+(xs.length:Int)).toNat=xs.length - 1:=by lia
 simp[cut,clip,ah,e,List.dropLast_eq_take]
structure St.small (st:St):Prop where
 sl:st.said.length<=5000
 cl:st.calls.length<=5000
noncomputable def encL (st:St):List D:=[.int st.row,.tup (af st.names),.tup (af st.cells),.tup (ah st.calls),.int st.asked,.tup (af st.said)]
theorem Br (st:St):biD .list [st.enc]=XX (.lst (encL st)):=rfl
noncomputable def Jl:S:=(.put 5 (.glo "CALLS") (.slc (.idx (.var 2) (.glo "CALLS")) .nil (Z9 (.neg (.cst (.int 1))))))
noncomputable def Jm:S:=(.ife (.cmp .eq (.var 4) (.cst (.str "back"))) Jl .nil)
noncomputable def Jo:S:=(.put 5 (.glo "CALLS") (.bin .add (.idx (.var 2) (.glo "CALLS")) (.tup (Z9 (.bin .add (.idx (.var 2) (.glo "ROW")) (.cst (.int 1)))))))
noncomputable def EV:S:=(.ife (.cmp .eq (.var 4) (.cst (.str "call"))) Jo Jm)
noncomputable def Jp:S:=(.put 5 (.glo "SAID") (.bin .add (.idx (.var 2) (.glo "SAID")) (.tup (Z9 (.call "reckoned" (Z8 (.idx (.var 3) (.cst (.int 1))) (.var 2)))))))
noncomputable def Bs:S:=(.ife (.cmp .eq (.var 4) (.cst (.str "say"))) Jp EV)
noncomputable def Jq:S:=(.seq (.put 5 (.glo "NAMES") (.call "with_name" (Z7 (.var 2) (.idx (.var 3) (.cst (.int 1))) (.call "brought" (Z8 (.var 1) (.idx (.var 2) (.glo "ASKED"))))))) (.put 5 (.glo "ASKED") (.bin .add (.idx (.var 2) (.glo "ASKED")) (.cst (.int 1)))))
noncomputable def yE:S:=(.ife (.cmp .eq (.var 4) (.cst (.str "ask"))) Jq Bs)
noncomputable def Jr:S:=(.put 5 (.glo "CELLS") (.call "with_worth" (Z7 (.idx (.var 2) (.glo "CELLS")) (.call "cell_by" (Z8 (.idx (.var 3) (.cst (.int 1))) (.var 2))) (.call "reckoned" (Z8 (.idx (.var 3) (.cst (.int 2))) (.var 2))))))
noncomputable def uR:S:=(.ife (.cmp .eq (.var 4) (.cst (.str "put"))) Jr yE)
noncomputable def Js:S:=(.put 5 (.glo "NAMES") (.call "with_name" (Z7 (.var 2) (.idx (.var 3) (.cst (.int 1))) (.call "reckoned" (Z8 (.idx (.var 3) (.cst (.int 2))) (.var 2))))))
noncomputable def jK:S:=(.ife (.cmp .eq (.var 4) (.cst (.str "set"))) Js uR)
noncomputable def Jt:S:=(.seq jK (.ret (.bi .tuple X0 (Z9 (.var 5)))))
theorem oB:gW=⟨["program","asked","state"],["program","asked","state","row","word","behind"],
 (.seq (.set 3 (.idx (.var 0) (.idx (.var 2) (.glo "ROW"))))
 (.seq (.set 4 (.idx (.var 3) (.cst (.int 0))))
 (.seq (.set 5 (.bi .list XZ (.cons (.var 2) .nil)))
 (.seq (.put 5 (.glo "ROW") (.call "place_behind" (.cons (.var 3) (.cons (.var 2) .nil))))
 Jt))))⟩:=rfl
theorem Ju (F:FK->List W->HH->Option (W×HH)) (A B:S) (s:Sl) (h:HH):evS F G (.seq A B) s h=lE (evS F G A s h) (evS F G B):=by rw[evS]
theorem pick (F:FK->List W->HH->Option (W×HH)) (w0 w1 w2 w3:W) (v w:String) (rest:Sl) (h:HH) (A B:S):evS F G (.ife (.cmp .eq (.var 4) (.cst (.str w))) A B) (XX w0::XX w1::XX w2::XX w3::XX (.p (.str v))::rest) h=if v=w then evS F G A (XX w0::XX w1::XX w2::XX w3::XX (.p (.str v))::rest) h else evS F G B (XX w0::XX w1::XX w2::XX w3::XX (.p (.str v))::rest) h:=by
 have e:eqv (.str v) (.str w)=decide (v=w):=by
  by_cases c:v=w
  rw[decide_eq_true c,c];simp
  ·rw[decide_eq_false c];have:¬ RG v=RG w:=λz=>c (by simpa using z);simp[this,c]
 by_cases c:v=w
 ·rw[decide_eq_true c] at e;rw[if_pos c];simp[-eqv,e]
 ·rw[decide_eq_false c] at e;rw[if_neg c];simp[-eqv,e]
theorem to0 (F:FK->List W->HH->Option (W×HH)) (w0 w1 w2 w3:W) (rest:Sl) (h:HH):evS F G jK (XX w0::XX w1::XX w2::XX w3::XX (.p (.str "set"))::rest) h=evS F G Js (XX w0::XX w1::XX w2::XX w3::XX (.p (.str "set"))::rest) h:=by rw[jK,pick,if_pos rfl]
theorem to1 (F:FK->List W->HH->Option (W×HH)) (w0 w1 w2 w3:W) (rest:Sl) (h:HH):evS F G jK (XX w0::XX w1::XX w2::XX w3::XX (.p (.str "put"))::rest) h=evS F G Jr (XX w0::XX w1::XX w2::XX w3::XX (.p (.str "put"))::rest) h:=by rw[jK,pick,if_neg (by decide),uR,pick,if_pos rfl]
theorem to2 (F:FK->List W->HH->Option (W×HH)) (w0 w1 w2 w3:W) (rest:Sl) (h:HH):evS F G jK (XX w0::XX w1::XX w2::XX w3::XX (.p (.str "ask"))::rest) h=evS F G Jq (XX w0::XX w1::XX w2::XX w3::XX (.p (.str "ask"))::rest) h:=by rw[jK,pick,if_neg (by decide),uR,pick,if_neg (by decide),yE,pick,if_pos rfl]
theorem to3 (F:FK->List W->HH->Option (W×HH)) (w0 w1 w2 w3:W) (rest:Sl) (h:HH):evS F G jK (XX w0::XX w1::XX w2::XX w3::XX (.p (.str "say"))::rest) h=evS F G Jp (XX w0::XX w1::XX w2::XX w3::XX (.p (.str "say"))::rest) h:=by rw[jK,pick,if_neg (by decide),uR,pick,if_neg (by decide),yE,pick,if_neg (by decide),Bs,pick,if_pos rfl]
theorem to4 (F:FK->List W->HH->Option (W×HH)) (w0 w1 w2 w3:W) (rest:Sl) (h:HH):evS F G jK (XX w0::XX w1::XX w2::XX w3::XX (.p (.str "call"))::rest) h=evS F G Jo (XX w0::XX w1::XX w2::XX w3::XX (.p (.str "call"))::rest) h:=by rw[jK,pick,if_neg (by decide),uR,pick,if_neg (by decide),yE,pick,if_neg (by decide),Bs,pick,if_neg (by decide),EV,pick,if_pos rfl]
theorem to5 (F:FK->List W->HH->Option (W×HH)) (w0 w1 w2 w3:W) (rest:Sl) (h:HH):evS F G jK (XX w0::XX w1::XX w2::XX w3::XX (.p (.str "back"))::rest) h=evS F G Jl (XX w0::XX w1::XX w2::XX w3::XX (.p (.str "back"))::rest) h:=by rw[jK,pick,if_neg (by decide),uR,pick,if_neg (by decide),yE,pick,if_neg (by decide),Bs,pick,if_neg (by decide),EV,pick,if_neg (by decide),Jm,pick,if_pos rfl]
theorem toN (F:FK->List W->HH->Option (W×HH)) (w0 w1 w2 w3:W) (rest:Sl) (h:HH) (v:String) (hv:v∉["set","put","ask","say","call","back"]):evS F G jK (XX w0::XX w1::XX w2::XX w3::XX (.p (.str v))::rest) h=XX (.nx (XX w0::XX w1::XX w2::XX w3::XX (.p (.str v))::rest) h):=by simp only[SX,SA,or_false,not_or] at hv;obtain ⟨n1,n2,n3,n4,n5,n6⟩:=hv;rw[jK,pick,if_neg n1,uR,pick,if_neg n2,yE,pick,if_neg n3,Bs,pick,if_neg n4,EV,pick,if_neg n5,Jm,pick,if_neg n6];rfl
theorem sO (P:Prg T G) (k:Nat) (p:Pg) (hp:Pg.ok p) (asked:List Int) (st:St) (ho:st.ok) (hs:st.small) (hb:over p st=X0) (h:HH) :
 runN T G (k+6) "stepped" [.p (bw p),.p (.lst (af asked)),.p st.enc] h=XX (.p (step p asked st).enc,h):=by
 have c:st.row < p.length:=by
  rcases RP st.row p.length with q|q
  exact q;rw[over,Rz q] at hb;cases hb
 have e:p[st.row]?=XX p[st.row]:=Ru c;have c2:(st.row:Int) < (p.length:Int):=by lia
 have hr:=hp _ (UI c);have hb':(p[st.row]).over st=X0:=by rw[over,e] at hb;exact hb
 have pl:=yD P k p.length p[st.row] hr st ho asked hb';rw[step,e];have l1:=hs.sl;have l2:=hs.cl
 revert pl hr hb'
 generalize p[st.row]=r at *;intro hr hb' pl;have row:az (bw p) (.int st.row)=XX r.enc:=by simp[bw,c2,e]
 have pre:runN T G (k+6) "stepped" [.p (bw p),.p (.lst (af asked)),.p st.enc] h =
  jz (evS (runN T G (k+5)) G Jt [XX (.p (bw p)),XX (.p (.lst (af asked))),XX (.p st.enc),XX (.p r.enc),XX (.p (.str r.word)),XX (.r h.length)] (h++[.l [.int (r.next asked st).row,.tup (af st.names),.tup (af st.cells),.tup (ah st.calls),.int st.asked,.tup (af st.said)]])) (fin h):=by
  rw[run_eq P.stepped rfl,oB];simp[row,r.qx,P.ROW,Br,encL,pl]
 rw[pre,Jt,Ju];cases r with
 | set x s =>
  have q:=dj P (k+1) s (by have:=hr.2;lia) hr.1 st ho;have w:=jq P (k+3) st ho x (s.val st);simp only[Rw.enc,Rw.next,Rw.word,to0];simp[Js,P.ROW,P.NAMES,q,w,rd,fz,Rw.next];simp[St.enc]
 | put s t =>
  have q:=sJ P k s hr.1 st ho;have q2:=dj P (k+1) t (by have:=hr.2.2;lia) hr.2.1 st ho;have v:=Sm.o9 (s:=s) ho hr.1.1;have hi:(s.val st % 4).toNat < (af st.cells).length:=by rw[bR,ho.clen];lia
  have w:=iS P (k+4) (af st.cells) (s.val st % 4).toNat hi (by rw[bR,ho.clen];lia) (.int (t.val st));have e3:(((s.val st % 4).toNat:Nat):Int)=s.val st % 4:=by lia
  rw[e3,ints_set] at w;simp only[Rw.enc,Rw.next,Rw.word,to1];simp[Jr,P.ROW,P.CELLS,q,q2,w,rd,fz,Rw.next];simp[St.enc]
 | ask x =>
  have b:=sI P (k+4) asked st.asked;have w:=jq P (k+3) st ho x (asked.getD st.asked 0);simp only[Rw.enc,Rw.next,Rw.word,to2];simp only[To] at b w ⊢;simp[Jq,P.ROW,P.NAMES,P.ASKED,b,w,rd,fz,Rw.next];simp[St.enc]
 | say s =>
  have q:=dj P (k+1) s (by have:=hr.2;lia) hr.1 st ho;simp only[Rw.enc,Rw.next,Rw.word,to3];have l3:(af st.said).length+1<=100000:=by rw[bR];lia
  simp[Jp,P.ROW,P.SAID,q,rd,fz,Rw.next,l3,ints_snoc];simp[St.enc]
 | call q =>
  simp only[Rw.enc,Rw.next,Rw.word,to4];have l3:(ah st.calls).length+1<=100000:=by simp[ah];lia
  have e4:ah st.calls++[.int ((st.row:Int)+1)]=ah (st.calls++[st.row+1]):=by rw[← pB];simp
  simp[Jo,P.ROW,P.CALLS,rd,fz,Rw.next,l3,e4];simp[St.enc]
 | back =>
  simp only[Rw.enc,Rw.next,Rw.word,to5];have e4:=sN st.calls;have e5:pS (.tup (ah st.calls)) XY (XX (-1))=XX (.tup (ah st.calls.dropLast)):=by rw[pU,e4]
  simp[-pU,Jl,P.ROW,P.CALLS,rd,fz,Rw.next,e5];simp[St.enc]
 | stop=>simp[Rw.over] at hb'
 | _ =>
  simp only[Rw.enc,Rw.next,Rw.word];rw[toN _ _ _ _ _ _ _ _ (by decide)];simp[P.ROW,rd,fz,Rw.next];simp[St.enc]
end
def Ask (asked:List Int):Prop:=∀ x∈asked,Wth x
theorem Bt {xs:List Int}{i:Nat}{v:Int} (h:∀ x∈xs,Wth x) (hv:Wth v):∀ x∈xs.set i v,Wth x:=λx hx=>by
 rcases List.mem_or_eq_of_mem_set hx with q|q
 exact h x q;rw[q];exact hv
structure At (n:Nat) (st:St):Prop where
 ok:st.ok
 said:st.said.length<=n
 calls:st.calls.length<=6
theorem At.small {st:St} (a:At n st) (h:n<=5000):st.small:=⟨by have:=a.said;lia,by have:=a.calls;lia⟩
theorem wu:At 0 St.zero:=⟨ES,Rq _,by decide⟩
theorem wA {n:Nat}{p:Pg}{asked:List Int}{st:St} (hp:Pg.ok p) (ha:Ask asked) (a:At n st) (hb:over p st=X0):At (n+1) (step p asked st):=by
 have c:st.row < p.length:=by
  rcases RP st.row p.length with q|q
  exact q;rw[over,Rz q] at hb;cases hb
 have e:p[st.row]?=XX p[st.row]:=Ru c;have hr:=hp _ (UI c);have hb':(p[st.row]).over st=X0:=by rw[over,e] at hb;exact hb
 rw[step,e];dsimp only
 revert hr hb'
 generalize p[st.row]=r;intro hr hb';obtain ⟨ok,sd,cl⟩:=a;cases r with
 | set x s=>exact ⟨⟨by simp[Rw.next,ok.nlen],ok.clen,Bt ok.nw (Sm.o9 ok hr.1),ok.cw⟩,by simp[Rw.next];lia,cl⟩| put s t=>exact ⟨⟨ok.nlen,by simp[Rw.next,ok.clen],ok.nw,Bt ok.cw (Sm.o9 ok hr.2.1)⟩,by simp[Rw.next];lia,cl⟩| ask x=>exact ⟨⟨by simp[Rw.next,ok.nlen],ok.clen,Bt ok.nw (uN ha _),ok.cw⟩,by simp[Rw.next];lia,cl⟩| say s=>exact ⟨⟨ok.nlen,ok.clen,ok.nw,ok.cw⟩,by simp[Rw.next];lia,cl⟩
 | call q =>
  simp[Rw.over] at hb';exact ⟨⟨ok.nlen,ok.clen,ok.nw,ok.cw⟩,by simp[Rw.next];lia,by simp[Rw.next];lia⟩
 | back=>exact ⟨⟨ok.nlen,ok.clen,ok.nw,ok.cw⟩,by simp[Rw.next];lia,by simp[Rw.next];lia⟩| stop=>simp[Rw.over] at hb'| _=>exact ⟨⟨ok.nlen,ok.clen,ok.nw,ok.cw⟩,by simp[Rw.next];lia,cl⟩
section
end
noncomputable def eB:Fn:=⟨["_law_script","_law_k"],["_law_script","_law_k"], (.seq (.ife (.cmp .eq (.var 0) (.lst X0 .nil)) (.ret (.bin .mul (.cst (.int 7)) (.var 1))) .nil) (.ret (.bin .add (.idx (.var 0) (.bin .mod (.var 1) (.bi .len X0 (Z9 (.var 0))))) (.bin .mul (.cst (.int 6553)) (.bin .fdiv (.var 1) (.bi .len X0 (Z9 (.var 0))))))))⟩
noncomputable def eW:Fn:=⟨["_law_script","_law_k","_law_many"],["_law_script","_law_k","_law_many","_law_cell_here"], (.seq (.set 3 (.bin .mod (.bin .add (.bin .mul (.bin .mod (.call "_law_cell" (Z8 (.var 0) (.var 1))) (.cst (.int 2147483563))) (.cst (.int 69069))) (.bin .mul (.cst (.int 104723)) (.bin .add (.var 1) (.cst (.int 1))))) (.cst (.int 2147483563)))) (.seq (.set 3 (.bin .mod (.bin .add (.bin .mul (.var 3) (.var 3)) (.bin .fdiv (.var 3) (.cst (.int 3)))) (.cst (.int 2147483399)))) (.ret (.bin .mod (.bin .fdiv (.bin .mod (.bin .add (.bin .mul (.var 3) (.var 3)) (.bin .fdiv (.var 3) (.cst (.int 7)))) (.cst (.int 2147483647))) (.cst (.int 11))) (.var 2)))))⟩
noncomputable def smL:S:=(.seq (.ife (.cmp .eq (.call "_law_drawn" (Z7 (.var 0) (.bin .add (.var 1) (.cst (.int 1))) (.cst (.int 2)))) (.cst (.int 0))) (.ret (.tup (Z8 (.cst (.str "num")) (.idx (.lst X0 (Z4 (.cst (.int 0)) (.cst (.int 1)) (.cst (.int 2)) (.cst (.int 3)) (.cst (.int 10)) (.cst (.int 10006)))) (.call "_law_drawn" (Z7 (.var 0) (.bin .add (.var 1) (.cst (.int 2))) (.cst (.int 6)))))))) .nil) (.ret (.tup (Z8 (.cst (.str "name")) (.idx (.cst (.str "abcf")) (.call "_law_drawn" (Z7 (.var 0) (.bin .add (.var 1) (.cst (.int 2))) (.cst (.int 4)))))))))
noncomputable def smR:S:=(.seq (.set 4 (.call "_law_sum" (Z7 (.var 0) (.bin .add (.bin .mul (.var 1) (.cst (.int 2))) (.cst (.int 5))) (.bin .sub (.var 2) (.cst (.int 1)))))) (.seq (.ife (.cmp .lt (.var 3) (.cst (.int 6))) (.ret (.tup (Z8 (.cst (.str "cell")) (.var 4)))) .nil) (.ret (.tup (Z7 (.idx (.lst X0 (Z6 (.cst (.str "add")) (.cst (.str "sub")) (.cst (.str "mul")) (.cst (.str "less")))) (.bin .sub (.var 3) (.cst (.int 6)))) (.var 4) (.call "_law_sum" (Z7 (.var 0) (.bin .add (.bin .mul (.var 1) (.cst (.int 2))) (.cst (.int 19))) (.bin .sub (.var 2) (.cst (.int 1))))))))))
noncomputable def cR:Fn:=⟨["_law_script","_law_at","_law_deep"],["_law_script","_law_at","_law_deep","_law_way","_law_one"], (.seq (.set 3 (.call "_law_drawn" (Z7 (.var 0) (.var 1) (.cst (.int 10))))) (.seq (.ife (.or (.cmp .eq (.var 2) (.cst (.int 0))) (.cmp .lt (.var 3) (.cst (.int 4)))) smL .nil) smR))⟩
noncomputable def gY:Fn:=⟨["_law_script","_law_at","_law_size"],["_law_script","_law_at","_law_size","_law_way","_law_place","_law_name","_law_one"], (.seq (.set 3 (.call "_law_drawn" (Z7 (.var 0) (.var 1) (.cst (.int 16))))) (.seq (.set 4 (.call "_law_drawn" (Z7 (.var 0) (.bin .add (.var 1) (.cst (.int 1))) (.bin .add (.var 2) (.cst (.int 1)))))) (.seq (.set 5 (.idx (.cst (.str "abc")) (.call "_law_drawn" (Z7 (.var 0) (.bin .add (.var 1) (.cst (.int 2))) (.cst (.int 3)))))) (.seq (.set 6 (.call "_law_sum" (Z7 (.var 0) (.bin .add (.var 1) (.cst (.int 3))) (.cst (.int 2))))) (.seq (.ife (.cmp .lt (.var 3) (.cst (.int 5))) (.ret (.tup (Z7 (.cst (.str "set")) (.var 5) (.var 6)))) .nil) (.seq (.ife (.cmp .lt (.var 3) (.cst (.int 7))) (.ret (.tup (Z7 (.cst (.str "put")) (.call "_law_sum" (Z7 (.var 0) (.bin .add (.var 1) (.cst (.int 9))) (.cst (.int 1)))) (.var 6)))) .nil) (.seq (.ife (.cmp .lt (.var 3) (.cst (.int 9))) (.ret (.idx (.lst X0 (Z8 (.tup (Z8 (.cst (.str "ask")) (.var 5))) (.tup (Z8 (.cst (.str "say")) (.var 6))))) (.bin .sub (.var 3) (.cst (.int 7))))) .nil) (.seq (.ife (.cmp .lt (.var 3) (.cst (.int 12))) (.ret (.idx (.lst X0 (Z7 (.tup (Z8 (.cst (.str "jump")) (.var 4))) (.tup (Z7 (.cst (.str "unless")) (.var 6) (.var 4))) (.tup (Z7 (.cst (.str "unless")) (.tup (Z8 (.cst (.str "name")) (.var 5))) (.var 4))))) (.bin .sub (.var 3) (.cst (.int 9))))) .nil) (.ret (.idx (.lst X0 (Z6 (.tup (Z8 (.cst (.str "call")) (.var 4))) (.tup (Z8 (.cst (.str "call")) (.var 4))) (.tup (Z9 (.cst (.str "back")))) (.idx (.lst X0 (Z8 (.tup (Z9 (.cst (.str "stop")))) (.tup (Z9 (.cst (.str "back")))))) (.bin .mod (.var 4) (.cst (.int 2)))))) (.bin .sub (.var 3) (.cst (.int 12)))))))))))))⟩
noncomputable def eX:Fn:=⟨["_law_script","_law_at"],["_law_script","_law_at"], (.ret (.comp X0 .rng1 (Z9 (.call "_law_drawn" (Z7 (.var 0) (.var 1) (.cst (.int 4))))) ["_law_k"] [(0,"_law_script"),(1,"_law_at")] .nil (.idx (.lst X0 (Z6 (.cst (.int 0)) (.cst (.int 1)) (.cst (.int 5)) (.cst (.int 10006)))) (.call "_law_drawn" (Z7 (.var 1) (.bin .add (.bin .add (.var 2) (.cst (.int 1))) (.var 0)) (.cst (.int 4)))))))⟩
structure Lw (T:FK->Option Fn):Prop where
 cell:T "_law_cell"=XX eB
 drawn:T "_law_drawn"=XX eW
 sum:T "_law_sum"=XX cR
 row:T "_law_row"=XX gY
 asked:T "_law_asked"=XX eX
noncomputable def wB (ns:List Int) (k:Int):Int:=if ns=[] then 7*k else ns.getD (k % ns.length).toNat 0+6553*(k / ns.length)
noncomputable def drw (ns:List Int) (k many:Int):Int :=
 let a:=(wB ns k % 2147483563*69069+104723*(k+1)) % 2147483563
 let b:=(a*a+a / 3) % 2147483399
 (b*b+b / 7) % 2147483647 / 11 % many
theorem cS (ns:List Int) (k:Int) (h:0 < many):0<=drw ns k many:=Int.emod_nonneg _ (by lia)
theorem cT (ns:List Int) (k:Int) (h:0 < many):drw ns k many < many:=Int.emod_lt_of_pos _ h
theorem kY (h0:0<=i) (h1:i < 18446744073709551616):big i=XZ:=by unfold big;exact decide_eq_true (by lia)
section
theorem EW (ns:List Int):eqv (.lst (af ns)) (.lst [])=decide (ns=[]):=by cases ns<;>simp[af]
theorem Bu (L:Lw T) (m:Nat) (ns:List Int) (hl:ns.length<=1000) (k:Int) (h:HH):runN T G (m+1) "_law_cell" [.p (.lst (af ns)),.p (.int k)] h=XX (.p (.int (wB ns k)),h):=by
 rw[run_eq L.cell rfl]
 by_cases c:ns=[]
 ·subst c;simp[eB,af,wB,big,aj]
 ·have n0:0 < ns.length:=List.length_pos_iff.mpr c;have q:eqv (.lst (af ns)) (.lst [])=X0:=by rw[EW];exact decide_eq_false c
  have p1:(0:Int) < (ns.length:Int):=by lia
  have p2:(ns.length:Int) < 1073741824:=by lia
  have m1:=Int.emod_nonneg k (b:=(ns.length:Int)) (by lia);have m2:=Int.emod_lt_of_pos k p1;have i1:(k % (ns.length:Int)).toNat < ns.length:=by lia
  have n2:ns.length < 1073741824:=by lia
  simp[eB,-eqv,q,bR,p1,p2,n0,n2,m1,m2,big,aj,wB,c];simp[af,i1,aj,n0,n2,m1,m2,big,p1,p2]
theorem c6 (L:Lw T) (m:Nat) (ns:List Int) (hl:ns.length<=1000) (k many:Int) (hm:0 < many) (h:HH) :
 runN T G (m+2) "_law_drawn" [.p (.lst (af ns)),.p (.int k),.p (.int many)] h=XX (.p (.int (drw ns k many)),h):=by
 rw[run_eq L.drawn rfl];have r:=Bu (G:=G) L m ns hl k;have b0:big 69069=XZ:=by decide
 have b1:big 104723=XZ:=by decide
 have b2:∀ x:Int,big (x % 2147483563)=XZ:=λx=>kY (by lia) (by lia);have b3:∀ x:Int,big (x % 2147483399)=XZ:=λx=>kY (by lia) (by lia);simp[eW,r,b0,b1,b2,b3,aj,hm,drw]
theorem qy:RG "abcf"=⟨#[97,98,99,102]⟩:=by decide +kernel
theorem Bv:RG "abc"=⟨#[97,98,99]⟩:=by decide +kernel
theorem o_a:RG "a"=⟨#[97]⟩:=by decide +kernel
theorem o_b:RG "b"=⟨#[98]⟩:=by decide +kernel
theorem o_c:RG "c"=⟨#[99]⟩:=by decide +kernel
theorem o_f:RG "f"=⟨#[102]⟩:=by decide +kernel
theorem wC (i:Int) (h0:0<=i) (h1:i < 4):∃ x:Nm,az (.str "abcf") (.int i)=XX (.str x.w):=by
 have:i=0\/i=1\/i=2\/i=3:=by lia
 rcases this with rfl|rfl|rfl|rfl
 exact ⟨.a,by rw[Nm.w,qy,o_a];rfl⟩;exact ⟨.b,by rw[Nm.w,qy,o_b];rfl⟩;exact ⟨.c,by rw[Nm.w,qy,o_c];rfl⟩;exact ⟨.f,by rw[Nm.w,qy,o_f];rfl⟩
theorem Jv (i:Int) (h0:0<=i) (h1:i < 3):∃ x:Nm,az (.str "abc") (.int i)=XX (.str x.w):=by
 have:i=0\/i=1\/i=2:=by lia
 rcases this with rfl|rfl|rfl
 exact ⟨.a,by rw[Nm.w,Bv,o_a];rfl⟩;exact ⟨.b,by rw[Nm.w,Bv,o_b];rfl⟩;exact ⟨.c,by rw[Nm.w,Bv,o_c];rfl⟩
theorem wD (i:Int) (h0:0<=i) (h1:i < 6):∃ n:Int,Wth n/\az (.lst [.int 0,.int 1,.int 2,.int 3,.int 10,.int 10006]) (.int i)=XX (.int n):=by
 have:i=0\/i=1\/i=2\/i=3\/i=4\/i=5:=by lia
 rcases this with rfl|rfl|rfl|rfl|rfl|rfl
 exact ⟨0,⟨by decide,by decide⟩,rfl⟩;exact ⟨1,⟨by decide,by decide⟩,rfl⟩;exact ⟨2,⟨by decide,by decide⟩,rfl⟩;exact ⟨3,⟨by decide,by decide⟩,rfl⟩;exact ⟨10,⟨by decide,by decide⟩,rfl⟩;exact ⟨10006,⟨by decide,by decide⟩,rfl⟩
theorem Jw (i:Int) (h0:0<=i) (h1:i < 4):∃ o:Op,az (.lst [.str "add",.str "sub",.str "mul",.str "less"]) (.int i)=XX (.str o.w):=by
 have:i=0\/i=1\/i=2\/i=3:=by lia
 rcases this with rfl|rfl|rfl|rfl
 exact ⟨.add,rfl⟩;exact ⟨.sub,rfl⟩;exact ⟨.mul,rfl⟩;exact ⟨.less,rfl⟩
theorem Bw (L:Lw T) (ns:List Int) (hl:ns.length<=1000) (p n:Int) (k:Nat) (rest:Sl) (h:HH) (c:drw ns (p+1) 2=0) (en:az (.lst [.int 0,.int 1,.int 2,.int 3,.int 10,.int 10006]) (.int (drw ns (p+2) 6))=XX (.int n)) :
 evS (runN T G (k+2)) G smL (XX (.p (.lst (af ns)))::XX (.p (.int p))::rest) h=XX (.rt (.p (Sm.num n).enc) h):=by
 have dr:=λq many (hm:0 < many)=>c6 (G:=G) L k ns hl q many hm;simp[-aJ,-iK,smL,dr,c,en,Sm.enc]
theorem Bx (L:Lw T) (ns:List Int) (hl:ns.length<=1000) (p:Int) (x:Nm) (k:Nat) (rest:Sl) (h:HH) (c:¬ drw ns (p+1) 2=0) (ex:az (.str "abcf") (.int (drw ns (p+2) 4))=XX (.str x.w)) :
 evS (runN T G (k+2)) G smL (XX (.p (.lst (af ns)))::XX (.p (.int p))::rest) h=XX (.rt (.p (Sm.nam x).enc) h):=by
 have dr:=λq many (hm:0 < many)=>c6 (G:=G) L k ns hl q many hm;simp[-aJ,-iK,smL,dr,c,ex,Sm.enc]
theorem wF (L:Lw T) (ns:List Int) (hl:ns.length<=1000):∀ (deep:Nat) (p:Int),∃ s:Sm,s.ok/\s.size+1<=2 ^ (deep+1)/\∀ (m:Nat) (h:HH),
 runN T G (m+deep+3) "_law_sum" [.p (.lst (af ns)),.p (.int p),.p (.int deep)] h=XX (.p s.enc,h):=by
 intro deep
 induction deep with
 | zero =>
  intro p;have dr:=λm q many (hm:0 < many)=>c6 (G:=G) L m ns hl q many hm;obtain ⟨x,ex⟩:=wC (drw ns (p+2) 4) (cS _ _ (by decide)) (cT _ _ (by decide));obtain ⟨n,hn,en⟩:=wD (drw ns (p+2) 6) (cS _ _ (by decide)) (cT _ _ (by decide));have key:∀ (s:Sm) (m:Nat) (h:HH),(∀ rest,evS (runN T G (m+2)) G smL (XX (.p (.lst (af ns)))::XX (.p (.int p))::rest) h=XX (.rt (.p s.enc) h))->runN T G (m+0+3) "_law_sum" [.p (.lst (af ns)),.p (.int p),.p (.int ((0:Nat):Int))] h=XX (.p s.enc,h):=λs m h q=>by rw[run_eq L.sum rfl];simp[cR,dr,q,aj]
  by_cases c:drw ns (p+1) 2=0
  exact ⟨.num n,hn,by simp[Sm.size],λm h=>key _ m h λrest=>Bw L ns hl p n m rest h c en⟩;exact ⟨.nam x,trivial,by simp[Sm.size],λm h=>key _ m h λrest=>Bx L ns hl p x m rest h c ex⟩
 | succ deep ih =>
  intro p;have dr:=λm q many (hm:0 < many)=>c6 (G:=G) L m ns hl q many hm;obtain ⟨x,ex⟩:=wC (drw ns (p+2) 4) (cS _ _ (by decide)) (cT _ _ (by decide));obtain ⟨n,hn,en⟩:=wD (drw ns (p+2) 6) (cS _ _ (by decide)) (cT _ _ (by decide));obtain ⟨s,so,ss,sr0⟩:=ih (p*2+5);obtain ⟨t,to,tt,tr0⟩:=ih (p*2+19);have ee:∀ m,m+(deep+1)+2=m+deep+3:=λm=>by lia
  have sr:=λm h=>(ee m).symm ▸ sr0 m h;have tr:=λm h=>(ee m).symm ▸ tr0 m h;have d0:¬ ((deep:Int)+1=0):=by lia
  have d1:((deep:Int)+1 - 1)=deep:=by lia
  have b2:big 2=XZ:=by decide
  have w0:=cS ns p (many:=10) (by decide);have w1:=cT ns p (many:=10) (by decide);have pw:2 ^ (deep+1+1)=2 ^ (deep+1)+2 ^ (deep+1):=by lia
  by_cases c1:drw ns p 10 < 4
  ·have key:∀ (s:Sm) (m:Nat) (h:HH),(∀ rest,evS (runN T G (m+deep+1+2)) G smL (XX (.p (.lst (af ns)))::XX (.p (.int p))::rest) h=XX (.rt (.p s.enc) h))->runN T G (m+(deep+1)+3) "_law_sum" [.p (.lst (af ns)),.p (.int p),.p (.int ((deep+1:Nat):Int))] h=XX (.p s.enc,h):=λs m h q=>by rw[run_eq L.sum rfl];have dq:=dr (m+(deep+1));have q:∀ rest,evS (runN T G (m+(deep+1)+2)) G smL (XX (.p (.lst (af ns)))::XX (.p (.int p))::rest) h=XX (.rt (.p s.enc) h):=q;simp[cR,dq,c1,d0,q,aj]
   by_cases c:drw ns (p+1) 2=0
   exact ⟨.num n,hn,by simp only[Sm.size];lia,λm h=>key _ m h λrest=>Bw L ns hl p n (m+deep+1) rest h c en⟩;exact ⟨.nam x,trivial,by simp only[Sm.size];lia,λm h=>key _ m h λrest=>Bx L ns hl p x (m+deep+1) rest h c ex⟩
  ·by_cases c2:drw ns p 10 < 6
   ·refine ⟨.cell s,so,by simp only[Sm.size];lia,λm h=>?_⟩;rw[run_eq L.sum rfl];simp[-aJ,-iK,cR,smR,dr,c1,c2,d0,d1,b2,sr,aj,Sm.enc]
   ·obtain ⟨o,eo⟩:=Jw (drw ns p 10 - 6) (by lia) (by lia);refine ⟨.two o s t,⟨so,to⟩,by simp only[Sm.size];lia,λm h=>?_⟩;rw[run_eq L.sum rfl];simp[-aJ,-iK,cR,smR,dr,c1,c2,d0,d1,b2,sr,tr,eo,aj,Sm.enc]
end
noncomputable def GH:S:=(.ret (.idx (.lst X0 (Z6 (.tup (Z8 (.cst (.str "call")) (.var 4))) (.tup (Z8 (.cst (.str "call")) (.var 4))) (.tup (Z9 (.cst (.str "back")))) (.idx (.lst X0 (Z8 (.tup (Z9 (.cst (.str "stop")))) (.tup (Z9 (.cst (.str "back")))))) (.bin .mod (.var 4) (.cst (.int 2)))))) (.bin .sub (.var 3) (.cst (.int 12)))))
noncomputable def rA3:S:=(.ret (.idx (.lst X0 (Z7 (.tup (Z8 (.cst (.str "jump")) (.var 4))) (.tup (Z7 (.cst (.str "unless")) (.var 6) (.var 4))) (.tup (Z7 (.cst (.str "unless")) (.tup (Z8 (.cst (.str "name")) (.var 5))) (.var 4))))) (.bin .sub (.var 3) (.cst (.int 9)))))
noncomputable def By:S:=(.seq (.ife (.cmp .lt (.var 3) (.cst (.int 12))) rA3 .nil) GH)
noncomputable def rA2:S:=(.ret (.idx (.lst X0 (Z8 (.tup (Z8 (.cst (.str "ask")) (.var 5))) (.tup (Z8 (.cst (.str "say")) (.var 6))))) (.bin .sub (.var 3) (.cst (.int 7)))))
noncomputable def wG:S:=(.seq (.ife (.cmp .lt (.var 3) (.cst (.int 9))) rA2 .nil) By)
noncomputable def rA1:S:=(.ret (.tup (Z7 (.cst (.str "put")) (.call "_law_sum" (Z7 (.var 0) (.bin .add (.var 1) (.cst (.int 9))) (.cst (.int 1)))) (.var 6))))
noncomputable def sP:S:=(.seq (.ife (.cmp .lt (.var 3) (.cst (.int 7))) rA1 .nil) wG)
noncomputable def rA0:S:=(.ret (.tup (Z7 (.cst (.str "set")) (.var 5) (.var 6))))
noncomputable def uS:S:=(.seq (.ife (.cmp .lt (.var 3) (.cst (.int 5))) rA0 .nil) sP)
theorem oE:gY=⟨["_law_script","_law_at","_law_size"],["_law_script","_law_at","_law_size","_law_way","_law_place","_law_name","_law_one"],
 (.seq (.set 3 (.call "_law_drawn" (.cons (.var 0) (.cons (.var 1) (.cons (.cst (.int 16)) .nil)))))
 (.seq (.set 4 (.call "_law_drawn" (.cons (.var 0) (.cons (.bin .add (.var 1) (.cst (.int 1))) (.cons (.bin .add (.var 2) (.cst (.int 1))) .nil)))))
 (.seq (.set 5 (.idx (.cst (.str "abc")) (.call "_law_drawn" (.cons (.var 0) (.cons (.bin .add (.var 1) (.cst (.int 2))) (.cons (.cst (.int 3)) .nil))))))
 (.seq (.set 6 (.call "_law_sum" (.cons (.var 0) (.cons (.bin .add (.var 1) (.cst (.int 3))) (.cons (.cst (.int 2)) .nil)))))
 uS))))⟩:=rfl
section
theorem EX (L:Lw T) (ns:List Int) (hl:ns.length<=1000) (p:Int) (size:Nat):∃ r:Rw,r.ok size/\∀ (m:Nat) (h:HH),
 runN T G (m+6) "_law_row" [.p (.lst (af ns)),.p (.int p),.p (.int size)] h=XX (.p r.enc,h):=by
 have dr:=λm q many (hm:0 < many)=>c6 (G:=G) L m ns hl q many hm;obtain ⟨x,ex⟩:=Jv (drw ns (p+2) 3) (cS _ _ (by decide)) (cT _ _ (by decide));obtain ⟨s,so,ss,sr⟩:=wF (G:=G) L ns hl 2 (p+3);obtain ⟨t,to,tt,tr⟩:=wF (G:=G) L ns hl 1 (p+9);have w0:=cS ns p (many:=16) (by decide);have w1:=cT ns p (many:=16) (by decide);have sz:(0:Int) < (size:Int)+1:=by lia
 have p0:=cS ns (p+1) sz;have p1:=cT ns (p+1) sz;obtain ⟨pl,hpl⟩:∃ pl:Nat,drw ns (p+1) ((size:Int)+1)=(pl:Int):=⟨(drw ns (p+1) ((size:Int)+1)).toNat,by lia⟩;have ple:pl<=size:=by lia
 have sok:nF s:=⟨so,by lia⟩;have tok:nF t:=⟨to,by lia⟩;have sr':=λm h=>sr (m+0) h;have tr':=λm h=>tr (m+1) h;simp at sr' tr';have dp:=λm h=>dr m (p+1) ((size:Int)+1) sz h;rw[hpl] at dp;have pre:∀ (m:Nat) (h:HH),runN T G (m+6) "_law_row" [.p (.lst (af ns)),.p (.int p),.p (.int size)] h =
  jz (evS (runN T G (m+5)) G uS [XX (.p (.lst (af ns))),XX (.p (.int p)),XX (.p (.int size)),XX (.p (.int (drw ns p 16))),XX (.p (.int (pl:Int))),XX (.p (.str x.w)),XX (.p s.enc)] h) (fin h):=λm h=>by
  rw[run_eq L.row rfl,oE];simp[-iK,dp,dr,ex,sr']
 by_cases c1:drw ns p 16 < 5
 ·refine ⟨.set x s,sok,λm h=>?_⟩;rw[pre];simp[-aJ,-iK,uS,rA0,c1,aj,Rw.enc]
 ·by_cases c2:drw ns p 16 < 7
  ·refine ⟨.put t s,⟨tok,sok⟩,λm h=>?_⟩;rw[pre];simp[-aJ,-iK,uS,sP,rA1,tr',c1,c2,aj,Rw.enc]
  ·by_cases c3:drw ns p 16 < 9
   ·obtain ⟨r,ro,ix⟩:∃ r:Rw,r.ok size/\az (.lst [.tup [.str "ask",.str x.w],.tup [.str "say",s.enc]]) (.int (drw ns p 16 - 7))=XX r.enc:=by
     have c:drw ns p 16=7\/drw ns p 16=8:=by lia
     rcases c with c|c<;>rw[c]
     exact ⟨.ask x,trivial,rfl⟩;exact ⟨.say s,sok,rfl⟩
    refine ⟨r,ro,λm h=>?_⟩;rw[pre];simp[-aJ,uS,sP,wG,rA2,c1,c2,c3,ix,aj]
   ·by_cases c4:drw ns p 16 < 12
    ·obtain ⟨r,ro,ix⟩:∃ r:Rw,r.ok size/\az (.lst [.tup [.str "jump",.int pl],.tup [.str "unless",s.enc,.int pl],.tup [.str "unless",.tup [.str "name",.str x.w],.int pl]]) (.int (drw ns p 16 - 9))=XX r.enc:=by
      have c:drw ns p 16=9\/drw ns p 16=10\/drw ns p 16=11:=by lia
      rcases c with c|c|c<;>rw[c]
      exact ⟨.jump pl,ple,rfl⟩;exact ⟨.unless s pl,⟨sok,ple⟩,rfl⟩;exact ⟨.unless (.nam x) pl,⟨⟨trivial,by simp[Sm.size]⟩,ple⟩,rfl⟩
     refine ⟨r,ro,λm h=>?_⟩;rw[pre];simp[-aJ,uS,sP,wG,By,rA3,c1,c2,c3,c4,ix,aj]
    ·obtain ⟨u,uo,iu⟩:∃ u:Rw,u.ok size/\az (.lst [.tup [.str "stop"],.tup [.str "back"]]) (.int ((pl:Int) % 2))=XX u.enc:=by
      have z:(pl:Int) % 2=0\/(pl:Int) % 2=1:=by lia
      rcases z with z|z<;>rw[z]
      exact ⟨.stop,trivial,rfl⟩;exact ⟨.back,trivial,rfl⟩
     obtain ⟨r,ro,ix⟩:∃ r:Rw,r.ok size/\az (.lst [.tup [.str "call",.int pl],.tup [.str "call",.int pl],.tup [.str "back"],u.enc]) (.int (drw ns p 16 - 12))=XX r.enc:=by
      have c:drw ns p 16=12\/drw ns p 16=13\/drw ns p 16=14\/drw ns p 16=15:=by lia
      rcases c with c|c|c|c<;>rw[c]
      exact ⟨.call pl,ple,rfl⟩;exact ⟨.call pl,ple,rfl⟩;exact ⟨.back,trivial,rfl⟩;exact ⟨u,uo,rfl⟩
     refine ⟨r,ro,λm h=>?_⟩;rw[pre];simp[-aJ,uS,sP,wG,By,GH,c1,c2,c3,c4,iu,ix,aj]
theorem comp_map (f:List D->HH->Option (Option D×HH)) (g:D->D):∀ (ds:List D) (h:HH),(∀ d∈ds,∀ h,f [d] h=XX (XX (g d),h))->bA f 1 ds h=XX (ds.map g,h):=by
 intro ds
 induction ds with
 | nil=>intro h _;rfl
 | cons d r ih =>
  intro h hf;have e1:=hf d RL h;have e2:=ih h λx hx=>hf x (RJ _ hx);rw[bA,jU];simp[e1,e2]
theorem sR (h:d∈upto 0 n):∃ k:Nat,k < n/\d=.int k:=by simp[upto] at h;obtain ⟨k,hk,e⟩:=h;exact ⟨k,hk,e.symm⟩
theorem sU (n:Nat) (g:D->D):(upto 0 n).map g=(RK n).map λ(k:Nat)=>g (.int k):=by simp[upto,Function.comp_def]
noncomputable def EY:E:=.idx (.lst X0 (Z6 (.cst (.int 0)) (.cst (.int 1)) (.cst (.int 5)) (.cst (.int 10006)))) (.call "_law_drawn" (Z7 (.var 1) (.bin .add (.bin .add (.var 2) (.cst (.int 1))) (.var 0)) (.cst (.int 4))))
theorem lP:eX=⟨["_law_script","_law_at"],["_law_script","_law_at"],.ret (.comp X0 .rng1 (.cons (.call "_law_drawn" (.cons (.var 0) (.cons (.var 1) (.cons (.cst (.int 4)) .nil)))) .nil) ["_law_k"] [(0,"_law_script"),(1,"_law_at")] .nil EY)⟩:=rfl
theorem yF (L:Lw T) (ns:List Int) (hl:ns.length<=1000) (p:Int):∃ asked:List Int,Ask asked/\asked.length<=3/\∀ (m:Nat) (h:HH),
 runN T G (m+3) "_law_asked" [.p (.lst (af ns)),.p (.int p)] h=XX (.p (.lst (af asked)),h):=by
 have dr:=λm q many (hm:0 < many)=>c6 (G:=G) L m ns hl q many hm;have at4:∀ i:Int,0<=i->i < 4->∃ n:Int,Wth n/\az (.lst [.int 0,.int 1,.int 5,.int 10006]) (.int i)=XX (.int n):=by
  intro i h0 h1;have:i=0\/i=1\/i=2\/i=3:=by lia
  rcases this with rfl|rfl|rfl|rfl
  exact ⟨0,⟨by decide,by decide⟩,rfl⟩;exact ⟨1,⟨by decide,by decide⟩,rfl⟩;exact ⟨5,⟨by decide,by decide⟩,rfl⟩;exact ⟨10006,⟨by decide,by decide⟩,rfl⟩
 have ch:∀ k:Nat,∃ n:Int,Wth n/\az (.lst [.int 0,.int 1,.int 5,.int 10006]) (.int (drw ns (p+1+k) 4))=XX (.int n):=λk =>
  at4 _ (cS _ _ (by decide)) (cT _ _ (by decide))
 obtain ⟨g,hg⟩:=Wo ch;have w0:=cS ns p (many:=4) (by decide);have w1:=cT ns p (many:=4) (by decide);refine ⟨(RK (drw ns p 4).toNat).map g,?_,by simp;lia,λm h=>?_⟩
 ·intro x hx;simp at hx;obtain ⟨k,_,rfl⟩:=hx;exact (hg k).1
 ·rw[run_eq L.asked rfl,lP];have c1:drw ns p 4<=100000:=by lia
  have c0:-100000<=drw ns p 4:=by lia
  have he:∀ (k:Nat) (h:HH),ev (runN T G (m+2)) G EY [XX (.p (.int k)),XX (.p (.lst (af ns))),XX (.p (.int p))] h=XX (.p (.int (g k)),h):=λk h=>by have e:=(hg k).2;simp[-aJ,EY,dr,e]
  have cm:=comp_map (d7 (λ_ h=>XX ([],h)) (ev (runN T G (m+2)) G EY) [XX (.p (.lst (af ns))),XX (.p (.int p))]) (λd=>match d with | .int k=>.int (g k.toNat)|_=>.non) (upto 0 (drw ns p 4).toNat) h (by
   intro d hd h;obtain ⟨k,hk,rfl⟩:=sR hd;simp[cN,he])
  have ln:(drw ns p 4).toNat<=100000:=by lia
  rw[sU] at cm;have cm':(RK (drw ns p 4).toNat).map (λ(k:Nat)=>match D.int (k:Int) with | .int k=>D.int (g k.toNat)|_=>.non)=af ((RK (drw ns p 4).toNat).map g):=by simp[af,Function.comp_def]
  rw[cm'] at cm;simp[dr,c0,c1,cm,bR,ln,aj,eU]
noncomputable def BA:E:=.call "_law_row" (Z7 (.var 1) (.bin .add (.bin .add (.var 2) (.cst (.int 10))) (.bin .mul (.cst (.int 40)) (.var 0))) (.var 3))
structure Drawn (p:Pg):Prop where
 ok:Pg.ok p
 lo:1<=p.length
 hi:p.length<=9
noncomputable def iT (n:Int) (o:Op):Pg:=[.ask .a,.call 4,.say (.nam .a),.jump 0,.put (.nam .a) (.num n),.call 7,.back,.set .b (.two o (.nam .b) (.nam .a)),.back]
theorem qz (n:Int) (o:Op) (h:Wth n):Drawn (iT n o):=by refine ⟨?_,by simp[iT],by simp[iT]⟩;intro r hr;simp only[iT,SX,SA,or_false] at hr;rcases hr with rfl|rfl|rfl|rfl|rfl|rfl|rfl|rfl|rfl<;>simp[Rw.ok,iT,nF,Sm.ok,Sm.size,h]
theorem nG (L:Lw T)
 (ns:List Int) (hl:ns.length<=1000) (p:Int)
 (run1:∀ (m:Nat) (h:HH) (n:Int) (o:Op),drw ns (p+1) 4=0->n=drw ns (p+2) 9->az (.lst [.str "add",.str "sub"]) (.int (drw ns (p+3) 2))=XX (.str o.w) →
  (∀ m q many,0 < many->∀ h,runN T G (m+2) "_law_drawn" [.p (.lst (af ns)),.p (.int q),.p (.int many)] h=XX (.p (.int (drw ns q many)),h)) →
  runN T G (m+7) "_law_program" [.p (.lst (af ns)),.p (.int p)] h=XX (.p (bw (iT n o)),h))
 (run2:∀ (m:Nat) (h:HH) (pg:Pg),drw ns (p+1) 4≠0->pg.length=(1+drw ns p 9).toNat →
  (∀ m q many,0 < many->∀ h,runN T G (m+2) "_law_drawn" [.p (.lst (af ns)),.p (.int q),.p (.int many)] h=XX (.p (.int (drw ns q many)),h)) →
  (∀ h,bA (d7 (λ_ h=>XX ([],h)) (ev (runN T G (m+6)) G BA) [XX (.p (.lst (af ns))),XX (.p (.int p)),XX (.p (.int (1+drw ns p 9)))]) 1 (upto 0 (1+drw ns p 9).toNat) h=XX (pg.map Rw.enc,h)) →
  runN T G (m+7) "_law_program" [.p (.lst (af ns)),.p (.int p)] h=XX (.p (bw pg),h)) :
 ∃ pg:Pg,Drawn pg/\∀ (m:Nat) (h:HH),runN T G (m+7) "_law_program" [.p (.lst (af ns)),.p (.int p)] h=XX (.p (bw pg),h):=by
 have dr:=λm q many (hm:0 < many)=>c6 (G:=G) L m ns hl q many hm
 by_cases c:drw ns (p+1) 4=0
 ·have d0:=cS ns (p+3) (many:=2) (by decide);have d1:=cT ns (p+3) (many:=2) (by decide);have e0:=cS ns (p+2) (many:=9) (by decide);have e1:=cT ns (p+2) (many:=9) (by decide);have z:drw ns (p+3) 2=0\/drw ns (p+3) 2=1:=by lia
  have:∃ o:Op,az (.lst [.str "add",.str "sub"]) (.int (drw ns (p+3) 2))=XX (.str o.w):=by
   rcases z with z|z<;>rw[z]
   exact ⟨.add,rfl⟩;exact ⟨.sub,rfl⟩
  obtain ⟨o,eo⟩:=this;exact ⟨iT (drw ns (p+2) 9) o,qz _ _ ⟨by lia,by lia⟩,λm h=>run1 m h _ o c rfl eo dr⟩
 ·have d0:=cS ns p (many:=9) (by decide);have d1:=cT ns p (many:=9) (by decide);obtain ⟨sz,hsz⟩:∃ sz:Nat,1+drw ns p 9=(sz:Int):=⟨(1+drw ns p 9).toNat,by lia⟩;have ch:∀ k:Nat,∃ r:Rw,r.ok sz/\∀ (m:Nat) (h:HH),runN T G (m+6) "_law_row" [.p (.lst (af ns)),.p (.int (p+10+40*(k:Int))),.p (.int sz)] h=XX (.p r.enc,h) :=
   λk=>EX L ns hl _ sz
  obtain ⟨g,hg⟩:=Wo ch;refine ⟨(RK sz).map g,⟨?_,by simp;lia,by simp;lia⟩,λm h=>run2 m h _ c (by simp;lia) dr λh=>?_⟩
  ·intro r hr;simp at hr;obtain ⟨k,_,rfl⟩:=hr;simpa using (hg k).1
  ·rw[hsz];have b:big 40=XZ:=by decide
   have he:∀ (k:Nat) (h:HH),ev (runN T G (m+6)) G BA [XX (.p (.int k)),XX (.p (.lst (af ns))),XX (.p (.int p)),XX (.p (.int sz))] h=XX (.p (g k).enc,h):=λk h=>by have e:=(hg k).2;simp[BA,e,b]
   have cm:=comp_map (d7 (λ_ h=>XX ([],h)) (ev (runN T G (m+6)) G BA) [XX (.p (.lst (af ns))),XX (.p (.int p)),XX (.p (.int sz))]) (λd=>match d with | .int k=>(g k.toNat).enc|_=>.non) (upto 0 sz) h (by
    intro d hd h;obtain ⟨k,hk,rfl⟩:=sR hd;simp[cN,he])
   rw[sU] at cm;simp only[Int.toNat_natCast,SI];rw[cm];rfl
end
section
noncomputable def prB:S:=(.ret (.bi .tuple X0 (Z9 (.comp X0 .rng1 (Z9 (.var 2)) ["_law_k"] [(0,"_law_script"),(1,"_law_at"),(2,"_law_size")] .nil BA))))
mutual
theorem kC:∀ d:D,eqv d d=XZ
 | .non=>rfl
 | .bl b=>by simp
 | .int i=>by simp
 | .str x=>by simp
 | .tup xs=>by simp[jj xs]
 | .lst xs=>by simp[jj xs]
theorem jj:∀ ds:List D,nY ds ds=XZ
 | []=>rfl
 | d::r=>by simp[kC d,jj r]
end
theorem nI (n:Nat) (xs:List Int):(af xs).all (dok n)=XZ:=by simp[af,Tt]
theorem nJ (n:Nat) (xs:List Nat):(ah xs).all (dok n)=XZ:=by simp[ah,Tt]
@[simp] theorem Jx (ds:List D):nY ds ds=XZ:=jj ds
@[simp] theorem Kp (d:D):eqv d d=XZ:=kC d
@[simp] theorem Kq (x:D) (xs:List Int):bE x (.tup (af xs))=XZ:=gf (nI 99 xs)
@[simp] theorem Kr (x:D) (xs:List Nat):bE x (.tup (ah xs))=XZ:=gf (nJ 99 xs)
@[simp] theorem MC (x:D) (xs ys:List Int):bE x (.tup [.tup (af xs),.tup (af ys)])=XZ:=gf (by simp[nI])
end
section
variable {T:FK->Option Fn}{G:ZZ->Option W}
noncomputable def MD:S:=(.seq (.set 3 (.tup (Z7 (.cst (.str "put")) (.tup (Z8 (.cst (.str "name")) (.cst (.str "a")))) (.tup (Z8 (.cst (.str "num")) (.call "_law_drawn" (Z7 (.var 0) (.bin .add (.var 1) (.cst (.int 2))) (.cst (.int 9))))))))) (.seq (.set 4 (.idx (.lst X0 (Z8 (.cst (.str "add")) (.cst (.str "sub")))) (.call "_law_drawn" (Z7 (.var 0) (.bin .add (.var 1) (.cst (.int 3))) (.cst (.int 2)))))) (.seq (.set 5 (.tup (Z5 (.tup (Z8 (.cst (.str "ask")) (.cst (.str "a")))) (.tup (Z8 (.cst (.str "call")) (.cst (.int 4)))) (.tup (Z8 (.cst (.str "say")) (.tup (Z8 (.cst (.str "name")) (.cst (.str "a")))))) (.tup (Z8 (.cst (.str "jump")) (.cst (.int 0)))) (.var 3)))) (.ret (.bin .add (.var 5) (.tup (Z6 (.tup (Z8 (.cst (.str "call")) (.cst (.int 7)))) (.tup (Z9 (.cst (.str "back")))) (.tup (Z7 (.cst (.str "set")) (.cst (.str "b")) (.tup (Z7 (.var 4) (.tup (Z8 (.cst (.str "name")) (.cst (.str "b")))) (.tup (Z8 (.cst (.str "name")) (.cst (.str "a")))))))) (.tup (Z9 (.cst (.str "back")))))))))))
noncomputable def aW:Fn:=⟨["_law_script","_law_at"],["_law_script","_law_at","_law_size","_law_put_here","_law_sign","_law_rows"], (.seq (.set 2 (.bin .add (.cst (.int 1)) (.call "_law_drawn" (Z7 (.var 0) (.var 1) (.cst (.int 9)))))) (.seq (.ife (.cmp .eq (.call "_law_drawn" (Z7 (.var 0) (.bin .add (.var 1) (.cst (.int 1))) (.cst (.int 4)))) (.cst (.int 0))) MD .nil) prB))⟩
theorem qA (L:Lw T) (hP:T "_law_program"=XX aW) (ns:List Int) (hl:ns.length<=1000) (p:Int) :
 ∃ pg:Pg,Drawn pg/\∀ (m:Nat) (h:HH),runN T G (m+7) "_law_program" [.p (.lst (af ns)),.p (.int p)] h=XX (.p (bw pg),h):=by
 refine nG L ns hl p (λm h n o c en eo dr=>?_) (λm h pg c el dr cm=>?_)
 ·rw[run_eq hP rfl];have d:=λq many hm h=>dr (m+4) q many hm h;rw[aW];simp[-aJ,MD,d,c,eo,aj,bw,iT,Rw.enc,Sm.enc,← en,Nm.w]
 ·rw[run_eq hP rfl];have d:=λq many hm h=>dr (m+4) q many hm h;have d0:=cS ns p (many:=9) (by decide);have d1:=cT ns p (many:=9) (by decide);have c0:-100000<=1+drw ns p 9:=by lia
  have c1:1+drw ns p 9<=100000:=by lia
  have c2:pg.length<=100000:=by lia
  have cm':=cm h;rw[aW];simp[-d7,prB,d,c,c0,c1,c2,cm',aj,bw,eU]
end
section
variable {T:FK->Option Fn}{G:ZZ->Option W}
theorem uT (x:Nm):Ub (RG "abcdef") (RG x.w) 0 (RG "abcdef").length 1=[x.ix]:=by cases x<;>decide +kernel
theorem jr (x:Nm):meD .sindex (.str "abcdef") [.str x.w]=XX (.int x.ix):=by have o:=uT x;rw[zD,o]
theorem ix0 (a:D) (r:List D):az (.tup (a::r)) (.int 0)=XX a:=by simp
theorem ix1 (a b:D) (r:List D):az (.tup (a::b::r)) (.int 1)=XX b:=by
 have:(1:Int) < (r.length:Int)+1+1:=by lia
 simp[this]
theorem qB (d:D):∀ k:Nat,rep k [d]=RO k d
 | 0=>rfl
 | k+1=>by have:=qB d k;unfold rep at this ⊢;rw[SH,TM,this,SH];rfl
@[simp] theorem PM (st:St):pS st.enc (XX 1) (XX 3)=XX (.tup [.tup (af st.names),.tup (af st.cells)]):=rfl
theorem uU (p:Pg) (asked:List Int) (st:St):(step p asked st).asked<=st.asked+1:=by
 unfold step;cases p[st.row]? with
 | none=>simp| some r=>cases r<;>simp[Rw.next]
end
structure InP (p:Pg) (st:St):Prop where
 row:st.row<=p.length
 calls:∀ c∈st.calls,c<=p.length
theorem BB (p:Pg):InP p St.zero:=⟨SC _,by simp[St.zero]⟩
theorem BD {st:St} (hp:Pg.ok p) (h:InP p st) (hb:over p st=X0):InP p (step p asked st):=by
 have c:st.row < p.length:=by
  rcases RP st.row p.length with q|q
  exact q;rw[over,Rz q] at hb;cases hb
 have e:p[st.row]?=XX p[st.row]:=Ru c;have hr:=hp _ (UI c);have hb':(p[st.row]).over st=X0:=by rw[over,e] at hb;exact hb
 rw[step,e];dsimp only
 revert hr hb'
 generalize p[st.row]=r;intro hr hb';cases r with
 | jump q=>exact ⟨hr,h.calls⟩
 | «unless» s q =>
  refine ⟨?_,h.calls⟩;simp only[Rw.next];split;exact hr.2;exact c
 | call q =>
  refine ⟨hr,λx hx=>?_⟩;simp only[Rw.next,List.mem_append,XR] at hx;rcases hx with hx|rfl
  exact h.calls x hx;exact c
 | back =>
  have cn:st.calls≠[]:=by intro e;simp[Rw.over,e] at hb'
  have ec:st.calls=st.calls.dropLast++[st.calls.getLast cn]:=(UN cn).symm;refine ⟨?_,λx hx=>h.calls x (by rw[ec];exact SM _ hx)⟩;simp only[Rw.next];rw[ec];simp only[List.getLast?_append,List.getLast?_singleton,Option.some_or,V4];exact h.calls _ (List.getLast_mem cn)
 | stop=>simp[Rw.over] at hb'| _=>exact ⟨c,h.calls⟩
theorem BE (n:Nat) (st:St):dok (n+2) st.enc=XZ:=by simp[St.enc,vp,nI,nJ]
theorem EZ (L:List St):dok 100 (.lst (L.map St.enc))=XZ:=by rw[lW,Tt];intro d hd;simp at hd;obtain ⟨st,_,rfl⟩:=hd;exact BE 97 st
@[simp] theorem Oh (x:D) (st:St):bE x st.enc=XZ:=gf (BE 98 st)
@[simp] theorem ME (x:D) (L:List St):bE x (.lst (L.map St.enc))=XZ:=gf (EZ L)
noncomputable def itr (p:Pg) (asked:List Int):Nat->St
 | 0=>St.zero| n+1=>step p asked (itr p asked n)
structure Run (p:Pg) (asked:List Int) (most e:Nat):Prop where
 le:e<=most
 on:∀ i,i < e->over p (itr p asked i)=X0
 last:e=most\/over p (itr p asked e)=XZ
theorem BH (p:Pg) (asked:List Int):∀ (r j:Nat),∃ e,e<=r/\sts p asked r (itr p asked j)=(RK (e+1)).map (λi=>itr p asked (j+i))/\(∀ i,i < e->over p (itr p asked (j+i))=X0)/\(e=r\/over p (itr p asked (j+e))=XZ)
 | 0,j=>⟨0,Rq _,rfl,λi hi=>absurd hi (Wx _),.inl rfl⟩
 | r+1,j=>by
  rw[sts]
  by_cases c:over p (itr p asked j)=XZ
  ·rw[if_pos c];exact ⟨0,SC _,rfl,λi hi=>absurd hi (Wx _),.inr c⟩
  ·rw[if_neg c];obtain ⟨e,h1,h2,h3,h4⟩:=BH p asked r (j+1);have c':over p (itr p asked j)=X0:=by simpa using c
   refine ⟨e+1,by lia,?_,λi hi=>?_,?_⟩
   ·show itr p asked j::sts p asked r (itr p asked (j+1))=_;rw[h2,Vl (n:=e+1),RZ,SI];congr 1;apply SV;intro i _;show itr p asked (j+1+i)=itr p asked (j+(i+1));congr 1;lia
   ·cases i with
    | zero=>exact c'
    | succ i =>
     have:=h3 i (by lia);rw[show j+(i+1)=j+1+i by lia];exact this
   ·rcases h4 with h4|h4
    exact .inl (by lia);exact .inr (by rw[show j+(e+1)=j+1+e by lia];exact h4)
theorem E2 (p:Pg) (asked:List Int) (most:Nat):∃ e,Run p asked most e/\sts p asked most St.zero=(RK (e+1)).map (itr p asked):=by obtain ⟨e,h1,h2,h3,h4⟩:=BH p asked most 0;refine ⟨e,⟨h1,λi hi=>by have:=h3 i hi;simpa using this,by simpa using h4⟩,?_⟩;have:sts p asked most St.zero=sts p asked most (itr p asked 0):=rfl;rw[this,h2];apply SV;intro i _;simp
theorem kZ (hp:Pg.ok p) (ha:Ask asked) (R:Run p asked most e):∀ i,i<=e->At i (itr p asked i)
 | 0,_=>wu| i+1,h=>wA hp ha (kZ hp ha R i (by lia)) (R.on i (by lia))
structure Tp where
 p:Pg
 asked:List Int
 gap:Nat
 most:Nat
 kept:List St
 far:Nat
 front:St
 now:Nat
noncomputable def Tp.fs (t:Tp) (r:Nat):List (ZZ×W):=[("program",.p (bw t.p)),("asked",.p (.lst (af t.asked))),("gap",.p (.int t.gap)),("most",.p (.int t.most)),("kept",.r r),("farthest",.p (.int t.far)),("front",.p t.front.enc),("now",.p (.int t.now))]
section
variable (t:Tp) (r:Nat)
@[simp] theorem Jy:bq "program" (t.fs r)=XX (.p (bw t.p)):=by simp[Tp.fs]
@[simp] theorem MF:bq "asked" (t.fs r)=XX (.p (.lst (af t.asked))):=by simp[Tp.fs]
@[simp] theorem PN:bq "gap" (t.fs r)=XX (.p (.int t.gap)):=by simp[Tp.fs]
@[simp] theorem Oi:bq "most" (t.fs r)=XX (.p (.int t.most)):=by simp[Tp.fs]
@[simp] theorem E3:bq "kept" (t.fs r)=XX (.r r):=by simp[Tp.fs]
@[simp] theorem PR:bq "farthest" (t.fs r)=XX (.p (.int t.far)):=by simp[Tp.fs]
@[simp] theorem MG:bq "front" (t.fs r)=XX (.p t.front.enc):=by simp[Tp.fs]
@[simp] theorem PU:bq "now" (t.fs r)=XX (.p (.int t.now)):=by simp[Tp.fs]
@[simp] theorem PV:(t.fs r).length=8:=rfl
theorem E4 (v:Nat):bL "gap" (.p (.int v)) (t.fs r)=({ t with gap:=v }:Tp).fs r:=by simp[Tp.fs]
theorem BI (r':Nat):bL "kept" (.r r') (t.fs r)=t.fs r':=by simp[Tp.fs]
theorem E5 (v:Nat):bL "farthest" (.p (.int v)) (t.fs r)=({ t with far:=v }:Tp).fs r:=by simp[Tp.fs]
theorem yG (v:St):bL "front" (.p v.enc) (t.fs r)=({ t with front:=v }:Tp).fs r:=by simp[Tp.fs]
theorem cI (h:(["program","asked","gap","most","kept","farthest","front","now"]:List String).contains m=X0):bq m (t.fs r)=XY:=by simp only[XU,List.contains_nil,Vf,Bool.or_eq_false_iff,beq_eq_false_iff_ne,ne_eq] at h;obtain ⟨h1,h2,h3,h4,h5,h6,h7,h8⟩:=h;simp[Tp.fs,h1,h2,h3,h4,h5,h6,h7,h8]
end
structure TAt (h:HH) (n r:Nat) (t:Tp):Prop where
 ob:oat h n=XX (RG "Tape",t.fs r)
 li:lat h r=XX (t.kept.map St.enc)
theorem k8 (e:oat h n=XX q):n < h.length:=by
 unfold oat at e;rcases RP n h.length with z|z
 exact z;rw[Rz z] at e;cases e
theorem k9 (e:lat h n=XX q):n < h.length:=by
 unfold lat at e;rcases RP n h.length with z|z
 exact z;rw[Rz z] at e;cases e
theorem GI (e:oat h n=XX q) (e':lat h r=XX xs):n≠r:=by
 rintro rfl
 unfold oat at e;unfold lat at e';cases g:h[n]? with
 | none=>rw[g] at e;cases e| some c=>rw[g] at e e';cases c<;>simp at e e'
theorem kD {h:HH}{n:Nat} (hn:n < h.length) (c:Cl):oat (h.set n c) n=rK c:=by unfold oat;rw[SG hn];rfl
theorem gZ (hn:i≠n) (c:Cl):oat (h.set n c) i=oat h i:=by unfold oat;rw[So (Ti hn)]
theorem kE {h:HH}{n:Nat} (hn:n < h.length) (c:Cl):lat (h.set n c) n=pQ c:=by unfold lat;rw[SG hn];rfl
theorem cU (hn:i≠n) (c:Cl):lat (h.set n c) i=lat h i:=by unfold lat;rw[So (Ti hn)]
theorem uV (e:h'[i]?=h[i]?):lat h' i=lat h i:=by unfold lat;rw[e]
theorem BJ (e:h'[i]?=h[i]?):oat h' i=oat h i:=by unfold oat;rw[e]
theorem E6 (hi:i < h.length):lat (h++g) i=lat h i:=uV (Rp hi)
theorem wH (hi:i < h.length):oat (h++g) i=oat h i:=BJ (Rp hi)
structure Go (n:Nat) (h:HH) (r:Nat) (t:Tp) (h':HH) (r':Nat) (t':Tp):Prop where
 a:TAt h n r t
 b:TAt h' n r' t'
 len:(h'.length=h.length/\r'=r)\/(h.length<=r')
 le:h.length<=h'.length
 fr:∀ i,i≠n->i≠r->i < h.length->h'[i]?=h[i]?
theorem Go.refl (a:TAt h n r t):Go n h r t h r t:=⟨a,a,.inl ⟨rfl,rfl⟩,Rq _,λ_ _ _ _=>rfl⟩
theorem Go.trans (x:Go n h r t h1 r1 t1) (y:Go n h1 r1 t1 h2 r2 t2):Go n h r t h2 r2 t2:=by
 refine ⟨x.a,y.b,?_,Sj x.le y.le,λi h1 h2 h3=>?_⟩
 ·rcases x.len with ⟨a1,a2⟩|a1
  ·rcases y.len with ⟨b1,b2⟩|b1
   exact .inl ⟨b1.trans a1,b2.trans a2⟩;exact .inr (by lia)
  ·rcases y.len with ⟨b1,b2⟩|b1
   exact .inr (by lia);exact .inr (by have:=x.le;lia)
 ·have:i≠r1:=by
   rcases x.len with ⟨a1,a2⟩|a1
   rw[a2];exact h2;lia
  rw[y.fr i h1 this (by have:=x.le;lia)];exact x.fr i h1 h2 h3
theorem aZ (x:Go n h r t h' r' t') (w:W):fin h w h'=XX (w,h'):=by
 unfold fin
 by_cases c:h'.length=h.length
 rw[if_pos c]
 ·rw[if_neg c];rw[if_neg];intro z;rcases x.len with ⟨a1,a2⟩|a1
  exact c a1
  ·have hn:=k8 x.a.ob;have e:h'[n]?=h[n]?:=by have q:=Uo (l:=h') hn;rw[z] at q;exact q.symm
   have e2:oat h' n=oat h n:=BJ e;rw[x.a.ob,x.b.ob] at e2;have e3:=congrArg (λq:Option (ZZ×List (ZZ×W))=>q.bind λy=>bq "kept" y.2) e2;simp only[UC,E3,UP,W.r.injEq] at e3;have:=k9 x.a.li;lia
noncomputable def fX:Fn:=⟨["thing"],["thing"], (.ret (.and (.bi .isInt X0 (Z9 (.var 0))) (.not (.bi .isBool X0 (Z9 (.var 0))))))⟩
noncomputable def eY:Fn:=⟨["self","program","asked","every","most"],["self","program","asked","every","most"], (.seq (.setf (.var 0) "program" (.var 1)) (.seq (.setf (.var 0) "asked" (.bi .list X0 (Z9 (.var 2)))) (.seq (.setf (.var 0) "gap" (.bi .max2 X0 (Z8 (.var 3) (.cst (.int 1))))) (.seq (.setf (.var 0) "most" (.bi .max2 X0 (Z8 (.var 4) (.cst (.int 0))))) (.seq (.setf (.var 0) "kept" (.lst XZ (Z9 (.call "begun" .nil)))) (.seq (.setf (.var 0) "farthest" (.cst (.int 0))) (.seq (.setf (.var 0) "front" (.call "begun" .nil)) (.setf (.var 0) "now" (.cst (.int 0))))))))))⟩
noncomputable def fC:Fn:=⟨["self","moment"],["self","moment","state","step"], (.seq (.ex (.meth (.var 0) "check" (Z9 (.var 1)))) (.seq (.set 2 (.idx (.fld (.var 0) "kept") (.bin .fdiv (.var 1) (.fld (.var 0) "gap")))) (.seq (.for [(3,"step")] .rng1 (Z9 (.bin .mod (.var 1) (.fld (.var 0) "gap"))) (.set 2 (.meth (.var 0) "behind" (Z9 (.var 2))))) (.ret (.var 2)))))⟩
noncomputable def fY:Fn:=⟨["self"],["self"], (.seq (.ex (.meth (.var 0) "reach" (Z9 (.fld (.var 0) "most")))) (.ret (.fld (.var 0) "farthest")))⟩
noncomputable def dD:Fn:=⟨["self","state"],["self","state"], (.ret (.call "stepped" (Z7 (.fld (.var 0) "program") (.fld (.var 0) "asked") (.var 1))))⟩
noncomputable def bS:Fn:=⟨["self","moment","state"],["self","moment","state"], (.ret (.or (.cmp .ge (.var 1) (.fld (.var 0) "most")) (.call "is_over" (Z8 (.fld (.var 0) "program") (.var 2)))))⟩
noncomputable def dF:Fn:=⟨["self","state"],["self","state"], (.seq (.ex (.me .append (.fld (.var 0) "kept") (Z9 (.var 1)))) (.ife (.cmp .gt (.bi .len X0 (Z9 (.fld (.var 0) "kept"))) (.glo "MOST_MARKS")) (.seq (.setf (.var 0) "kept" (.stp XZ 2 (.fld (.var 0) "kept"))) (.augf (.var 0) "gap" .mul (.cst (.int 2)))) .nil))⟩
noncomputable def dX:Fn:=⟨["self","moment"],["self","moment"], (.whl (.and (.cmp .lt (.fld (.var 0) "farthest") (.var 1)) (.not (.meth (.var 0) "is_last" (Z8 (.fld (.var 0) "farthest") (.fld (.var 0) "front"))))) (.seq (.setf (.var 0) "front" (.meth (.var 0) "behind" (Z9 (.fld (.var 0) "front")))) (.seq (.augf (.var 0) "farthest" .add (.cst (.int 1))) (.ife (.cmp .eq (.bin .mod (.fld (.var 0) "farthest") (.fld (.var 0) "gap")) (.cst (.int 0))) (.ex (.meth (.var 0) "keep" (Z9 (.fld (.var 0) "front")))) .nil))))⟩
noncomputable def bZ:Fn:=⟨["self","moment"],["self","moment"], (.seq (.ife (.or (.not (.call "is_whole" (Z9 (.var 1)))) (.or (.cmp .lt (.var 1) (.cst (.int 0))) (.cmp .gt (.var 1) (.fld (.var 0) "most")))) (.ret (.cst (.bl X0))) .nil) (.seq (.ex (.meth (.var 0) "reach" (Z9 (.var 1)))) (.ret (.cmp .le (.var 1) (.fld (.var 0) "farthest")))))⟩
noncomputable def cB:Fn:=⟨["self","moment"],["self","moment"], (.ife (.not (.meth (.var 0) "has" (Z9 (.var 1)))) .bad .nil)⟩
structure TpP (T:FK->Option Fn) (G:ZZ->Option W):Prop where
 prg:Prg T G
 is_whole:T "is_whole"=XX fX
 init:T (.m "Tape" "__init__")=XX eY
 behind:T (.m "Tape" "behind")=XX dD
 is_last:T (.m "Tape" "is_last")=XX bS
 keep:T (.m "Tape" "keep")=XX dF
 reach:T (.m "Tape" "reach")=XX dX
 has:T (.m "Tape" "has")=XX bZ
 check:T (.m "Tape" "check")=XX cB
 at_:T (.m "Tape" "at")=XX fC
 MOST_MARKS:G "MOST_MARKS"=XX (.p (.int 8))
section
theorem g9 (P:TpP T G) (k:Nat) (i:Int) (h:HH):runN T G (k+1) "is_whole" [.p (.int i)] h=XX (.p (.bl XZ),h):=by rw[run_eq P.is_whole rfl];simp[fX,aj]
theorem fD (P:TpP T G) (k:Nat) (a:TAt h n r t) (hp:Pg.ok t.p) {st:St} (hj:j<=5000) (at_:At j st) (hb:over t.p st=X0):runN T G (k+7) (.m "Tape" "behind") [.o n,.p st.enc] h=XX (.p (step t.p t.asked st).enc,h):=by rw[run_eq P.behind rfl];have s:=sO P.prg k t.p hp t.asked st at_.ok (at_.small hj) hb;simp[dD,a.ob,s,aj]
theorem eH (P:TpP T G) (k:Nat) (a:TAt h n r t) (mo:Nat) (st:St):runN T G (k+2) (.m "Tape" "is_last") [.o n,.p (.int mo),.p st.enc] h=XX (.p (.bl (decide (t.most<=mo)||over t.p st)),h):=by
 rw[run_eq P.is_last rfl];have o:=sM P.prg k t.p st
 by_cases c:t.most<=mo
 ·have c1:(t.most:Int)<=(mo:Int):=by lia
  simp[bS,a.ob,c,c1,aj]
 ·have c1:¬ (t.most:Int)<=(mo:Int):=by lia
  simp[bS,a.ob,o,c,c1,aj]
theorem BK:VP (Sn XY XY (XX 2) 9).1 (Sn XY XY (XX 2) 9).2.1 (Sn XY XY (XX 2) 9).2.2=[0,2,4,6,8]:=by decide +kernel
theorem Jz (x0 x1 x2 x3 x4 x5 x6 x7 x8:D):rO 2 [x0,x1,x2,x3,x4,x5,x6,x7,x8]=[x0,x2,x4,x6,x8]:=by show (VP (Sn XY XY (XX 2) 9).1 (Sn XY XY (XX 2) 9).2.1 (Sn XY XY (XX 2) 9).2.2).filterMap _=_;rw[BK];rfl
noncomputable def Tp.keep (t:Tp) (st:St):Tp:=if t.kept.length < 8 then { t with kept:=t.kept++[st] } else { t with kept:=(RK 5).filterMap λi=>(t.kept++[st])[2*i]?,gap:=2*t.gap }
theorem BN (P:TpP T G) (k:Nat) (a:TAt h n r t) (hg:t.gap<=100000) (hl:t.kept.length<=8) (st:St) :
 ∃ h' r',runN T G (k+1) (.m "Tape" "keep") [.o n,.p st.enc] h=XX (.p .non,h')/\Go n h r t h' r' (t.keep st):=by
 have nr:=GI a.ob a.li;have hn:=k8 a.ob;have hr:=k9 a.li;have e1:lat (h.set r (Cl.l (t.kept.map St.enc++[st.enc]))) r=XX (t.kept.map St.enc++[st.enc]):=kE hr _;have e2:oat (h.set r (Cl.l (t.kept.map St.enc++[st.enc]))) n=XX (RG "Tape",t.fs r):=(gZ nr _).trans a.ob;have l0:t.kept.length < 100000:=by lia
 by_cases c:t.kept.length < 8
 ·have c1:¬ (8:Int) < (t.kept.length:Int)+1:=by lia
  have go:Go n h r t (h.set r (Cl.l (t.kept.map St.enc++[st.enc]))) r (t.keep st):=by refine ⟨a,⟨?_,?_⟩,.inl ⟨by simp,rfl⟩,by simp,λi h1 h2 h3=>So (Ti h2)⟩;rw[Tp.keep,if_pos c];exact e2;rw[Tp.keep,if_pos c,e1];simp
  refine ⟨_,r,?_,go⟩;rw[run_eq P.keep rfl];have f:=aZ go (.p .non);simp[dF,a.ob,a.li,e1,e2,P.MOST_MARKS,rd,c1,l0,f]
 ·have c8:t.kept.length=8:=by lia
  obtain ⟨x0,x1,x2,x3,x4,x5,x6,x7,ek⟩:∃ x0 x1 x2 x3 x4 x5 x6 x7,t.kept=[x0,x1,x2,x3,x4,x5,x6,x7]:=by
   match t.kept,c8 with
   | [x0,x1,x2,x3,x4,x5,x6,x7],_=>exact ⟨x0,x1,x2,x3,x4,x5,x6,x7,rfl⟩
  have ev:rO 2 (t.kept.map St.enc++[st.enc])=((t.keep st).kept).map St.enc:=by rw[Tp.keep,if_neg c,ek];exact Jz _ _ _ _ _ _ _ _ _
  have c1:(8:Int) < (t.kept.length:Int)+1:=by lia
  have e3:∀ g:HH,oat ((h.set r (Cl.l (t.kept.map St.enc++[st.enc])))++g) n=XX (RG "Tape",t.fs r):=λg=>(wH (by simpa using hn)).trans e2;have e4:(h.set r (Cl.l (t.kept.map St.enc++[st.enc]))).length=h.length:=by simp
  have b0:big (t.gap:Int)=XZ:=by unfold big;exact decide_eq_true (by lia)
  have go:Go n h r t ((h.set r (Cl.l (t.kept.map St.enc++[st.enc]))++[Cl.l ((t.keep st).kept.map St.enc)]).set n (.o "Tape" ((t.keep st).fs h.length))) h.length (t.keep st):=by
   have hn2:n < (h.set r (Cl.l (t.kept.map St.enc++[st.enc]))++[Cl.l ((t.keep st).kept.map St.enc)]).length:=by simp;lia
   refine ⟨a,⟨kD hn2 _,?_⟩,.inr (Rq _),by simp,λi h1 h2 h3=>?_⟩
   ·rw[cU (Ti (Sk hn))];have:=PL (h.set r (Cl.l (t.kept.map St.enc++[st.enc]))) (Cl.l ((t.keep st).kept.map St.enc)) [];rw[e4] at this;exact this
   rw[So (Ti h1),Rp (by simpa using h3),So (Ti h2)]
  refine ⟨_,_,?_,go⟩;rw[run_eq P.keep rfl];have f:=aZ go (.p .non);have k2:(t.keep st).fs h.length=({ t with gap:=2*t.gap }:Tp).fs h.length:=by rw[Tp.keep,if_neg c];rfl
  have pk:bL "gap" (.p (.int ((t.gap:Int)*2))) (t.fs h.length)=(t.keep st).fs h.length:=by rw[k2,← E4 t h.length (2*t.gap)];congr 3;show (t.gap:Int)*2=((2*t.gap:Nat):Int);lia
  have hn2:n < (h.set r (Cl.l (t.kept.map St.enc++[st.enc]))++[Cl.l ((t.keep st).kept.map St.enc)]).length:=by simp;lia
  have e5:=kD hn2 (.o "Tape" (t.fs h.length));rw[HC] at e5;have s2:∀ x y:Cl,((h.set r (Cl.l (t.kept.map St.enc++[st.enc]))++[Cl.l ((t.keep st).kept.map St.enc)]).set n x).set n y=(h.set r (Cl.l (t.kept.map St.enc++[st.enc]))++[Cl.l ((t.keep st).kept.map St.enc)]).set n y:=λx y=>by rw[W8]
  simp[dF,a.ob,a.li,e1,e2,e3,e4,P.MOST_MARKS,rd,c1,l0,ev,BI,e5,b0,pk,s2,f]
end
structure TI (t:Tp) (e gv:Nat):Prop where
 run:Run t.p t.asked t.most e
 ok:Pg.ok t.p
 ask:Ask t.asked
 g0:0 < t.gap
 g1:t.gap<=1000
 m1:t.most<=1000
 far:t.far<=e
 front:t.front=itr t.p t.asked t.far
 len:t.kept.length=t.far / t.gap+1
 l8:t.kept.length<=8
 kept:∀ j,j < t.kept.length->t.kept[j]?=XX (itr t.p t.asked (j*t.gap))
 now:t.now<=t.far
 pw:∃ j,t.gap=gv*2 ^ j/\(0 < j->8<=t.far / (t.gap / 2))
structure Sm8 (t t':Tp):Prop where
 p:t'.p=t.p
 asked:t'.asked=t.asked
 most:t'.most=t.most
 now:t'.now=t.now
theorem Sm8.refl (t:Tp):Sm8 t t:=⟨rfl,rfl,rfl,rfl⟩
theorem Sm8.trans (x:Sm8 t u) (y:Sm8 u v):Sm8 t v:=⟨y.p.trans x.p,y.asked.trans x.asked,y.most.trans x.most,y.now.trans x.now⟩
noncomputable def Tp.on (t:Tp):Tp:={ t with front:=step t.p t.asked t.front,far:=t.far+1 }
noncomputable def Tp.nx (t:Tp):Tp:=if (t.far+1) % t.gap=0 then t.on.keep t.on.front else t.on
theorem BO (hg:0 < g) (c:¬ (f+1) % g=0):(f+1) / g=f / g:=by
 have h1:=Vw f g;have h2:f % g < g:=WL _ hg;have e:f+1=g*(f / g)+(f % g+1):=by lia
 have h3:f % g+1 < g:=by
  rcases RP (f % g+1) g with z|z
  exact z
  ·exfalso;apply c;have:f % g+1=g:=by lia
   rw[e,this,Nat.mul_add_mod,Nat.mod_self]
 rw[e,Nat.mul_add_div hg,Nat.div_eq_of_lt h3];lia
theorem BP (hg:0 < g) (c:(f+1) % g=0):(f+1) / g=f / g+1/\(f / g+1)*g=f+1:=by
 have h1:=Vw f g;have h2:f % g < g:=WL _ hg;have h3:f % g+1=g:=by
  rcases RP (f % g+1) g with z|z
  ·exfalso;have e:f+1=g*(f / g)+(f % g+1):=by lia
   rw[e,Nat.mul_add_mod,Nat.mod_eq_of_lt z] at c;lia
  lia
 have e:f+1=(f / g+1)*g:=by rw[Nat.add_mul,Ur (f / g) g];lia
 exact ⟨by rw[e,VX _ hg],e.symm⟩
theorem TI.nx (I:TI t e gv) (h:t.far < e):TI t.nx e gv/\Sm8 t t.nx/\t.nx.far=t.far+1:=by
 have g0:=I.g0;have hf:step t.p t.asked t.front=itr t.p t.asked (t.far+1):=by rw[I.front];rfl
 have mono:∀ g:Nat,t.far / g<=(t.far+1) / g:=λg=>Vz (S6 _);unfold Tp.nx
 by_cases c:(t.far+1) % t.gap=0
 ·rw[if_pos c];obtain ⟨d1,d2⟩:=BP g0 c;have hfr:t.on.front=itr t.p t.asked (t.far+1):=hf;have kp:∀ j,j < t.kept.length+1->(t.kept++[itr t.p t.asked (t.far+1)])[j]?=XX (itr t.p t.asked (j*t.gap)):=λj hj=>by
   rcases RP j t.kept.length with z|z
   rw[Rp z];exact I.kept j z
   ·have ej:j=t.kept.length:=by lia
    subst ej;rw[RM (Rq _),Nat.sub_self];have:t.kept.length*t.gap=t.far+1:=by rw[I.len];exact d2
    rw[this];rfl
  unfold Tp.keep
  by_cases c2:t.kept.length < 8
  ·have c2':t.on.kept.length < 8:=c2;rw[if_pos c2'];refine ⟨⟨I.run,I.ok,I.ask,g0,I.g1,I.m1,h,hf,?_,?_,λj hj=>?_,?_,?_⟩,⟨rfl,rfl,rfl,rfl⟩,rfl⟩
   ·show (t.kept++[t.on.front]).length=(t.far+1) / t.gap+1;rw[d1,RI,I.len];rfl
   ·show (t.kept++[t.on.front]).length<=8;rw[RI];simp;lia
   ·have hj':j < t.kept.length+1:=by
     have:(t.kept++[t.on.front]).length=t.kept.length+1:=by simp
     rw[← this];exact hj
    show (t.kept++[t.on.front])[j]?=XX (itr t.p t.asked (j*t.gap));rw[hfr];exact kp j hj'
   show t.now<=t.far+1;have:=I.now;lia
   ·obtain ⟨j,h1,h2⟩:=I.pw;exact ⟨j,h1,λhj=>Sj (h2 hj) (mono _)⟩
  ·have c2':¬ t.on.kept.length < 8:=c2;rw[if_neg c2'];have l8:t.kept.length=8:=by have:=I.l8;lia
   have f8:t.far+1=8*t.gap:=by rw[← d2,← I.len,l8]
   have le:=I.run.le;have m1:=I.m1;have hk:∀ i,i < 5->(t.kept++[itr t.p t.asked (t.far+1)])[2*i]?=XX (itr t.p t.asked (i*(2*t.gap))):=λi hi=>by rw[kp (2*i) (by lia)];congr 2;rw[Ur 2 i,Nat.mul_assoc]
   have ek:(RK 5).filterMap (λi=>(t.kept++[t.on.front])[2*i]?)=(RK 5).map λi=>itr t.p t.asked (i*(2*t.gap)):=by rw[hfr,show RK 5=[0,1,2,3,4] from rfl];simp only[Ss,List.filterMap_nil,hk 0 (by decide),hk 1 (by decide),hk 2 (by decide),hk 3 (by decide),hk 4 (by decide),RZ,Um]
   have dv:(t.far+1) / (2*t.gap)=4:=by rw[f8,show 8*t.gap=4*(2*t.gap) by lia];exact VX _ (by lia)
   refine ⟨⟨I.run,I.ok,I.ask,?_,?_,I.m1,h,hf,?_,?_,λj hj=>?_,?_,?_⟩,⟨rfl,rfl,rfl,rfl⟩,rfl⟩;show 0 < 2*t.gap;lia;show 2*t.gap<=1000;lia
   ·show ((RK 5).filterMap λi=>(t.kept++[t.on.front])[2*i]?).length=(t.far+1) / (2*t.gap)+1;rw[ek,dv];simp
   ·show ((RK 5).filterMap λi=>(t.kept++[t.on.front])[2*i]?).length<=8;rw[ek];simp
   ·have hj':j < 5:=by have q:j < ((RK 5).filterMap λi=>(t.kept++[t.on.front])[2*i]?).length:=hj;rw[ek] at q;simpa using q
    show ((RK 5).filterMap λi=>(t.kept++[t.on.front])[2*i]?)[j]?=XX (itr t.p t.asked (j*(2*t.gap)));rw[ek,RY,Uk hj'];rfl
   show t.now<=t.far+1;have:=I.now;lia
   ·obtain ⟨j,h1,h2⟩:=I.pw;refine ⟨j+1,?_,λ_=>?_⟩
    ·show 2*t.gap=gv*2 ^ (j+1);rw[h1,Nat.pow_succ];rw[Ur 2,Nat.mul_assoc]
    ·show 8<=(t.far+1) / (2*t.gap / 2);rw[Nat.mul_div_cancel_left _ (by lia:0 < 2),f8,VX _ g0];exact Rq _
 ·rw[if_neg c];refine ⟨⟨I.run,I.ok,I.ask,g0,I.g1,I.m1,h,hf,?_,I.l8,I.kept,?_,?_⟩,⟨rfl,rfl,rfl,rfl⟩,rfl⟩
  ·show t.kept.length=(t.far+1) / t.gap+1;rw[I.len,BO g0 c]
  show t.now<=t.far+1;have:=I.now;lia
  ·obtain ⟨j,h1,h2⟩:=I.pw;exact ⟨j,h1,λhj=>Sj (h2 hj) (mono _)⟩
section
noncomputable def rcC:E:=(.and (.cmp .lt (.fld (.var 0) "farthest") (.var 1)) (.not (.meth (.var 0) "is_last" (Z8 (.fld (.var 0) "farthest") (.fld (.var 0) "front")))))
noncomputable def rcB:S:=(.seq (.setf (.var 0) "front" (.meth (.var 0) "behind" (Z9 (.fld (.var 0) "front")))) (.seq (.augf (.var 0) "farthest" .add (.cst (.int 1))) (.ife (.cmp .eq (.bin .mod (.fld (.var 0) "farthest") (.fld (.var 0) "gap")) (.cst (.int 0))) (.ex (.meth (.var 0) "keep" (Z9 (.fld (.var 0) "front")))) .nil)))
theorem ff (t:Tp) (r:Nat):bq "is_last" (t.fs r)=XY:=cI t r rfl
theorem gE (t:Tp) (r:Nat):bq "behind" (t.fs r)=XY:=cI t r rfl
theorem JA (t:Tp) (r:Nat):bq "keep" (t.fs r)=XY:=cI t r rfl
theorem wI (t:Tp) (r:Nat):bq "reach" (t.fs r)=XY:=cI t r rfl
theorem pC (t:Tp) (r:Nat):bq "has" (t.fs r)=XY:=cI t r rfl
theorem mq (t:Tp) (r:Nat):bq "check" (t.fs r)=XY:=cI t r rfl
theorem BQ (t:Tp) (r:Nat):bq "at" (t.fs r)=XY:=cI t r rfl
theorem MH (t:Tp) (r:Nat):bq "end" (t.fs r)=XY:=cI t r rfl
theorem MI (a:TAt h n r t) (t':Tp) (k:t'.kept=t.kept):Go n h r t (h.set n (.o "Tape" (t'.fs r))) r t':=by have hn:=k8 a.ob;have nr:=GI a.ob a.li;exact ⟨a,⟨kD hn _,by rw[cU (Ti nr),k];exact a.li⟩,.inl ⟨by simp,rfl⟩,by simp,λi h1 _ _=>So (Ti h1)⟩
theorem E7 (P:TpP T G) (k:Nat) (a:TAt h n r t) (I:TI t e gv) (hl:t.far < e) (w:W) :
 ∃ h' r',evS (runN T G (k+7)) G rcB [XX (.o n),XX w] h=XX (.nx [XX (.o n),XX w] h')/\Go n h r t h' r' t.nx:=by
 have hn:=k8 a.ob;have atf:=kZ I.ok I.ask I.run t.far (by lia);have le:=I.run.le;have m1:=I.m1;have bh:=fD P k a I.ok (j:=t.far) (st:=t.front) (by lia) (by rw[I.front];exact atf) (by rw[I.front];exact I.run.on _ hl);have go1:=MI a t.on rfl;have e1:oat (h.set n (.o "Tape" (({ t with front:=step t.p t.asked t.front }:Tp).fs r))) n=XX (RG "Tape",({ t with front:=step t.p t.asked t.front }:Tp).fs r):=kD hn _;have pf:=yG t r (step t.p t.asked t.front);have pa:bL "farthest" (.p (.int ((t.far:Int)+1))) (({ t with front:=step t.p t.asked t.front }:Tp).fs r)=t.on.fs r:=E5 ({ t with front:=step t.p t.asked t.front }:Tp) r (t.far+1);have e2:oat (h.set n (.o "Tape" (t.on.fs r))) n=XX (RG "Tape",t.on.fs r):=kD hn _;have g0:(0:Int) < (t.gap:Int):=by have:=I.g0;lia
 have s2:∀ x y:Cl,(h.set n x).set n y=h.set n y:=λx y=>by rw[W8]
 have of:t.on.far=t.far+1:=rfl;have og:t.on.gap=t.gap:=rfl;have pre:evS (runN T G (k+7)) G rcB [XX (.o n),XX w] h=evS (runN T G (k+7)) G (.ife (.cmp .eq (.bin .mod (.fld (.var 0) "farthest") (.fld (.var 0) "gap")) (.cst (.int 0))) (.ex (.meth (.var 0) "keep" (.cons (.fld (.var 0) "front") .nil))) .nil) [XX (.o n),XX w] (h.set n (.o "Tape" (t.on.fs r))):=by rw[rcB];simp[a.ob,bh,gE,pf,e1,pa,s2]
 rw[pre];unfold Tp.nx;have cm:(((t.far+1) % t.gap:Nat):Int)=((t.far:Int)+1) % (t.gap:Int):=by simp
 by_cases c:(t.far+1) % t.gap=0
 ·rw[if_pos c];have c1:((t.far:Int)+1) % (t.gap:Int)=0:=by lia
  obtain ⟨h2,r2,k1,k2⟩:=BN P (k+6) go1.b (by show t.gap<=100000;have:=I.g1;lia) (by show t.kept.length<=8;exact I.l8) t.on.front;refine ⟨h2,r2,?_,go1.trans k2⟩;simp[e2,of,og,g0,I.g0,c1,JA,k1]
 ·rw[if_neg c];have c1:¬ ((t.far:Int)+1) % (t.gap:Int)=0:=by lia
  refine ⟨_,r,?_,go1⟩;have c2:(((t.far:Int)+1) % (t.gap:Int)==0)=X0:=by simpa using c1
  simp[e2,of,og,g0,I.g0,c2]
theorem qC (P:TpP T G) (k:Nat) (a:TAt h n r t) (I:TI t e gv) (m:Nat) :
 BT.ev (runN T G (k+7)) G rcC [XX (.o n),XX (.p (.int m))] h=XX (.p (.bl (decide (t.far < min m e))),h):=by
 have il:=eH P (k+5) a t.far t.front;have le:=I.run.le
 by_cases c:t.far < m
 ·have c1:(t.far:Int) < (m:Int):=by lia
  by_cases c2:t.far < e
  ·have o:over t.p t.front=X0:=by rw[I.front];exact I.run.on _ c2
   have q:(decide (t.most<=t.far)||over t.p t.front)=X0:=by rw[o,Vf];exact decide_eq_false (by lia)
   rw[q] at il;have d:decide (t.far < min m e)=XZ:=decide_eq_true (by lia);rw[d];simp[rcC,a.ob,c1,c,ff,il]
  ·have fe:t.far=e:=by have:=I.far;lia
   have q:(decide (t.most<=t.far)||over t.p t.front)=XZ:=by
    rcases I.run.last with z|z
    rw[decide_eq_true (by lia)];rfl;rw[I.front,fe,z,Xd]
   rw[q] at il;have d:decide (t.far < min m e)=X0:=decide_eq_false (by lia);rw[d];simp[rcC,a.ob,c1,c,ff,il]
 ·have c1:¬ (t.far:Int) < (m:Int):=by lia
  have d:decide (t.far < min m e)=X0:=decide_eq_false (by lia);rw[d];simp[rcC,a.ob,c1,c]
theorem E8 (P:TpP T G) (k:Nat) (n:Nat) (e gv m:Nat):∀ (d f:Nat) (h:HH) (r:Nat) (t:Tp),TAt h n r t->TI t e gv->min m e - t.far<=d->d<=f →
 ∃ h' r' t',aQ (BT.ev (runN T G (k+7)) G rcC) (evS (runN T G (k+7)) G rcB) (f+1) [XX (.o n),XX (.p (.int m))] h=XX (.nx [XX (.o n),XX (.p (.int m))] h')/\Go n h r t h' r' t'/\TI t' e gv/\Sm8 t t'/\t'.far=max t.far (min m e):=by
 intro d
 induction d with
 | zero =>
  intro f h r t a I hd hf;have q:=qC P k a I m;rw[decide_eq_false (by lia)] at q;refine ⟨h,r,t,?_,.refl a,I,.refl t,by lia⟩;rw[aQ,q,cu,gM]
 | succ d ih =>
  intro f h r t a I hd hf
  by_cases c:t.far < min m e
  ·have q:=qC P k a I m;rw[decide_eq_true c] at q;obtain ⟨h1,r1,b1,g1⟩:=E7 P k a I (by lia) (.p (.int m));obtain ⟨I1,s1,f1⟩:=I.nx (by lia);cases f with
   | zero=>lia
   | succ f =>
    obtain ⟨h2,r2,t2,b2,g2,I2,s2,f2⟩:=ih f h1 r1 t.nx g1.b I1 (by lia) (by lia);refine ⟨h2,r2,t2,?_,g1.trans g2,I2,s1.trans s2,by lia⟩;rw[aQ,q,cu,gK,b1,aX,b2]
  ·have q:=qC P k a I m;rw[decide_eq_false c] at q;refine ⟨h,r,t,?_,.refl a,I,.refl t,by lia⟩;rw[aQ,q,cu,gM]
theorem sV:dX=⟨["self","moment"],["self","moment"],.whl rcC rcB⟩:=rfl
inductive JB (x:Option (W×HH)) (c:Option Nat->D) (F:Option Nat->Prop) (n:Nat) (h:HH) (r:Nat) (t:Tp) (e gv:Nat):Prop where
 | mk (o:Option Nat) (h':HH) (r':Nat) (t':Tp) (q:x=XX (.p (c o),h')) (f:F o) (g:Go n h r t h' r' t') (i:TI t' e gv) (m:Sm8 t t'):JB x c F n h r t e gv
inductive uW {α:Type} (x:Option (α×HH)) (y:α) (n:Nat) (h:HH) (r:Nat) (t:Tp) (e gv:Nat):Prop where
 | mk (h':HH) (r':Nat) (t':Tp) (q:x=XX (y,h')) (g:Go n h r t h' r' t') (i:TI t' e gv) (m:Sm8 t t'):uW x y n h r t e gv
inductive yH {α:Type} (x:Option (α×HH)) (y:α) (n:Nat) (h:HH) (r:Nat) (t:Tp) (e gv f:Nat):Prop where
 | mk (h':HH) (r':Nat) (t':Tp) (q:x=XX (y,h')) (g:Go n h r t h' r' t') (i:TI t' e gv) (m:Sm8 t t') (a:t'.far=f):yH x y n h r t e gv f
theorem pF (P:TpP T G) (k:Nat) (a:TAt h n r t) (I:TI t e gv) (m:Nat) :
 yH (runN T G (k+8) (.m "Tape" "reach") [.o n,.p (.int m)] h) (.p .non) n h r t e gv (max t.far (min m e)):=by
 have le:=I.run.le;have m1:=I.m1;obtain ⟨h',r',t',b,g,I',s,f⟩:=E8 P k n e gv m 99999 99999 h r t a I (by lia) (Rq _);refine ⟨h',r',t',?_,g,I',s,f⟩;rw[run_eq P.reach rfl,sV];have fn:=aZ g (.p .non);simp[turns,b,fn]
theorem qD (P:TpP T G) (k:Nat) (a:TAt h n r t) (I:TI t e gv) (m:Nat) (hm:m<=t.most) :
 yH (runN T G (k+9) (.m "Tape" "has") [.o n,.p (.int m)] h) (.p (.bl (decide (m<=e)))) n h r t e gv (max t.far (min m e)):=by
 obtain ⟨h',r',t',b,g,I',s,f⟩:=pF P k a I m;refine ⟨h',r',t',?_,g,I',s,f⟩;rw[run_eq P.has rfl];have w:=g9 P (k+7) m;have c1:¬ ((m:Int) < 0):=by lia
 have c2:¬ ((t.most:Int) < (m:Int)):=by lia
 have fn:=λw=>aZ g w;have far:=I.far;have d:decide ((m:Int)<=(t'.far:Int))=decide (m<=e):=by
  by_cases c:m<=e
  rw[decide_eq_true c];exact decide_eq_true (by lia);rw[decide_eq_false c];exact decide_eq_false (by lia)
 simp[bZ,w,c1,a.ob,c2,wI,b,g.b.ob,fn];simpa using d
theorem pG (P:TpP T G) (k:Nat) (a:TAt h n r t) (I:TI t e gv) (m:Nat) (hm:m<=e) :
 yH (runN T G (k+10) (.m "Tape" "check") [.o n,.p (.int m)] h) (.p .non) n h r t e gv (max t.far m):=by
 obtain ⟨h',r',t',b,g,I',s,f⟩:=qD P k a I m (Sj hm I.run.le);rw[decide_eq_true hm] at b;refine ⟨h',r',t',?_,g,I',s,by lia⟩;rw[run_eq P.check rfl];have fn:=aZ g (.p .non);simp[cB,a.ob,pC,b,fn]
noncomputable def atB:S:=(.set 2 (.meth (.var 0) "behind" (Z9 (.var 2))))
theorem wJ (P:TpP T G) (k:Nat) (a:TAt h n r t) (I:TI t e gv) (w1:W):∀ (q j:Nat) (x:Option W) (lo:Int),j+q<=e →
 ∃ x',aR (evS (runN T G (k+7)) G atB) [(3,"step")] (upto lo q) [XX (.o n),XX w1,XX (.p (itr t.p t.asked j).enc),x] h=XX (.nx [XX (.o n),XX w1,XX (.p (itr t.p t.asked (j+q)).enc),x'] h)
 | 0,j,x,lo,_=>⟨x,rfl⟩
 | q+1,j,x,lo,hj=>by
  have le:=I.run.le;have m1:=I.m1;obtain ⟨x',b⟩:=wJ P k a I w1 q (j+1) (XX (.p (.int lo))) (lo+1) (by lia);refine ⟨x',?_⟩;have bh:=fD P k a I.ok (j:=j) (st:=itr t.p t.asked j) (by lia) (kZ I.ok I.ask I.run j (by lia)) (I.run.on j (by lia));have up:upto lo (q+1)=.int lo::upto (lo+1) q:=by unfold upto;rw[Vl,RZ,SI];simp only[Int.natCast_zero,Int.add_zero,UG,true_and];apply SV;intro i _;simp;lia
  rw[up];have s1:step t.p t.asked (itr t.p t.asked j)=itr t.p t.asked (j+1):=rfl;rw[s1] at bh;have ej:j+1+q=j+(q+1):=by lia
  rw[ej] at b;have hb:evS (runN T G (k+7)) G atB [XX (.o n),XX w1,XX (.p (itr t.p t.asked j).enc),XX (.p (.int lo))] h=XX (.nx [XX (.o n),XX w1,XX (.p (itr t.p t.asked (j+1)).enc),XX (.p (.int lo))] h):=by simp[atB,a.ob,gE,bh]
  simp[hb,b]
theorem BU:fC=⟨["self","moment"],["self","moment","state","step"],(.seq (.ex (.meth (.var 0) "check" (.cons (.var 1) .nil)))
 (.seq (.set 2 (.idx (.fld (.var 0) "kept") (.bin .fdiv (.var 1) (.fld (.var 0) "gap"))))
 (.seq (.for [(3,"step")] .rng1 (.cons (.bin .mod (.var 1) (.fld (.var 0) "gap")) .nil) atB)
 (.ret (.var 2)))))⟩:=rfl
theorem BV (P:TpP T G) (k:Nat) (a:TAt h n r t) (I:TI t e gv) (m:Nat) (hm:m<=e) :
 yH (runN T G (k+11) (.m "Tape" "at") [.o n,.p (.int m)] h) (.p (itr t.p t.asked m).enc) n h r t e gv (max t.far m):=by
 obtain ⟨h',r',t',b,g,I',s,f⟩:=pG P k a I m hm;refine ⟨h',r',t',?_,g,I',s,f⟩;rw[run_eq P.at_ rfl,BU];have fn:=λw=>aZ g w;have g0:=I'.g0;have g1:=I'.g1;have dm:=Vw m t'.gap;have md:=WL m g0;have hq:m / t'.gap < t'.kept.length:=by rw[I'.len];have:m / t'.gap<=t'.far / t'.gap:=Vz (by lia);lia
 have hk:=I'.kept _ hq;have le:=I'.run.le;have m1:=I'.m1;rw[s.p,s.asked] at hk;have gz:(0:Int) < (t'.gap:Int):=by lia
 have gm:(t'.gap:Int) < 1073741824:=by lia
 have e1:(m:Int) / (t'.gap:Int)=((m / t'.gap:Nat):Int):=by simp
 have e2:(m:Int) % (t'.gap:Int)=((m % t'.gap:Nat):Int):=by simp
 have ix:az (.lst (t'.kept.map St.enc)) (.int ((m / t'.gap:Nat):Int))=XX (itr t.p t.asked (m / t'.gap*t'.gap)).enc:=by show atP _ _=_;rw[cH,RY,hk];rfl
 obtain ⟨x',lp⟩:=wJ P (k+3) g.b I' (.p (.int m)) (m % t'.gap) (m / t'.gap*t'.gap) XY 0 (by rw[Ur];lia);rw[s.p,s.asked] at lp;have em:m / t'.gap*t'.gap+m % t'.gap=m:=by rw[Ur];exact dm
 rw[em] at lp;have rg:c9 .rng1 [.int ((m % t'.gap:Nat):Int)]=XX (upto 0 (m % t'.gap)):=by
  rw[bB];have c:((-100000<=(((m % t'.gap:Nat):Int)):Bool)&&(((m % t'.gap:Nat):Int)<=100000:Bool))=XZ:=by simp only[Rn,decide_eq_true_eq];lia
  rw[if_pos c];rfl
 simp[-aJ,-bB,-Int.natCast_ediv,-Int.natCast_emod,a.ob,mq,b,g.b.ob,g.b.li,rd,gz,g0,gm,e1,e2,ix,rg,eU,lp,fn]
end
section
theorem BW (i:Nat) (hi:i < h.length) (ne:h'[i]?≠h[i]?) (w:W):fin h w h'=XX (w,h'):=by
 unfold fin
 by_cases c:h'.length=h.length
 rw[if_pos c]
 ·rw[if_neg c,if_neg];intro z;apply ne;have q:=Uo (l:=h') hi;rw[z] at q;exact q.symm
noncomputable def Tp.new (p:Pg) (asked:List Int) (ev most:Nat):Tp:=⟨p,asked,ev,most,[St.zero],0,St.zero,0⟩
theorem BY (P:TpP T G) (k:Nat) (p:Pg) (asked:List Int) (ev most:Nat) (hv:1<=ev) (h:HH) :
 runN T G (k+2) (.m "Tape" "__init__") [.o h.length,.p (bw p),.p (.lst (af asked)),.p (.int ev),.p (.int most)] (h++[.o "Tape" []])=XX (.p .non,h++[.o "Tape" ((Tp.new p asked ev most).fs (h.length+1)),.l [St.zero.enc]]):=by
 rw[run_eq P.init rfl];have b:=yC P.prg k;have c0:(if (1:Int) > (ev:Int) then (1:Int) else (ev:Int))=(ev:Int):=if_neg (by lia);have c1:(if (0:Int) > (most:Int) then (0:Int) else (most:Int))=(most:Int):=if_neg (by lia);have f:∀ (c:Cl) (g:HH) (w:W),c≠.o "Tape" []->fin (h++[.o "Tape" []]) w (h++c::g)=XX (w,h++c::g):=λc g w hc=>by refine BW h.length (by simp) ?_ w;simp;exact hc
 have f2:=f (.o "Tape" ((Tp.new p asked ev most).fs (h.length+1))) [.l [St.zero.enc]] (.p .non) (by simp[Tp.fs]);have fs:(Tp.new p asked ev most).fs (h.length+1)=([("program",.p (bw p)),("asked",.p (.lst (af asked))),("gap",.p (.int ev)),("most",.p (.int most)),("kept",.r (h.length+1)),("farthest",.p (.int 0)),("front",.p St.zero.enc),("now",.p (.int 0))]:List (ZZ×W)):=by simp[Tp.fs,Tp.new]
 rw[fs] at f2 ⊢;rw[eY];simp only[aY,RZ,Um,R6,SY];simp[c0,c1,b,f2]
theorem JC {ev:Nat} (hp:Pg.ok p) (ha:Ask asked) (R:Run p asked most e) (h1:1<=ev) (h2:ev<=1000) (h3:most<=1000):TI (Tp.new p asked ev most) e ev :=
 ⟨R,hp,ha,h1,h2,h3,SC _,rfl,by simp[Tp.new],by simp[Tp.new],λj hj=>by
  have:j=0:=by simpa [Tp.new] using hj
  subst this;simp[Tp.new,itr],SC _,⟨0,by simp[Tp.new],λz=>absurd z (Sw _)⟩⟩
theorem JD (h:HH) (p:Pg) (asked:List Int) (ev most:Nat):TAt (h++[.o "Tape" ((Tp.new p asked ev most).fs (h.length+1)),.l [St.zero.enc]]) h.length (h.length+1) (Tp.new p asked ev most) :=
 ⟨by simp,by simp[Tp.new]⟩
theorem TAt.app (a:TAt h n r t):TAt (h++g) n r t:=⟨(wH (k8 a.ob)).trans a.ob,(E6 (k9 a.li)).trans a.li⟩
end
noncomputable def ffC:E:=(.not (.callv 2 (Z9 (.var 3))))
noncomputable def ffB:S:=(.seq (.ife (.meth (.var 0) "is_last" (Z8 (.var 1) (.var 3))) (.ret (.cst .non)) .nil) (.seq (.set 3 (.meth (.var 0) "behind" (Z9 (.var 3)))) (.aug 1 .add (.cst (.int 1)))))
noncomputable def bQ:Fn:=⟨["self","moment","test"],["self","moment","test","state"], (.seq (.set 3 (.meth (.var 0) "at" (Z9 (.var 1)))) (.seq (.whl ffC ffB) (.ret (.var 1))))⟩
noncomputable def ltC:E:=(.and (.cmp .isN (.var 3) (.cst .non)) (.cmp .ge (.var 1) (.cst (.int 0))))
noncomputable def ltB:S:=(.seq (.set 4 (.bin .sub (.var 1) (.bin .mod (.var 1) (.fld (.var 0) "gap")))) (.seq (.set 3 (.meth (.var 0) "last_between" (Z7 (.var 4) (.var 1) (.var 2)))) (.set 1 (.bin .sub (.var 4) (.cst (.int 1))))))
noncomputable def cJ:Fn:=⟨["self","moment","test"],["self","moment","test","found","mark"], (.seq (.ex (.meth (.var 0) "check" (Z9 (.var 1)))) (.seq (.set 3 (.cst .non)) (.seq (.whl ltC ltB) (.ret (.var 3)))))⟩
noncomputable def lbB:S:=(.seq (.ife (.cmp .gt (.var 6) (.var 1)) (.set 4 (.meth (.var 0) "behind" (Z9 (.var 4)))) .nil) (.ife (.callv 3 (Z9 (.var 4))) (.set 5 (.var 6)) .nil))
noncomputable def bC:Fn:=⟨["self","mark","moment","test"],["self","mark","moment","test","state","found","number"], (.seq (.set 4 (.idx (.fld (.var 0) "kept") (.bin .fdiv (.var 1) (.fld (.var 0) "gap")))) (.seq (.set 5 (.cst .non)) (.seq (.for [(6,"number")] .rng2 (Z8 (.var 1) (.bin .add (.var 2) (.cst (.int 1)))) lbB) (.ret (.var 5)))))⟩
structure TpF (T:FK->Option Fn):Prop where
 first:T (.m "Tape" "first_from")=XX bQ
structure TpB (T:FK->Option Fn):Prop where
 last:T (.m "Tape" "last_to")=XX cJ
 betw:T (.m "Tape" "last_between")=XX bC
structure TpL (T:FK->Option Fn):Prop where
 f:TpF T
 b:TpB T
noncomputable def dO:Option Nat->D
 | none=>.non| some j=>.int j
@[simp] theorem JE:dO XY=.non:=rfl
@[simp] theorem JF (j:Nat):dO (XX j)=.int j:=rfl
structure FF (g:Nat->Bool) (m e:Nat) (o:Option Nat):Prop where
 yes:∀ j,o=XX j->m<=j/\j<=e/\g j=XZ/\∀ i,m<=i->i < j->g i=X0
 no:o=XY->∀ i,m<=i->i<=e->g i=X0
structure FL (g:Nat->Bool) (a b:Nat) (o:Option Nat):Prop where
 yes:∀ j,o=XX j->a<=j/\j<=b/\g j=XZ/\∀ i,j < i->i<=b->g i=X0
 no:o=XY->∀ i,a<=i->i<=b->g i=X0
section
def Tst (T:FK->Option Fn) (G:ZZ->Option W) (n:Nat) (t:Tp) (q:FK) (cs:List Cp) (g:Nat->Bool) (e:Nat):Prop :=
 ∀ k h r t',TAt h n r t'->Sm8 t t'->∀ i,i<=e->runN T G (k+10) q (.p (itr t.p t.asked i).enc::cs.map Cp.w) h=XX (.p (.bl (g i)),h)
theorem wK (t:Tp) (r:Nat):bq "first_from" (t.fs r)=XY:=cI t r rfl
theorem BZ (t:Tp) (r:Nat):bq "last_to" (t.fs r)=XY:=cI t r rfl
theorem JG (t:Tp) (r:Nat):bq "last_between" (t.fs r)=XY:=cI t r rfl
theorem qE (R:Run p asked most e) (h:m<=e):(decide (most<=m)||over p (itr p asked m))=decide (m=e):=by
 have le:=R.le
 by_cases c:m=e
 ·rw[decide_eq_true c];rcases R.last with z|z
  rw[decide_eq_true (by lia)];rfl;rw[c,z,Xd]
 rw[decide_eq_false c,R.on m (by lia),decide_eq_false (by lia)];rfl
theorem E9 (P:TpP T G) (k:Nat) (a:TAt h n r t) (I:TI t e gv) (s0:Sm8 t0 t) (tt:Tst T G n t0 q cs g e):∀ (d f m:Nat),e - m=d->d < f->m<=e →
 ∃ o,FF g m e o/\(∀ j,o=XX j->aQ (BT.ev (runN T G (k+10)) G ffC) (evS (runN T G (k+10)) G ffB) f [XX (.o n),XX (.p (.int m)),XX (.c q cs),XX (.p (itr t.p t.asked m).enc)] h=XX (.nx [XX (.o n),XX (.p (.int j)),XX (.c q cs),XX (.p (itr t.p t.asked j).enc)] h)) ∧
  (o=XY->aQ (BT.ev (runN T G (k+10)) G ffC) (evS (runN T G (k+10)) G ffB) f [XX (.o n),XX (.p (.int m)),XX (.c q cs),XX (.p (itr t.p t.asked m).enc)] h=XX (.rt (.p .non) h)):=by
 intro d
 induction d with
 | zero =>
  intro f m hd hf hm;have em:m=e:=by lia
  cases f with
  | zero=>lia
  | succ f =>
   have t1:=tt k h r t a s0 m hm;rw[← s0.p,← s0.asked] at t1;have ts:BT.ev (runN T G (k+10)) G ffC [XX (.o n),XX (.p (.int m)),XX (.c q cs),XX (.p (itr t.p t.asked m).enc)] h=XX (.p (.bl (!g m)),h):=by simp[ffC,t1]
   cases gm:g m with
   | true =>
    rw[gm] at ts;refine ⟨XX m,⟨λj e1=>by cases e1;exact ⟨Rq _,hm,gm,λi h1 h2=>by lia⟩,λz=>by cases z⟩,λj e1=>?_,λz=>by cases z⟩;cases e1;rw[aQ,ts,WO,cu,gM]
   | false =>
    rw[gm] at ts;refine ⟨XY,⟨λj e1=>(by cases e1),λ_ i h1 h2=>by rw[show i=m by lia];exact gm⟩,λj e1=>(by cases e1),λ_=>?_⟩;have il:=eH P (k+8) a m (itr t.p t.asked m);rw[qE I.run hm,decide_eq_true em] at il;have bd:evS (runN T G (k+10)) G ffB [XX (.o n),XX (.p (.int m)),XX (.c q cs),XX (.p (itr t.p t.asked m).enc)] h=XX (.rt (.p .non) h):=by simp[ffB,a.ob,ff,il]
    rw[aQ,ts,Bool.not_false,cu,gK,bd,zL]
 | succ d ih =>
  intro f m hd hf hm;cases f with
  | zero=>lia
  | succ f =>
   have t1:=tt k h r t a s0 m hm;rw[← s0.p,← s0.asked] at t1;have ts:BT.ev (runN T G (k+10)) G ffC [XX (.o n),XX (.p (.int m)),XX (.c q cs),XX (.p (itr t.p t.asked m).enc)] h=XX (.p (.bl (!g m)),h):=by simp[ffC,t1]
   cases gm:g m with
   | true =>
    rw[gm] at ts;refine ⟨XX m,⟨λj e1=>by cases e1;exact ⟨Rq _,hm,gm,λi h1 h2=>by lia⟩,λz=>by cases z⟩,λj e1=>?_,λz=>by cases z⟩;cases e1;rw[aQ,ts,WO,cu,gM]
   | false =>
    rw[gm] at ts;obtain ⟨o,F,y,nn⟩:=ih f (m+1) (by lia) (by lia) (by lia);have il:=eH P (k+8) a m (itr t.p t.asked m);rw[qE I.run hm,decide_eq_false (by lia)] at il;have le:=I.run.le;have m1:=I.m1;have bh:=fD P (k+3) a I.ok (j:=m) (st:=itr t.p t.asked m) (by lia) (kZ I.ok I.ask I.run m hm) (I.run.on m (by lia));have s1:step t.p t.asked (itr t.p t.asked m)=itr t.p t.asked (m+1):=rfl;rw[s1] at bh;have em:(m:Int)+1=((m+1:Nat):Int):=by lia
    have bd:evS (runN T G (k+10)) G ffB [XX (.o n),XX (.p (.int m)),XX (.c q cs),XX (.p (itr t.p t.asked m).enc)] h=XX (.nx [XX (.o n),XX (.p (.int ((m+1:Nat):Int))),XX (.c q cs),XX (.p (itr t.p t.asked (m+1)).enc)] h):=by simp[ffB,a.ob,ff,il,gE,bh]
    have wl:∀ z,aQ (BT.ev (runN T G (k+10)) G ffC) (evS (runN T G (k+10)) G ffB) f [XX (.o n),XX (.p (.int ((m+1:Nat):Int))),XX (.c q cs),XX (.p (itr t.p t.asked (m+1)).enc)] h=z->aQ (BT.ev (runN T G (k+10)) G ffC) (evS (runN T G (k+10)) G ffB) (f+1) [XX (.o n),XX (.p (.int m)),XX (.c q cs),XX (.p (itr t.p t.asked m).enc)] h=z:=λz e1=>by rw[aQ,ts,Bool.not_false,cu,gK,bd,aX,e1]
    refine ⟨o,⟨λj e1=>?_,λz i h1 h2=>?_⟩,λj e1=>wl _ (y j e1),λz=>wl _ (nn z)⟩
    ·obtain ⟨q1,q2,q3,q4⟩:=F.yes j e1;refine ⟨by lia,q2,q3,λi h1 h2=>?_⟩
     by_cases c:i=m
     rw[c];exact gm;exact q4 i (by lia) h2
    ·by_cases c:i=m
     rw[c];exact gm;exact F.no z i (by lia) h2
theorem yI (P:TpP T G) (L:TpF T) (k:Nat) (a:TAt h n r t) (I:TI t e gv) (tt:Tst T G n t q cs g e) (m:Nat) (hm:m<=e) :
 JB (runN T G (k+12) (.m "Tape" "first_from") [.o n,.p (.int m),.c q cs] h) dO (FF g m e) n h r t e gv:=by
 obtain ⟨h',r',t',b,g1,I',s,f⟩:=BV P k a I m hm;have le:=I.run.le;have m1:=I.m1;obtain ⟨o,F,y,nn⟩:=E9 P (k+1) g1.b I' s tt (e - m) 100000 m rfl (by lia) hm;refine ⟨o,h',r',t',?_,F,g1,I',s⟩;rw[s.p,s.asked] at y nn;rw[run_eq L.first rfl,bQ];have fn:=λw=>aZ g1 w;cases o with
 | none =>
  have w1:=nn rfl;simp[a.ob,BQ,b,turns,w1,fn]
 | some j =>
  have w1:=y j rfl;simp[a.ob,BQ,b,turns,w1,fn]
theorem cV (lo:Int) (q:Nat):upto lo (q+1)=.int lo::upto (lo+1) q:=by unfold upto;rw[Vl,RZ,SI];simp only[Int.natCast_zero,Int.add_zero,UG,true_and];apply SV;intro i _;simp;lia
theorem wL (P:TpP T G) (k:Nat) (A:TAt h n r t) (I:TI t e gv) (s0:Sm8 t0 t) {E:Nat} (tt:Tst T G n t0 q cs g E) (a:Nat) (w2:W):∀ (c j:Nat) (o:Option Nat) (x:Option W),a<=j->j+c<=e->j+c<=E->FL g a j o →
 ∃ o' x',aR (evS (runN T G (k+10)) G lbB) [(6,"number")] (upto ((j+1:Nat):Int) c) [XX (.o n),XX (.p (.int a)),XX w2,XX (.c q cs),XX (.p (itr t.p t.asked j).enc),XX (.p (dO o)),x] h =
  XX (.nx [XX (.o n),XX (.p (.int a)),XX w2,XX (.c q cs),XX (.p (itr t.p t.asked (j+c)).enc),XX (.p (dO o')),x'] h)/\FL g a (j+c) o'
 | 0,j,o,x,_,_,_,F=>⟨o,x,rfl,F⟩
 | c+1,j,o,x,h1,h2,h2',F=>by
  have le:=I.run.le;have m1:=I.m1;have t1:=tt k h r t A s0 (j+1) (by lia);rw[← s0.p,← s0.asked] at t1;have bh:=fD P (k+3) A I.ok (j:=j) (st:=itr t.p t.asked j) (by lia) (kZ I.ok I.ask I.run j (by lia)) (I.run.on j (by lia));have s1:step t.p t.asked (itr t.p t.asked j)=itr t.p t.asked (j+1):=rfl;rw[s1] at bh;have gt:(a:Int) < ((j+1:Nat):Int):=by lia
  have F1:FL g a (j+1) (if g (j+1)=XZ then XX (j+1) else o):=by
   by_cases c1:g (j+1)=XZ
   ·rw[if_pos c1];exact ⟨λi e1=>by cases e1;exact ⟨by lia,Rq _,c1,λi h3 h4=>by lia⟩,λz=>by cases z⟩
   ·rw[if_neg c1];have c2:g (j+1)=X0:=by simpa using c1
    refine ⟨λi e1=>?_,λz i h3 h4=>?_⟩
    ·obtain ⟨q1,q2,q3,q4⟩:=F.yes i e1;refine ⟨q1,by lia,q3,λi' h3 h4=>?_⟩
     by_cases c3:i'=j+1
     rw[c3];exact c2;exact q4 i' h3 (by lia)
    ·by_cases c3:i=j+1
     rw[c3];exact c2;exact F.no z i h3 (by lia)
  obtain ⟨o',x',b,F'⟩:=wL P k A I s0 tt a w2 c (j+1) _ (XX (.p (.int ((j+1:Nat):Int)))) (by lia) (by lia) (by lia) F1;have ej:j+1+c=j+(c+1):=by lia
  rw[ej] at b F';refine ⟨o',x',?_,F'⟩;have bd:evS (runN T G (k+10)) G lbB [XX (.o n),XX (.p (.int a)),XX w2,XX (.c q cs),XX (.p (itr t.p t.asked j).enc),XX (.p (dO o)),XX (.p (.int ((j+1:Nat):Int)))] h =
   XX (.nx [XX (.o n),XX (.p (.int a)),XX w2,XX (.c q cs),XX (.p (itr t.p t.asked (j+1)).enc),XX (.p (dO (if g (j+1)=XZ then XX (j+1) else o))),XX (.p (.int ((j+1:Nat):Int)))] h):=by
   generalize hz:((j+1:Nat):Int)=z at gt;have ez:∀ i:Nat,i=j+1->(D.int (i:Int))=D.int z:=λi e1=>by rw[e1,hz]
   cases g1:g (j+1) with
   | true =>
    rw[g1] at t1;simp[lbB,gt,A.ob,gE,bh,t1,hz]
   | false =>
    rw[g1] at t1;simp[lbB,gt,A.ob,gE,bh,t1]
  have e1:((j+1:Nat):Int)+1=((j+1+1:Nat):Int):=by lia
  rw[cV,e1];have st:∀ (d:D) (l:List D) (s':Sl) (w:Option W),aR (evS (runN T G (k+10)) G lbB) [(6,"number")] (d::l) [XX (.o n),XX (.p (.int a)),XX w2,XX (.c q cs),XX (.p (itr t.p t.asked j).enc),XX (.p (dO o)),w] h =
   fk (evS (runN T G (k+10)) G lbB [XX (.o n),XX (.p (.int a)),XX w2,XX (.c q cs),XX (.p (itr t.p t.asked j).enc),XX (.p (dO o)),XX (.p d)] h) (aR (evS (runN T G (k+10)) G lbB) [(6,"number")] l):=λd l s' w=>rfl
  rw[st _ _ [] x,bd,aX,b]
theorem B0 (P:TpP T G) (L:TpB T) (k:Nat) (A:TAt h n r t) (I:TI t e gv) (s0:Sm8 t0 t) {E:Nat} (tt:Tst T G n t0 q cs g E) (a m:Nat) (h1:a<=m) (h2:m<=t.far) (hE:m<=E) (h3:a % t.gap=0) :
 ∃ o,runN T G (k+11) (.m "Tape" "last_between") [.o n,.p (.int a),.p (.int m),.c q cs] h=XX (.p (dO o),h)/\FL g a m o:=by
 have le:=I.run.le;have m1:=I.m1;have fr:=I.far;have g0:=I.g0;have g1':=I.g1;have t1:=tt k h r t A s0 a (by lia);rw[← s0.p,← s0.asked] at t1;have F0:FL g a a (if g a=XZ then XX a else XY):=by
  by_cases c:g a=XZ
  rw[if_pos c];exact ⟨λi e1=>by cases e1;exact ⟨Rq _,Rq _,c,λi h3 h4=>by lia⟩,λz=>by cases z⟩;rw[if_neg c];exact ⟨λi e1=>(by cases e1),λ_ i h3 h4=>by rw[show i=a by lia];simpa using c⟩
 obtain ⟨o,x',b,F⟩:=wL P k A I s0 tt a (.p (.int m)) (m - a) a _ (XX (.p (.int (a:Int)))) (Rq _) (by lia) (by lia) F0;rw[show a+(m - a)=m by lia] at b F;refine ⟨o,?_,F⟩;rw[run_eq L.betw rfl,bC];have hq:a / t.gap < t.kept.length:=by rw[I.len];have:a / t.gap<=t.far / t.gap:=Vz (by lia);lia
 have hk:=I.kept _ hq;have ea:a / t.gap*t.gap=a:=Nat.div_mul_cancel (Nat.dvd_of_mod_eq_zero h3);rw[ea] at hk;have e1:(a:Int) / (t.gap:Int)=((a / t.gap:Nat):Int):=by simp
 have ix:az (.lst (t.kept.map St.enc)) (.int ((a / t.gap:Nat):Int))=XX (itr t.p t.asked a).enc:=by show atP _ _=_;rw[cH,RY,hk];rfl
 have gz:(0:Int) < (t.gap:Int):=by lia
 have gm:(t.gap:Int) < 1073741824:=by lia
 have rg:c9 .rng2 [.int (a:Int),.int ((m:Int)+1)]=XX (.int (a:Int)::upto ((a+1:Nat):Int) (m - a)):=by
  rw[cY];have c:((-100000<=(a:Int):Bool)&&((a:Int)<=100000:Bool)&&((-100000<=(m:Int)+1:Bool))&&(((m:Int)+1<=100000:Bool)))=XZ:=by simp only[Rn,decide_eq_true_eq];lia
  rw[if_pos c,show ((m:Int)+1 - (a:Int)).toNat=(m - a)+1 by lia,cV];rfl
 have bd:evS (runN T G (k+10)) G lbB [XX (.o n),XX (.p (.int a)),XX (.p (.int m)),XX (.c q cs),XX (.p (itr t.p t.asked a).enc),XX (.p .non),XX (.p (.int (a:Int)))] h =
  XX (.nx [XX (.o n),XX (.p (.int a)),XX (.p (.int m)),XX (.c q cs),XX (.p (itr t.p t.asked a).enc),XX (.p (dO (if g a=XZ then XX a else XY))),XX (.p (.int (a:Int)))] h):=by
  cases g1:g a with
  | _=>rw[g1] at t1;simp[lbB,t1]
 have st:∀ (d:D) (l:List D) (w:Option W),aR (evS (runN T G (k+10)) G lbB) [(6,"number")] (d::l) [XX (.o n),XX (.p (.int a)),XX (.p (.int m)),XX (.c q cs),XX (.p (itr t.p t.asked a).enc),XX (.p .non),w] h =
  fk (evS (runN T G (k+10)) G lbB [XX (.o n),XX (.p (.int a)),XX (.p (.int m)),XX (.c q cs),XX (.p (itr t.p t.asked a).enc),XX (.p .non),XX (.p d)] h) (aR (evS (runN T G (k+10)) G lbB) [(6,"number")] l):=λd l w=>rfl
 have lp:aR (evS (runN T G (k+10)) G lbB) [(6,"number")] (.int (a:Int)::upto ((a+1:Nat):Int) (m - a)) [XX (.o n),XX (.p (.int a)),XX (.p (.int m)),XX (.c q cs),XX (.p (itr t.p t.asked a).enc),XX (.p .non),XY] h=XX (.nx [XX (.o n),XX (.p (.int a)),XX (.p (.int m)),XX (.c q cs),XX (.p (itr t.p t.asked m).enc),XX (.p (dO o)),x'] h):=by rw[st,bd,aX,b]
 generalize upto ((a+1:Nat):Int) (m - a)=ll at rg lp;simp[-aJ,-cY,-Int.natCast_ediv,A.ob,A.li,rd,gz,g0,gm,e1,ix,rg,eU,-aR,lp,aj]
theorem wM (P:TpP T G) (L:TpB T) (k:Nat) (A:TAt h n r t) (I:TI t e gv) (s0:Sm8 t0 t) {E:Nat} (tt:Tst T G n t0 q cs g E) (M:Nat) (hM:M<=t.far) (hE:M<=E):∀ (f mm:Nat) (o:Option Nat) (x:Option W),mm < f->mm<=M+1 →
 (o=XY->∀ i,mm<=i->i<=M->g i=X0)->(∀ j,o=XX j->FL g 0 M (XX j)) →
 ∃ o' y x',aQ (BT.ev (runN T G (k+11)) G ltC) (evS (runN T G (k+11)) G ltB) f [XX (.o n),XX (.p (.int ((mm:Int) - 1))),XX (.c q cs),XX (.p (dO o)),x] h=XX (.nx [XX (.o n),y,XX (.c q cs),XX (.p (dO o')),x'] h)/\FL g 0 M o'
 | 0,mm,o,x,hf,_,_,_=>absurd hf (Wx _)
 | f+1,mm,XX j,x,hf,hm,i1,i2=>by
  refine ⟨XX j,XX (.p (.int ((mm:Int) - 1))),x,?_,i2 j rfl⟩;have ts:BT.ev (runN T G (k+11)) G ltC [XX (.o n),XX (.p (.int ((mm:Int) - 1))),XX (.c q cs),XX (.p (dO (XX j))),x] h=XX (.p (.bl X0),h):=by simp[ltC]
  rw[aQ,ts,cu,gM]
 | f+1,0,XY,x,hf,hm,i1,i2=>by
  refine ⟨XY,XX (.p (.int (((0:Nat):Int) - 1))),x,?_,⟨λj z=>(by cases z),λ_ i h1 h2=>i1 rfl i h1 h2⟩⟩;have ts:BT.ev (runN T G (k+11)) G ltC [XX (.o n),XX (.p (.int (((0:Nat):Int) - 1))),XX (.c q cs),XX (.p (dO XY)),x] h=XX (.p (.bl X0),h):=by simp[ltC]
  rw[aQ,ts,cu,gM]
 | f+1,m+1,XY,x,hf,hm,i1,i2=>by
  have e0:((m+1:Nat):Int) - 1=(m:Int):=by lia
  rw[e0];have ts:BT.ev (runN T G (k+11)) G ltC [XX (.o n),XX (.p (.int (m:Int))),XX (.c q cs),XX (.p (dO XY)),x] h=XX (.p (.bl XZ),h):=by simp[ltC]
  have g0:=I.g0;have dm:=Vw m t.gap;have md:=WL m g0;have mk:(m - m % t.gap) % t.gap=0:=by
   have:m - m % t.gap=t.gap*(m / t.gap):=by lia
   rw[this];exact Nat.mul_mod_right _ _
  obtain ⟨o1,b1,F1⟩:=B0 P L k A I s0 tt (m - m % t.gap) m (by lia) (by lia) (by lia) mk;have hmm:m % t.gap<=m:=Nat.mod_le _ _;have em:(m:Int) - (m:Int) % (t.gap:Int)=((m - m % t.gap:Nat):Int):=by
   have:(m:Int) % (t.gap:Int)=((m % t.gap:Nat):Int):=by simp
   rw[this];lia
  have gz:(0:Int) < (t.gap:Int):=by lia
  have bd:evS (runN T G (k+11)) G ltB [XX (.o n),XX (.p (.int (m:Int))),XX (.c q cs),XX (.p (dO XY)),x] h=XX (.nx [XX (.o n),XX (.p (.int (((m - m % t.gap:Nat):Int) - 1))),XX (.c q cs),XX (.p (dO o1)),XX (.p (.int ((m - m % t.gap:Nat):Int)))] h):=by generalize hz:((m - m % t.gap:Nat):Int)=z at b1 em;simp[ltB,A.ob,gz,g0,em,JG,b1]
  obtain ⟨o',y,x',b2,F2⟩:=wM P L k A I s0 tt M hM hE f (m - m % t.gap) o1 (XX (.p (.int ((m - m % t.gap:Nat):Int)))) (by lia) (by lia) (λz i h1 h2=>by
   by_cases c:i<=m
   exact F1.no z i h1 c
   ·exact i1 rfl i (by lia) h2) (λj z=>by
   obtain ⟨q1,q2,q3,q4⟩:=F1.yes j z;refine ⟨λj' z'=>?_,λz'=>by cases z'⟩;cases z';refine ⟨SC _,by lia,q3,λi h1 h2=>?_⟩
   by_cases c:i<=m
   exact q4 i h1 c
   ·exact i1 rfl i (by lia) h2)
  refine ⟨o',y,x',?_,F2⟩;rw[aQ,ts,cu,gK,bd,aX,b2]
theorem B5 (P:TpP T G) (L:TpB T) (k:Nat) (a:TAt h n r t) (I:TI t e gv) {E:Nat} (tt:Tst T G n t q cs g E) (m:Nat) (hm:m<=e) (hE:m<=E) :
 JB (runN T G (k+12) (.m "Tape" "last_to") [.o n,.p (.int m),.c q cs] h) dO (FL g 0 m) n h r t e gv:=by
 obtain ⟨h',r',t',b,g1,I',s,f⟩:=pG P (k+1) a I m hm;have le:=I.run.le;have m1:=I.m1;obtain ⟨o,y,x',w1,F⟩:=wM P L k g1.b I' s tt m (by lia) hE 100000 (m+1) XY XY (by lia) (Rq _) (λ_ i h1 h2=>by lia) (λj z=>by cases z);refine ⟨o,h',r',t',?_,F,g1,I',s⟩;rw[run_eq L.last rfl,cJ];have fn:=λw=>aZ g1 w;have e0:((m+1:Nat):Int) - 1=(m:Int):=by lia
 rw[e0] at w1;simp only[JE] at w1;simp[a.ob,mq,b,turns,w1,fn]
structure TpE (T:FK->Option Fn):Prop where
 end_:T (.m "Tape" "end")=XX fY
theorem B6 (P:TpP T G) (M:TpE T) (k:Nat) (a:TAt h n r t) (I:TI t e gv) :
 yH (runN T G (k+9) (.m "Tape" "end") [.o n] h) (.p (.int e)) n h r t e gv e:=by
 obtain ⟨h',r',t',b,g,I',s,f⟩:=pF P k a I t.most;have le:=I.run.le;have fr:=I.far;have fe:t'.far=e:=by lia
 refine ⟨h',r',t',?_,g,I',s,fe⟩;rw[run_eq M.end_ rfl];have fn:=λw=>aZ g w;simp[fY,a.ob,wI,b,g.b.ob,fe,fn]
end
inductive Th where
 | nm (x:Nm)|cl (i:Nat) (h:i < 4)
noncomputable def Th.enc:Th->D
 | .nm x=>.str x.w| .cl i _=>.int i
noncomputable def Th.val (st:St):Th->Int
 | .nm x=>st.names.getD x.ix 0| .cl i _=>st.cells.getD i 0
noncomputable def wb (st:St):Rw->Option Th
 | .set x _=>XX (.nm x)| .ask x=>XX (.nm x)| .put s _=>XX (.cl (s.val st % 4).toNat (by lia))| _=>XY
noncomputable def wn (t:Tp) (i:Nat):Option Th:=(t.p[(itr t.p t.asked i).row]?).bind (wb (itr t.p t.asked i))
section
end
theorem gF (L:Lw T) (ns:List Int) (hl:ns.length<=1000) (q many:Int) (hm:0 < many):∃ z:Nat,(z:Int) < many/\∀ k h,runN T G (k+2) "_law_drawn" [.p (.lst (af ns)),.p (.int q),.p (.int many)] h=XX (.p (.int (z:Int)),h):=by have h0:=cS ns q hm;have h1:=cT ns q hm;refine ⟨(drw ns q many).toNat,by lia,λk h=>?_⟩;have:=c6 (G:=G) L k ns hl q many hm h;rw[this];congr 4;lia
section
end
noncomputable def rdC:E:=(.not (.meth (.var 0) "is_last" (Z8 (.bin .sub (.bi .len X0 (Z9 (.var 3))) (.cst (.int 1))) (.var 2))))
noncomputable def rdB:S:=(.seq (.set 2 (.meth (.var 0) "behind" (Z9 (.var 2)))) (.ex (.me .append (.var 3) (Z9 (.callv 1 (Z9 (.var 2)))))))
noncomputable def cg:Fn:=⟨["self","reader"],["self","reader","state","told"], (.seq (.set 2 (.idx (.fld (.var 0) "kept") (.cst (.int 0)))) (.seq (.set 3 (.lst XZ (Z9 (.callv 1 (Z9 (.var 2)))))) (.seq (.whl rdC rdB) (.ret (.var 3)))))⟩
structure TpR (T:FK->Option Fn):Prop where
 readings:T (.m "Tape" "readings")=XX cg
section
theorem uX (t:Tp) (r:Nat):bq "readings" (t.fs r)=XY:=cI t r rfl
def Rdg (T:FK->Option Fn) (G:ZZ->Option W) (n:Nat) (t:Tp) (q:FK) (cs:List Cp) (f:Nat->D) (e:Nat):Prop :=
 ∀ k h r t',TAt h n r t'->Sm8 t t'->∀ i,i<=e->runN T G (k+10) q (.p (itr t.p t.asked i).enc::cs.map Cp.w) h=XX (.p (f i),h)
noncomputable def each (f:Nat->D) (e:Nat):List D:=(RK (e+1)).map f
theorem iU (f:Nat->D) (e:Nat):(each f e).length=e+1:=by simp[each]
theorem yJ (f:Nat->D) (e:Nat):each f (e+1)=each f e++[f (e+1)]:=by unfold each;rw[UR (n:=e+1),Tg];rfl
theorem qF (f:Nat->D) (h:i<=e):(each f e)[i]?=XX (f i):=by unfold each;rw[RY,Uk (by lia)];rfl
theorem Fb (P:TpP T G) (k:Nat) (a:TAt h n r t) (I:TI t e gv) (tt:Rdg T G n t q cs f e):∀ (d u m:Nat),e - m=d->d < u->m<=e →
 aQ (BT.ev (runN T G (k+10)) G rdC) (evS (runN T G (k+10)) G rdB) u [XX (.o n),XX (.c q cs),XX (.p (itr t.p t.asked m).enc),XX (.r h.length)] (h++[.l (each f m)]) =
  XX (.nx [XX (.o n),XX (.c q cs),XX (.p (itr t.p t.asked e).enc),XX (.r h.length)] (h++[.l (each f e)])):=by
 intro d
 induction d with
 | zero =>
  intro u m hd hu hm;have em:m=e:=by lia
  subst em;cases u with
  | zero=>lia
  | succ u =>
   have A:=a.app (g:=[.l (each f m)]);have il:=eH P (k+8) A m (itr t.p t.asked m);rw[qE I.run hm,decide_eq_true rfl] at il;have l1:(((each f m).length:Nat):Int) - 1=(m:Int):=by rw[iU];lia
   have ts:BT.ev (runN T G (k+10)) G rdC [XX (.o n),XX (.c q cs),XX (.p (itr t.p t.asked m).enc),XX (.r h.length)] (h++[.l (each f m)])=XX (.p (.bl X0),h++[.l (each f m)]):=by simp[rdC,A.ob,ff,rd,l1,il]
   rw[aQ,ts,cu,gM]
 | succ d ih =>
  intro u m hd hu hm;cases u with
  | zero=>lia
  | succ u =>
   have A:=a.app (g:=[.l (each f m)]);have il:=eH P (k+8) A m (itr t.p t.asked m);rw[qE I.run hm,decide_eq_false (by lia)] at il;have l1:(((each f m).length:Nat):Int) - 1=(m:Int):=by rw[iU];lia
   have ts:BT.ev (runN T G (k+10)) G rdC [XX (.o n),XX (.c q cs),XX (.p (itr t.p t.asked m).enc),XX (.r h.length)] (h++[.l (each f m)])=XX (.p (.bl XZ),h++[.l (each f m)]):=by simp[rdC,A.ob,ff,rd,l1,il]
   have le:=I.run.le;have m1:=I.m1;have bh:=fD P (k+3) A I.ok (j:=m) (st:=itr t.p t.asked m) (by lia) (kZ I.ok I.ask I.run m hm) (I.run.on m (by lia));have s1:step t.p t.asked (itr t.p t.asked m)=itr t.p t.asked (m+1):=rfl;rw[s1] at bh;have t1:=tt k (h++[.l (each f m)]) r t A (.refl t) (m+1) (by lia);have l2:(each f m).length < 100000:=by rw[iU];lia
   have bd:evS (runN T G (k+10)) G rdB [XX (.o n),XX (.c q cs),XX (.p (itr t.p t.asked m).enc),XX (.r h.length)] (h++[.l (each f m)])=XX (.nx [XX (.o n),XX (.c q cs),XX (.p (itr t.p t.asked (m+1)).enc),XX (.r h.length)] (h++[.l (each f (m+1))])):=by simp[rdB,A.ob,gE,bh,t1,l2,yJ]
   rw[aQ,ts,cu,gK,bd,aX];exact ih u (m+1) (by lia) (by lia) (by lia)
theorem qG (P:TpP T G) (Q:TpR T) (k:Nat) (a:TAt h n r t) (I:TI t e gv) (tt:Rdg T G n t q cs f e) :
 runN T G (k+11) (.m "Tape" "readings") [.o n,.c q cs] h=XX (.p (.lst (each f e)),h):=by
 have le:=I.run.le;have m1:=I.m1;have k0:0 < t.kept.length:=by rw[I.len];exact Nat.succ_pos _
 have hk:=I.kept 0 k0;rw[Nat.zero_mul] at hk;have ix:az (.lst (t.kept.map St.enc)) (.int 0)=XX (itr t.p t.asked 0).enc:=by show atP _ ((0:Nat):Int)=_;rw[cH,RY,hk];rfl
 have t0:=tt k h r t a (.refl t) 0 (SC _);have lp:=Fb P k a I tt (e - 0) 100000 0 rfl (by lia) (SC _);have e0:each f 0=[f 0]:=rfl;rw[e0] at lp;rw[run_eq Q.readings rfl,cg];simp[-aJ,a.ob,a.li,rd,ix,t0,turns,lp,Bk]
end
theorem mw {cond:Es} (e1:evs F G sa s h=XX (ws,h1)) (e2:(rds ws h1).bind (c9 sr)=XX ds) (e3:frees s fv=XX fs) (e4:eU ws=XZ) (e5:bA (d7 (evs F G cond) (BT.ev F G elt) fs) tg.length ds h1=XX (xs,h2)) (e6:xs.length<=100000):BT.ev F G (.comp X0 sr sa tg fv cond elt) s h=XX (.p (.lst xs),h2):=by rw[BT.ev,e1,bH];unfold mQ;rw[e2,e3];show (if eU ws=XZ then _ else _)=_;rw[if_pos e4,e5,bH];unfold fj;rw[if_pos (show xs.length<=lim from e6)];rfl
theorem B7 (f:List D->HH->Option (Option D×HH)) (mk:α->D) (g:α->Option D) (h:HH):∀ (l:List α),(∀ x∈l,f [mk x] h=XX (g x,h))->bA f 1 (l.map mk) h=XX (l.filterMap g,h):=by
 intro l
 induction l with
 | nil=>intro _;rfl
 | cons x r ih =>
  intro hf;rw[RZ,bA,jU];show bnd (f [mk x] h) (zG (bA f 1 (r.map mk)))=_;rw[hf x RL,bH,vv,ih λy hy=>hf y (RJ _ hy),bH,rN,Ss];cases g x<;>rfl
theorem Fc (p:α->Bool) (m:α->β) (l:List α):l.filterMap (λx=>if p x=XZ then XX (m x) else XY)=(l.filter p).map m:=by
 induction l with
 | nil=>rfl
 | cons x r ih =>
  rw[Ss,Ui];cases p x with
  | _=>simp[ih]
noncomputable def wv (t:Tp) (th:Th) (i:Nat):Int:=th.val (itr t.p t.asked i)
section
@[simp] theorem Rl (h:HH) (a:Cl) (r:HH):dat (h++a::r) h.length=xN a:=by simp[dat]
end
theorem JH (f:List D->HH->Option (Option D×HH)) (n:Nat) (mk:α->D) (tx:α->List D) (g:α->Option D) (h:HH):∀ (l:List α),(∀ x∈l,target n (mk x)=XX (tx x)/\f (tx x) h=XX (g x,h))->bA f n (l.map mk) h=XX (l.filterMap g,h):=by
 intro l
 induction l with
 | nil=>intro _;rfl
 | cons x r ih =>
  intro hf;obtain ⟨h1,h2⟩:=hf x RL;rw[RZ,bA,h1];show bnd (f (tx x) h) (zG (bA f n (r.map mk)))=_;rw[h2,bH,vv,ih λy hy=>hf y (RJ _ hy),bH,rN,Ss];cases g x<;>rfl
noncomputable def mom (g:Nat->Bool) (e:Nat):List Nat:=(RK (e+1)).filter g
theorem Fd:i∈mom g e↔i<=e/\g i=XZ:=by unfold mom;rw[List.mem_filter,List.mem_range];constructor<;>rintro ⟨a,b⟩<;>exact ⟨by lia,b⟩
theorem wN (g:Nat->Bool) (e:Nat):(mom g e).length<=e+1:=by have:=Tw g (RK (e+1));rw[Uy] at this;exact this
section
end
noncomputable def ig:Fn:=⟨["state"],["state"], (.ret (.bi .len X0 (Z9 (.idx (.var 0) (.glo "CALLS")))))⟩
noncomputable def cC:Fn:=⟨["tape","moment"],["tape","moment"], (.ret (.call "open_in" (Z9 (.meth (.var 0) "at" (Z9 (.var 1))))))⟩
noncomputable def bx:Fn:=⟨["tape","moment","bound"],["tape","moment","bound","found","<next_within>"], (.seq (.ife (.not (.meth (.var 0) "has" (Z9 (.bin .add (.var 1) (.cst (.int 1)))))) (.ret (.var 1)) .nil) (.seq (.set 3 (.methL (.var 0) "first_from" (Z9 (.bin .add (.var 1) (.cst (.int 1)))) 9 [(2,"bound")])) (.ret (.ite (.cmp .isN (.var 3) (.cst .non)) (.meth (.var 0) "end" .nil) (.var 3)))))⟩
noncomputable def bz:Fn:=⟨["tape","moment","bound"],["tape","moment","bound","found","<last_within>"], (.seq (.ife (.cmp .eq (.var 1) (.cst (.int 0))) (.ret (.cst (.int 0))) .nil) (.seq (.set 3 (.methL (.var 0) "last_to" (Z9 (.bin .sub (.var 1) (.cst (.int 1)))) 10 [(2,"bound")])) (.ret (.ite (.cmp .isN (.var 3) (.cst .non)) (.cst (.int 0)) (.var 3)))))⟩
noncomputable def fZ:Fn:=⟨["tape","moment"],["tape","moment"], (.ret (.call "next_within" (Z7 (.var 0) (.var 1) (.call "depth" (Z8 (.var 0) (.var 1))))))⟩
noncomputable def iV:Fn:=⟨["tape","moment"],["tape","moment"], (.ret (.call "next_within" (Z7 (.var 0) (.var 1) (.bin .sub (.call "depth" (Z8 (.var 0) (.var 1))) (.cst (.int 1))))))⟩
noncomputable def bD:Fn:=⟨["tape","moment"],["tape","moment"], (.ret (.call "last_within" (Z7 (.var 0) (.var 1) (.call "depth" (Z8 (.var 0) (.var 1))))))⟩
noncomputable def bO:Fn:=⟨["tape","moment"],["tape","moment"], (.ret (.call "last_within" (Z7 (.var 0) (.var 1) (.bin .sub (.call "depth" (Z8 (.var 0) (.var 1))) (.cst (.int 1))))))⟩
structure WkP (T:FK->Option Fn) (G:ZZ->Option W):Prop where
 open_in:T "open_in"=XX ig
 depth:T "depth"=XX cC
 next:T "next_within"=XX bx
 last:T "last_within"=XX bz
 l9:T (.l 9)=XX DM
 l10:T (.l 10)=XX vD
structure WkQ (T:FK->Option Fn):Prop where
 over:T "over"=XX fZ
 out:T "out"=XX iV
 back_over:T "back_over"=XX bD
 back_out:T "back_out"=XX bO
noncomputable def dep (t:Tp) (i:Nat):Nat:=(itr t.p t.asked i).calls.length
section
theorem f6 (P:TpP T G) (Wk:WkP T G) (k:Nat) (st:St) (h:HH):runN T G (k+1) "open_in" [.p st.enc] h=XX (.p (.int st.calls.length),h):=by
 rw[run_eq Wk.open_in rfl];have e:az st.enc (.int 3)=XX (.tup (ah st.calls)):=rfl;have l:biD .len [.tup (ah st.calls)]=XX (.int st.calls.length):=by simp[ah]
 simp[-ja,ig,P.prg.CALLS,e,l,aj]
theorem dP (P:TpP T G) (Wk:WkP T G) (k:Nat) {n r:Nat}{t:Tp}{h:HH}{e gv:Nat} (a:TAt h n r t) (I:TI t e gv) (m:Nat) (hm:m<=e) :
 ∃ h' r' t',runN T G (k+12) "depth" [.o n,.p (.int m)] h=XX (.p (.int (dep t m)),h')/\Go n h r t h' r' t'/\TI t' e gv/\Sm8 t t':=by
 obtain ⟨h',r',t',b,g,I',s,f⟩:=BV P k a I m hm;refine ⟨h',r',t',?_,g,I',s⟩;rw[run_eq Wk.depth rfl];have fn:=λw=>aZ g w;have o:=f6 P Wk (k+10) (itr t.p t.asked m) h';simp[cC,a.ob,BQ,b,o,fn,dep]
theorem B8 (P:TpP T G) (k:Nat) (a:TAt h n r t) (I:TI t e gv) (m:Nat) :
 ∃ h' r' t',runN T G (k+9) (.m "Tape" "has") [.o n,.p (.int m)] h=XX (.p (.bl (decide (m<=e))),h')/\Go n h r t h' r' t'/\TI t' e gv/\Sm8 t t':=by
 by_cases c:m<=t.most
 ·obtain ⟨h',r',t',b,g,I',s,_⟩:=qD P k a I m c;exact ⟨h',r',t',b,g,I',s⟩
 ·refine ⟨h,r,t,?_,.refl a,I,.refl t⟩;have le:=I.run.le;rw[decide_eq_false (by lia),run_eq P.has rfl];have w:=g9 P (k+7) m;have c1:¬ ((m:Int) < 0):=by lia
  have c2:((t.most:Int) < (m:Int)):=by lia
  have c3:t.most < m:=by lia
  simp[bZ,w,c1,a.ob,c2,c3,aj]
noncomputable def wi (t:Tp) (b:Int):Nat->Bool:=λi=>decide ((dep t i:Int)<=b)
theorem PX (P:TpP T G) (Wk:WkP T G) (n:Nat) (t:Tp) (b:Int) (e:Nat):Tst T G n t (.l 9) [.p (.int b)] (wi t b) e:=λk h r t' a s i hi=>by rw[run_eq (k:=k+9) Wk.l9 rfl];have o:=f6 P Wk (k+8) (itr t.p t.asked i) h;simp[DM,o,aj,wi,dep];exact decide_eq_decide.mpr Iff.rfl
theorem MJ (P:TpP T G) (Wk:WkP T G) (n:Nat) (t:Tp) (b:Int) (e:Nat):Tst T G n t (.l 10) [.p (.int b)] (wi t b) e:=λk h r t' a s i hi=>by rw[run_eq (k:=k+9) Wk.l10 rfl];have o:=f6 P Wk (k+8) (itr t.p t.asked i) h;simp[vD,o,aj,wi,dep];exact decide_eq_decide.mpr Iff.rfl
structure NX (g:Nat->Bool) (m e j:Nat):Prop where
 le:m<=j
 le2:j<=e
 lt:m < e->m < j
 yes:j≠e->g j=XZ
 gap:∀ i,m < i->i < j->g i=X0
structure BX (g:Nat->Bool) (m j:Nat):Prop where
 le:j<=m
 lt:0 < m->j < m
 yes:j≠0->g j=XZ
 gap:∀ i,j < i->i < m->g i=X0
theorem sW (P:TpP T G) (M:TpE T) (L:TpL T) (Wk:WkP T G) (k:Nat) (a:TAt h n r t) (I:TI t e gv) (m:Nat) (hm:m<=e) (b:Int) :
 ∃ j h' r' t',runN T G (k+13) "next_within" [.o n,.p (.int m),.p (.int b)] h=XX (.p (.int ((j:Nat):Int)),h')/\NX (wi t b) m e j/\Go n h r t h' r' t'/\TI t' e gv/\Sm8 t t':=by
 obtain ⟨h1,r1,t1,b1,g1,I1,s1⟩:=B8 P (k+3) a I (m+1);have e1:(m:Int)+1=((m+1:Nat):Int):=by lia
 by_cases c:m+1<=e
 ·rw[decide_eq_true c] at b1;have tt:=PX P Wk n t1 b e;have ew:wi t1 b=wi t b:=by unfold wi dep;rw[s1.p,s1.asked]
  rw[ew] at tt;obtain ⟨o,h2,r2,t2,b2,F,g2,I2,s2⟩:=yI P L.f k g1.b I1 tt (m+1) c;have G2:=g1.trans g2;have S2:=s1.trans s2;cases o with
  | some j =>
   obtain ⟨q1,q2,q3,q4⟩:=F.yes j rfl;refine ⟨j,h2,r2,t2,?_,⟨by lia,q2,λ_=>by lia,λ_=>q3,λi h3 h4=>q4 i (by lia) h4⟩,G2,I2,S2⟩;rw[run_eq Wk.next rfl];have fn:=λw=>aZ G2 w;generalize hz:((m+1:Nat):Int)=z at b1 b2 e1;simp[bx,a.ob,e1,pC,b1,g1.b.ob,wK,b2,fn]
  | none =>
   obtain ⟨h3,r3,t3,b3,g3,I3,s3,f3⟩:=B6 P M (k+3) g2.b I2;have G3:=G2.trans g3;refine ⟨e,h3,r3,t3,?_,⟨by lia,Rq _,λ_=>by lia,λz=>absurd rfl z,λi h3 h4=>F.no rfl i (by lia) (by lia)⟩,G3,I3,S2.trans s3⟩;rw[run_eq Wk.next rfl];have fn:=λw=>aZ G3 w;generalize hz:((m+1:Nat):Int)=z at b1 b2 e1;simp[bx,a.ob,e1,pC,b1,g1.b.ob,wK,b2,g2.b.ob,MH,b3,fn]
 ·rw[decide_eq_false c] at b1;refine ⟨m,h1,r1,t1,?_,⟨Rq _,hm,λz=>by lia,λz=>by lia,λi h3 h4=>by lia⟩,g1,I1,s1⟩;rw[run_eq Wk.next rfl];have fn:=λw=>aZ g1 w;generalize hz:((m+1:Nat):Int)=z at b1 e1;simp[bx,a.ob,e1,pC,b1,fn]
theorem B9 (P:TpP T G) (L:TpL T) (Wk:WkP T G) (k:Nat) {n r:Nat}{t:Tp}{h:HH}{e gv:Nat} (a:TAt h n r t) (I:TI t e gv) (m:Nat) (hm:m<=e) (b:Int) :
 ∃ j h' r' t',runN T G (k+13) "last_within" [.o n,.p (.int m),.p (.int b)] h=XX (.p (.int ((j:Nat):Int)),h')/\BX (wi t b) m j/\Go n h r t h' r' t'/\TI t' e gv/\Sm8 t t':=by
 by_cases c:m=0
 ·subst c;refine ⟨0,h,r,t,?_,⟨Rq _,λz=>absurd z (Sw _),λz=>absurd rfl z,λi h3 h4=>by lia⟩,.refl a,I,.refl t⟩;rw[run_eq Wk.last rfl];simp[bz,aj]
 ·obtain ⟨o,h2,r2,t2,b2,F,g2,I2,s2⟩:=B5 P L.b k a I (MJ P Wk n t b e) (m - 1) (by lia) (by lia);have e1:(m:Int) - 1=((m - 1:Nat):Int):=by lia
  have c1:((m:Int)==0)=X0:=by rw[beq_eq_false_iff_ne];lia
  cases o with
  | some j =>
   obtain ⟨q1,q2,q3,q4⟩:=F.yes j rfl;refine ⟨j,h2,r2,t2,?_,⟨by lia,λ_=>by lia,λ_=>q3,λi h3 h4=>q4 i h3 (by lia)⟩,g2,I2,s2⟩;rw[run_eq Wk.last rfl];have fn:=λw=>aZ g2 w;generalize hz:((m - 1:Nat):Int)=z at b2 e1;simp[bz,a.ob,c,c1,e1,BZ,b2,fn]
  | none =>
   refine ⟨0,h2,r2,t2,?_,⟨by lia,λ_=>by lia,λz=>absurd rfl z,λi h3 h4=>F.no rfl i (SC _) (by lia)⟩,g2,I2,s2⟩;rw[run_eq Wk.last rfl];have fn:=λw=>aZ g2 w;generalize hz:((m - 1:Nat):Int)=z at b2 e1;simp[bz,a.ob,c,c1,e1,BZ,b2,fn]
theorem pH (s:Sm8 t t') (b:Int):wi t' b=wi t b:=by unfold wi dep;rw[s.p,s.asked]
theorem Ca (P:TpP T G) (M:TpE T) (L:TpL T) (Wk:WkP T G) (Q:WkQ T) (k:Nat) (a:TAt h n r t) (I:TI t e gv) (m:Nat) (hm:m<=e) :
 ∃ j h' r' t',runN T G (k+14) "over" [.o n,.p (.int m)] h=XX (.p (.int ((j:Nat):Int)),h')/\NX (wi t (dep t m)) m e j/\Go n h r t h' r' t'/\TI t' e gv/\Sm8 t t':=by
 obtain ⟨h1,r1,t1,b1,g1,I1,s1⟩:=dP P Wk (k+1) a I m hm;obtain ⟨j,h2,r2,t2,b2,F,g2,I2,s2⟩:=sW P M L Wk k g1.b I1 m hm (dep t m);rw[pH s1] at F;have G2:=g1.trans g2;refine ⟨j,h2,r2,t2,?_,F,G2,I2,s1.trans s2⟩;rw[run_eq Q.over rfl];have fn:=λw=>aZ G2 w;simp[fZ,b1,b2,fn]
theorem Fe (P:TpP T G) (M:TpE T) (L:TpL T) (Wk:WkP T G) (Q:WkQ T) (k:Nat) (a:TAt h n r t) (I:TI t e gv) (m:Nat) (hm:m<=e) :
 ∃ j h' r' t',runN T G (k+14) "out" [.o n,.p (.int m)] h=XX (.p (.int ((j:Nat):Int)),h')/\NX (wi t ((dep t m:Int) - 1)) m e j/\Go n h r t h' r' t'/\TI t' e gv/\Sm8 t t':=by
 obtain ⟨h1,r1,t1,b1,g1,I1,s1⟩:=dP P Wk (k+1) a I m hm;obtain ⟨j,h2,r2,t2,b2,F,g2,I2,s2⟩:=sW P M L Wk k g1.b I1 m hm ((dep t m:Int) - 1);rw[pH s1] at F;have G2:=g1.trans g2;refine ⟨j,h2,r2,t2,?_,F,G2,I2,s1.trans s2⟩;rw[run_eq Q.out rfl];have fn:=λw=>aZ G2 w;simp[iV,b1,b2,fn]
theorem oF (P:TpP T G) (L:TpL T) (Wk:WkP T G) (Q:WkQ T) (k:Nat) (a:TAt h n r t) (I:TI t e gv) (m:Nat) (hm:m<=e) :
 ∃ j h' r' t',runN T G (k+14) "back_over" [.o n,.p (.int m)] h=XX (.p (.int ((j:Nat):Int)),h')/\BX (wi t (dep t m)) m j/\Go n h r t h' r' t'/\TI t' e gv/\Sm8 t t':=by
 obtain ⟨h1,r1,t1,b1,g1,I1,s1⟩:=dP P Wk (k+1) a I m hm;obtain ⟨j,h2,r2,t2,b2,F,g2,I2,s2⟩:=B9 P L Wk k g1.b I1 m hm (dep t m);rw[pH s1] at F;have G2:=g1.trans g2;refine ⟨j,h2,r2,t2,?_,F,G2,I2,s1.trans s2⟩;rw[run_eq Q.back_over rfl];have fn:=λw=>aZ G2 w;simp[bD,b1,b2,fn]
theorem kF (P:TpP T G) (L:TpL T) (Wk:WkP T G) (Q:WkQ T) (k:Nat) {n r:Nat}{t:Tp}{h:HH}{e gv:Nat} (a:TAt h n r t) (I:TI t e gv) (m:Nat) (hm:m<=e) :
 ∃ j h' r' t',runN T G (k+14) "back_out" [.o n,.p (.int m)] h=XX (.p (.int ((j:Nat):Int)),h')/\BX (wi t ((dep t m:Int) - 1)) m j/\Go n h r t h' r' t'/\TI t' e gv/\Sm8 t t':=by
 obtain ⟨h1,r1,t1,b1,g1,I1,s1⟩:=dP P Wk (k+1) a I m hm;obtain ⟨j,h2,r2,t2,b2,F,g2,I2,s2⟩:=B9 P L Wk k g1.b I1 m hm ((dep t m:Int) - 1);rw[pH s1] at F;have G2:=g1.trans g2;refine ⟨j,h2,r2,t2,?_,F,G2,I2,s1.trans s2⟩;rw[run_eq Q.back_out rfl];have fn:=λw=>aZ G2 w;simp[bO,b1,b2,fn]
end
theorem sX {t:Tp}{e i:Nat} (R:Run t.p t.asked t.most e) (hi:i < e) :
 ((∃ c,t.p[(itr t.p t.asked i).row]?=XX (.call c))/\(itr t.p t.asked (i+1)).calls=(itr t.p t.asked i).calls++[(itr t.p t.asked i).row+1]) ∨
 ((itr t.p t.asked i).calls≠[]/\(itr t.p t.asked (i+1)).calls=(itr t.p t.asked i).calls.dropLast/\(itr t.p t.asked (i+1)).row=(itr t.p t.asked i).calls.getLast?.getD 0) ∨
 (itr t.p t.asked (i+1)).calls=(itr t.p t.asked i).calls:=by
 have ov:=R.on i hi;show _\/(_/\(step t.p t.asked (itr t.p t.asked i)).calls=_/\(step t.p t.asked (itr t.p t.asked i)).row=_)\/(step t.p t.asked (itr t.p t.asked i)).calls=_;have e1:(itr t.p t.asked (i+1))=step t.p t.asked (itr t.p t.asked i):=rfl;rw[e1];unfold over at ov;unfold step;cases g:t.p[(itr t.p t.asked i).row]? with
 | none=>rw[g] at ov;cases ov
 | some r =>
  rw[g] at ov;cases r with
  | call c=>exact .inl ⟨⟨c,rfl⟩,rfl⟩
  | back =>
   refine .inr (.inl ⟨λz=>?_,rfl,rfl⟩);have:((itr t.p t.asked i).calls.length==0)=X0:=ov;rw[z] at this;cases this
  | _=>exact .inr (.inr rfl)
noncomputable def wt (t:Tp):Nat->List Nat
 | 0=>[]
 | m+1=>if dep t m < dep t (m+1) then wt t m++[m] else if dep t (m+1) < dep t m then (wt t m).dropLast else wt t m
noncomputable def en (t:Tp):Nat->List (Nat×Option Nat)
 | 0=>[]
 | m+1=>if dep t m < dep t (m+1) then en t m++[(m,XY)] else if dep t (m+1) < dep t m then (en t m).map (λp=>if p.1=(wt t m).getLast?.getD 0 then (p.1,XX (m+1)) else p) else en t m
structure WtI (t:Tp) (m:Nat):Prop where
 len:(wt t m).length=dep t m
 ok:∀ k w,(wt t m)[k]?=XX w->w < m/\dep t w=k/\(itr t.p t.asked m).calls[k]?=XX ((itr t.p t.asked w).row+1)/\(∃ c,t.p[(itr t.p t.asked w).row]?=XX (.call c))/\∀ j,w < j->j<=m->k < dep t j
structure EnI (t:Tp) (m:Nat):Prop where
 rise:(en t m).Pairwise λa b=>a.1 < b.1
 lt:∀ p∈en t m,p.1 < m
 start:∀ p∈en t m,(∃ c,t.p[(itr t.p t.asked p.1).row]?=XX (.call c))/\dep t (p.1+1)=dep t p.1+1
 non:∀ s,(s,XY)∈en t m->s∈wt t m
 som:∀ s b,(s,XX b)∈en t m->s < b/\b<=m/\dep t b=dep t s/\(itr t.p t.asked b).row=(itr t.p t.asked s).row+1/\∀ j,s < j->j < b->dep t s < dep t j
 wait:∀ w∈wt t m,(w,XY)∈en t m
theorem sY (h:dep t m < dep t (m+1)):wt t (m+1)=wt t m++[m]/\en t (m+1)=en t m++[(m,XY)]:=⟨if_pos h,if_pos h⟩
theorem kG (h:dep t (m+1) < dep t m):wt t (m+1)=(wt t m).dropLast/\en t (m+1)=(en t m).map (λp=>if p.1=(wt t m).getLast?.getD 0 then (p.1,XX (m+1)) else p):=by
 have n:¬ dep t m < dep t (m+1):=by lia
 exact ⟨by rw[wt,if_neg n,if_pos h],by rw[en,if_neg n,if_pos h]⟩
theorem kH (h:dep t (m+1)=dep t m):wt t (m+1)=wt t m/\en t (m+1)=en t m:=by
 have n:¬ dep t m < dep t (m+1):=by lia
 have n2:¬ dep t (m+1) < dep t m:=by lia
 exact ⟨by rw[wt,if_neg n,if_neg n2],by rw[en,if_neg n,if_neg n2]⟩
theorem gj {t:Tp}{e:Nat} (R:Run t.p t.asked t.most e):∀ m,m<=e->WtI t m
 | 0,_=>⟨rfl,λk w h=>by simp[wt] at h⟩
 | m+1,h=>by
  have I:=gj R m (by lia);have len:=I.len;rcases sX R (show m < e by lia) with ⟨cc,hc⟩|⟨hne,hc,hr⟩|hc
  ·have d:dep t (m+1)=dep t m+1:=by unfold dep;rw[hc,RI];rfl
   have e1:=(sY (t:=t) (m:=m) (by lia)).1;refine ⟨by rw[e1,RI,len,d];rfl,λk w hk=>?_⟩;rw[e1] at hk;rcases RP k (wt t m).length with q|q
   ·rw[Rp q] at hk;obtain ⟨a1,a2,a3,a4,a5⟩:=I.ok k w hk;refine ⟨by lia,a2,?_,a4,λj j1 j2=>?_⟩;rw[hc,Rp (by show k < dep t m;lia)];exact a3
    ·rcases RP m j with z|z
     rw[show j=m+1 by lia,d];lia;exact a5 j j1 z
   ·rw[RM q] at hk;have k0:k - (wt t m).length=0:=by
     rcases Nat.eq_zero_or_pos (k - (wt t m).length) with z|z
     exact z;rw[Rz (by rw[Sv];lia)] at hk;cases hk
    rw[k0] at hk;have:m=w:=by simpa using hk
    subst this;refine ⟨Tu _,by lia,?_,cc,λj j1 j2=>?_⟩;rw[hc,RM (by show dep t m<=k;lia),show k - (itr t.p t.asked m).calls.length=0 by have:(itr t.p t.asked m).calls.length=dep t m:=rfl;lia];rfl;rw[show j=m+1 by lia,d];lia
  ·have hp:0 < dep t m:=by unfold dep;exact List.length_pos_iff.mpr hne
   have d:dep t (m+1)=dep t m - 1:=by unfold dep;rw[hc,S9]
   have e1:=(kG (t:=t) (m:=m) (by lia)).1;refine ⟨by rw[e1,S9,len,d],λk w hk=>?_⟩;rw[e1] at hk;have kl:k < (wt t m).dropLast.length:=(List.getElem?_eq_some_iff.mp hk).1;rw[S9,len] at kl;rw[Ux,if_pos (by lia)] at hk;obtain ⟨a1,a2,a3,a4,a5⟩:=I.ok k w hk;refine ⟨by lia,a2,?_,a4,λj j1 j2=>?_⟩;rw[hc,Ux,if_pos (by show k < dep t m - 1;lia)];exact a3
   ·rcases RP m j with z|z
    rw[show j=m+1 by lia,d];lia;exact a5 j j1 z
  ·have d:dep t (m+1)=dep t m:=by unfold dep;rw[hc]
   have e1:=(kH d).1;refine ⟨by rw[e1,len,d],λk w hk=>?_⟩;rw[e1] at hk;have kl:k < (wt t m).length:=(List.getElem?_eq_some_iff.mp hk).1;obtain ⟨a1,a2,a3,a4,a5⟩:=I.ok k w hk;refine ⟨by lia,a2,by rw[hc];exact a3,a4,λj j1 j2=>?_⟩;rcases RP m j with z|z
   rw[show j=m+1 by lia,d];lia;exact a5 j j1 z
theorem MK {e m:Nat} (R:Run t.p t.asked t.most e) (hm:m<=e) {k k' w:Nat} (h:(wt t m)[k]?=XX w) (h':(wt t m)[k']?=XX w):k=k':=by have I:=gj R m hm;have a:=(I.ok k w h).2.1;have b:=(I.ok k' w h').2.1;lia
theorem qH {t:Tp}{e:Nat} (R:Run t.p t.asked t.most e):∀ m,m<=e->EnI t m
 | 0,_=>⟨.nil,(λp h=>nomatch h),(λp h=>nomatch h),(λs h=>nomatch h),(λs b h=>nomatch h),(λw h=>nomatch h)⟩
 | m+1,h=>by
  have I:=qH R m (by lia);have W:=gj R m (by lia);rcases sX R (show m < e by lia) with ⟨cc,hc⟩|⟨hne,hc,hr⟩|hc
  ·have d:dep t (m+1)=dep t m+1:=by unfold dep;rw[hc,RI];rfl
   obtain ⟨e1,e2⟩:=sY (t:=t) (m:=m) (by lia);refine ⟨?_,λp hp=>?_,λp hp=>?_,λs hs=>?_,λs b hs=>?_,λw hw=>?_⟩
   ·rw[e2];refine List.pairwise_append.mpr ⟨I.rise,List.pairwise_singleton _ _,λa ha b hb=>?_⟩;rw[List.mem_singleton.mp hb];exact I.lt a ha
   ·rw[e2] at hp;rcases List.mem_append.mp hp with z|z
    have:=I.lt p z;lia;rw[List.mem_singleton.mp z];exact Tu _
   ·rw[e2] at hp;rcases List.mem_append.mp hp with z|z
    exact I.start p z;rw[List.mem_singleton.mp z];exact ⟨cc,d⟩
   ·rw[e2] at hs;rw[e1];rcases List.mem_append.mp hs with z|z
    exact SM _ (I.non s z)
    ·have:=List.mem_singleton.mp z;cases this;exact Sh _ RL
   ·rw[e2] at hs;rcases List.mem_append.mp hs with z|z
    ·obtain ⟨a1,a2,a3⟩:=I.som s b z;exact ⟨a1,by lia,a3⟩
    ·have:=List.mem_singleton.mp z;cases this
   ·rw[e1] at hw;rw[e2];rcases List.mem_append.mp hw with z|z
    exact SM _ (I.wait w z);rw[List.mem_singleton.mp z];exact Sh _ RL
  ·have hp:0 < dep t m:=by unfold dep;exact List.length_pos_iff.mpr hne
   have d:dep t (m+1)=dep t m - 1:=by unfold dep;rw[hc,S9]
   obtain ⟨e1,e2⟩:=kG (t:=t) (m:=m) (by lia);have len:=W.len;obtain ⟨l,hl⟩:∃ l,(wt t m)[dep t m - 1]?=XX l:=⟨_,Ru (by lia)⟩;have gl:(wt t m).getLast?.getD 0=l:=by rw[Uc,len,hl];rfl
   rw[gl] at e2;obtain ⟨w1,w2,w3,w4,w5⟩:=W.ok _ _ hl;have rowm:(itr t.p t.asked (m+1)).row=(itr t.p t.asked l).row+1:=by rw[hr,Uc];have:(itr t.p t.asked m).calls.length - 1=dep t m - 1:=rfl;rw[this,w3];rfl
   have ins:∀ w,w∈(wt t m).dropLast↔w∈wt t m/\w≠l:=λw=>by
    constructor
    ·intro hw;obtain ⟨k,hk⟩:=SN hw;have kl:k < (wt t m).dropLast.length:=(List.getElem?_eq_some_iff.mp hk).1;rw[S9,len] at kl;rw[Ux,if_pos (by lia)] at hk;refine ⟨RC hk,λz=>?_⟩;subst z;have:=MK R (by lia) hk hl;lia
    ·rintro ⟨hw,hn⟩
     obtain ⟨k,hk⟩:=SN hw;have kl:k < (wt t m).length:=(List.getElem?_eq_some_iff.mp hk).1;have kn:k≠dep t m - 1:=λz=>by rw[z,hl] at hk;cases hk;exact hn rfl
     refine RC (i:=k) ?_;rw[Ux,if_pos (by lia)];exact hk
   have key:∀ p,p∈en t (m+1)->∃ q∈en t m,q.1=p.1/\((p.1=l/\p.2=XX (m+1))\/(p.1≠l/\p=q)):=λp hp=>by
    rw[e2] at hp;obtain ⟨q,hq,rfl⟩:=List.mem_map.mp hp
    by_cases z:q.1=l
    exact ⟨q,hq,by rw[if_pos z],.inl ⟨by rw[if_pos z];exact z,by rw[if_pos z]⟩⟩;exact ⟨q,hq,by rw[if_neg z],.inr ⟨by rw[if_neg z];exact z,by rw[if_neg z]⟩⟩
   refine ⟨?_,λp hp=>?_,λp hp=>?_,λs hs=>?_,λs b hs=>?_,λw hw=>?_⟩
   ·rw[e2];refine List.Pairwise.map _ (λa b hab=>?_) I.rise;have f:∀ q:Nat×Option Nat,(if q.1=l then (q.1,XX (m+1)) else q).1=q.1:=λq=>by split<;>rfl
    rw[f,f];exact hab
   ·obtain ⟨q,hq,e3,_⟩:=key p hp;have:=I.lt q hq;lia
   ·obtain ⟨q,hq,e3,_⟩:=key p hp;rw[← e3];exact I.start q hq
   ·obtain ⟨q,hq,e3,z|z⟩:=key _ hs;cases z.2
    ·rw[← z.2] at hq;rw[e1];exact (ins s).mpr ⟨I.non s hq,z.1⟩
   ·obtain ⟨q,hq,e3,z|z⟩:=key _ hs
    ·obtain ⟨z1,z2⟩:=z;have zz:s=l:=z1;cases z2;rw[zz];exact ⟨by lia,Rq _,by lia,rowm,λj j1 j2=>by have:=w5 j j1 (by lia);lia⟩
    ·rw[← z.2] at hq;obtain ⟨a1,a2,a3⟩:=I.som s b hq;exact ⟨a1,by lia,a3⟩
   ·rw[e1] at hw;obtain ⟨h1,h2⟩:=(ins w).mp hw;rw[e2];exact List.mem_map.mpr ⟨(w,XY),I.wait w h1,by rw[if_neg h2]⟩
  ·have d:dep t (m+1)=dep t m:=by unfold dep;rw[hc]
   obtain ⟨e1,e2⟩:=kH d;refine ⟨by rw[e2];exact I.rise,λp hp=>?_,λp hp=>I.start p (by rw[← e2];exact hp),λs hs=>by rw[e1];exact I.non s (by rw[← e2];exact hs),λs b hs=>?_,λw hw=>by rw[e2];exact I.wait w (by rw[← e1];exact hw)⟩;have:=I.lt p (by rw[← e2];exact hp);lia
   ·obtain ⟨a1,a2,a3⟩:=I.som s b (by rw[← e2];exact hs);exact ⟨a1,by lia,a3⟩
noncomputable def caB:S:=(.ife (.cmp .gt (.idx (.var 1) (.bin .add (.var 4) (.cst (.int 1)))) (.idx (.var 1) (.var 4))) (.seq (.putd 2 (.var 4) (.cst .non)) (.ex (.me .append (.var 3) (Z9 (.var 4))))) (.ife (.cmp .lt (.idx (.var 1) (.bin .add (.var 4) (.cst (.int 1)))) (.idx (.var 1) (.var 4))) (.putd 2 (.me .pop (.var 3) .nil) (.bin .add (.var 4) (.cst (.int 1)))) .nil))
noncomputable def kI:Fn:=⟨["tape"],["tape","depths","ends","waiting","moment"], (.seq (.set 1 (.meth (.var 0) "readings" (Z9 (.glo "open_in")))) (.seq (.set 2 .dnew) (.seq (.set 3 (.lst XZ .nil)) (.seq (.for [(4,"moment")] .rng1 (Z9 (.bin .sub (.bi .len X0 (Z9 (.var 1))) (.cst (.int 1)))) caB) (.ret (.dli (.var 2)))))))⟩
noncomputable def ocC:E:=(.cmp .gt (.call "depth" (Z8 (.var 0) (.var 3))) (.cst (.int 0)))
noncomputable def ocB:S:=(.seq (.set 3 (.call "back_out" (Z8 (.var 0) (.var 3)))) (.ex (.me .append (.var 2) (Z9 (.var 3)))))
noncomputable def aN:Fn:=⟨["tape","moment"],["tape","moment","begun_at","inner"], (.seq (.set 2 (.lst XZ .nil)) (.seq (.set 3 (.var 1)) (.seq (.whl ocC ocB) (.ret (.lsr X0 .rev (Z9 (.var 2)))))))⟩
structure CaP (T:FK->Option Fn) (G:ZZ->Option W):Prop where
 calls:T "calls"=XX kI
 open_calls:T "open_calls"=XX aN
 g:G "open_in"=XX (.c (.f "open_in") [])
noncomputable def dQ (l:List (Nat×Option Nat)):List (Ky×D):=l.map λp=>(.inl (p.1:Int),dO p.2)
theorem sZ {m:Nat}:(dQ l).any (λkv=>decide (kv.1=.inl (m:Int)))=XZ↔∃ o,(m,o)∈l:=by
 unfold dQ;rw[List.any_map,List.any_eq_true];constructor
 ·rintro ⟨p,hp,q⟩
  have:(Sum.inl (p.1:Int):Ky)=.inl (m:Int):=by simpa using q
  have:(p.1:Int)=(m:Int):=Sum.inl.inj this;have:p.1=m:=by lia
  exact ⟨p.2,by rw[← this];exact hp⟩
 ·rintro ⟨o,ho⟩
  exact ⟨_,ho,by simp⟩
theorem Ff {m:Nat} (h:∀ p∈l,p.1 < m):lD (dQ l) (.inl (m:Int)) .non=dQ (l++[(m,XY)]):=by unfold lD;rw[if_neg λz=>by obtain ⟨o,ho⟩:=sZ.mp z;exact absurd (h _ ho) (Sw _)];unfold dQ;rw[Tg];rfl
theorem Fg {w b:Nat} (h:∃ o,(w,o)∈l):lD (dQ l) (.inl (w:Int)) (.int (b:Int))=dQ (l.map λp=>if p.1=w then (p.1,XX b) else p):=by
 unfold lD;rw[if_pos (sZ.mpr h)];unfold dQ;rw[SI,SI];apply SV;intro p _
 by_cases z:p.1=w
 simp[z]
 ·have z':¬ (p.1:Int)=(w:Int):=by lia
  simp[z,z']
section
noncomputable def iw (t:Tp) (i:Nat):D:=.int (dep t i:Int)
theorem PY (P:TpP T G) (Wk:WkP T G) (n:Nat) (t:Tp) (e:Nat):Rdg T G n t (.f "open_in") [] (iw t) e:=λk h r t' a _ i hi=>f6 P Wk (k+9) (itr t.p t.asked i) h
theorem lg (t:Tp):∀ m,(en t m).length<=m/\(wt t m).length<=m
 | 0=>⟨Rq _,Rq _⟩
 | m+1=>by
  have ih:=lg t m;rw[en,wt];split;rw[RI,RI,Sv,Sv];lia
  ·split;rw[RN,S9];lia;lia
theorem Cb (h:HH) (x:List (Ky×D)) (b:Cl):dat (h++[.d x,b]) h.length=XX x:=by simp[dat]
theorem Cd (h:HH) (a b x:Cl):(h++[a,b]).set h.length x=h++[x,b]:=by simp
theorem Ce (h:HH) (a b x:Cl):(h++[a,b]).set (h.length+1) x=h++[a,x]:=by
 induction h with
 | nil=>rfl| cons y l ih=>exact congrArg (y :: ·) ih
theorem Cf (h:HH) (a:Cl) (x:List D):lat (h++[a,.l x]) (h.length+1)=XX x:=by unfold lat;rw[RM (by lia),show h.length+1 - h.length=1 by lia];rfl
theorem Fi (F:FK->List W->HH->Option (W×HH)) (w0:W) (h:HH) {e:Nat} (R:Run t.p t.asked t.most e) (he:e<=1000) {m:Nat} (hm:m < e) :
 evS F G caB [XX w0,XX (.p (.lst (each (iw t) e))),XX (.r h.length),XX (.r (h.length+1)),XX (.p (.int (m:Int)))] (h++[.d (dQ (en t m)),.l (ah (wt t m))]) =
  XX (.nx [XX w0,XX (.p (.lst (each (iw t) e))),XX (.r h.length),XX (.r (h.length+1)),XX (.p (.int (m:Int)))] (h++[.d (dQ (en t (m+1))),.l (ah (wt t (m+1)))])):=by
 have I:=qH R m (by lia);have W:=gj R m (by lia);obtain ⟨l1,l2⟩:=lg t m;have x1:az (.lst (each (iw t) e)) (.int ((m:Int)+1))=XX (.int (dep t (m+1):Int)):=by rw[show (m:Int)+1=((m+1:Nat):Int) by lia];show atP _ _=_;rw[cH,qF _ (by lia)];rfl
 have x2:az (.lst (each (iw t) e)) (.int (m:Int))=XX (.int (dep t m:Int)):=by show atP _ _=_;rw[cH,qF _ (by lia)];rfl
 have k1:(dQ (en t m)).length < 100000:=by unfold dQ;rw[RN];lia
 have k2:(ah (wt t m)).length < 100000:=by unfold ah;rw[RN];lia
 have d0:=Cb h (dQ (en t m)) (.l (ah (wt t m)));have t1:=Cf h (.d (dQ (en t m))) (ah (wt t m));generalize each (iw t) e=dp at *
 by_cases c:dep t m < dep t (m+1)
 ·obtain ⟨e1,e2⟩:=sY c;have c1:(dep t m:Int) < (dep t (m+1):Int):=by lia
  have pn:=Ff (l:=en t m) (m:=m) I.lt;have t2:=Cf h (.d (dQ (en t (m+1)))) (ah (wt t m));rw[← e2] at pn;have ew:ah (wt t m)++[D.int (m:Int)]=ah (wt t (m+1)):=by rw[e1];unfold ah;rw[Tg];rfl
  simp[-aJ,-UD,caB,x1,x2,c,c1,d0,rL,k1,Cd,pn,t2,k2,Ce,ew]
 ·by_cases c2:dep t (m+1) < dep t m
  ·obtain ⟨e1,e2⟩:=kG c2;have len:=W.len;obtain ⟨l,hl⟩:∃ l,(wt t m)[dep t m - 1]?=XX l:=⟨_,Ru (by lia)⟩;have gl0:(wt t m).getLast?=XX l:=by rw[Uc,len,hl]
   have gl:(ah (wt t m)).getLast?=XX (.int (l:Int)):=by unfold ah;rw[List.getLast?_map,gl0];rfl
   rw[gl0] at e2;have po:=Fg (l:=en t m) (w:=l) (b:=m+1) ⟨XY,I.wait l (RC hl)⟩;have e2:en t (m+1)=(en t m).map λp=>if p.1=l then (p.1,XX (m+1)) else p:=e2
   rw[← e2] at po;have ew:(ah (wt t m)).dropLast=ah (wt t (m+1)):=by rw[e1];unfold ah;rw[List.map_dropLast]
   have d2:=Cb h (dQ (en t m)) (.l (ah (wt t (m+1))));have c1:¬ (dep t m:Int) < (dep t (m+1):Int):=by lia
   have c3:(dep t (m+1):Int) < (dep t m:Int):=by lia
   have e3:((m+1:Nat):Int)=(m:Int)+1:=by lia
   rw[e3] at po;simp[-aJ,-UD,caB,x1,x2,c,c1,c2,c3,t1,gl,Ce,ew,d2,rL,k1,po,Cd]
  ·obtain ⟨e1,e2⟩:=kH (t:=t) (m:=m) (by lia);have c1:¬ (dep t m:Int) < (dep t (m+1):Int):=by lia
   have c3:¬ (dep t (m+1):Int) < (dep t m:Int):=by lia
   rw[e1,e2];simp[-aJ,caB,x1,x2,c,c1,c2,c3]
theorem wO (F:FK->List W->HH->Option (W×HH)) (w0:W) (h:HH) (R:Run t.p t.asked t.most e) (he:e<=1000):∀ (q m:Nat) (x:Option W),m+q=e →
 ∃ y,aR (evS F G caB) [(4,"moment")] (upto (m:Int) q) [XX w0,XX (.p (.lst (each (iw t) e))),XX (.r h.length),XX (.r (h.length+1)),x] (h++[.d (dQ (en t m)),.l (ah (wt t m))]) =
  XX (.nx [XX w0,XX (.p (.lst (each (iw t) e))),XX (.r h.length),XX (.r (h.length+1)),y] (h++[.d (dQ (en t e)),.l (ah (wt t e))]))
 | 0,m,x,hq=>⟨x,by rw[show m=e by lia];rfl⟩
 | q+1,m,x,hq=>by have b1:=Fi (G:=G) F w0 h R he (m:=m) (by lia);obtain ⟨y,b2⟩:=wO F w0 h R he q (m+1) (XX (.p (.int (m:Int)))) (by lia);refine ⟨y,?_⟩;have st:∀ (d:D) (l:List D),aR (evS F G caB) [(4,"moment")] (d::l) [XX w0,XX (.p (.lst (each (iw t) e))),XX (.r h.length),XX (.r (h.length+1)),x] (h++[.d (dQ (en t m)),.l (ah (wt t m))])=fk (evS F G caB [XX w0,XX (.p (.lst (each (iw t) e))),XX (.r h.length),XX (.r (h.length+1)),XX (.p d)] (h++[.d (dQ (en t m)),.l (ah (wt t m))])) (aR (evS F G caB) [(4,"moment")] l):=λd l=>rfl;rw[cV,st,b1,aX,show (m:Int)+1=((m+1:Nat):Int) by lia,b2]
noncomputable def itE (l:List (Nat×Option Nat)):List D:=l.map λp=>.tup [.int (p.1:Int),dO p.2]
theorem JI (l:List (Nat×Option Nat)):iI (dQ l)=itE l:=by unfold iI dQ itE;rw[SI];apply SV;intro p _;rfl
theorem yK (P:TpP T G) (R:TpR T) (Wk:WkP T G) (C:CaP T G) (k:Nat) (a:TAt h n r t) (I:TI t e gv) :
 runN T G (k+12) "calls" [.o n] h=XX (.p (.lst (itE (en t e))),h):=by
 have le:=I.run.le;have m1:=I.m1;have b1:=qG P R k a I (PY P Wk n t e);obtain ⟨y,b2⟩:=wO (G:=G) (runN T G (k+11)) (.o n) h I.run (by lia) e 0 XY (by lia);have l1:=(lg t e).1;rw[run_eq C.calls rfl,kI];have rg:c9 .rng1 [.int ((((each (iw t) e).length:Nat):Int) - 1)]=XX (upto 0 e):=by
  rw[iU,bB];have c:((-100000<=(((e+1:Nat):Int) - 1):Bool)&&((((e+1:Nat):Int) - 1)<=100000:Bool))=XZ:=by simp only[Rn,decide_eq_true_eq];lia
  rw[if_pos c,show (((e+1:Nat):Int) - 1).toNat=e by lia]
 have f0:=fz h [.d (dQ (en t e)),.l (ah (wt t e))] (.lst (itE (en t e)));have d0:=Cb h (dQ (en t e)) (.l (ah (wt t e)));have k1:(dQ (en t e)).length<=100000:=by unfold dQ;rw[RN];lia
 have b2':aR (evS (runN T G (k+11)) G caB) [(4,"moment")] (upto 0 e) [XX (.o n),XX (.p (.lst (each (iw t) e))),XX (.r h.length),XX (.r (h.length+1)),XY] (h++[.d [],.l []])=XX (.nx [XX (.o n),XX (.p (.lst (each (iw t) e))),XX (.r h.length),XX (.r (h.length+1)),y] (h++[.d (dQ (en t e)),.l (ah (wt t e))])):=b2;generalize each (iw t) e=dp at *;generalize upto 0 e=up at *;simp[-aR,-bB,a.ob,uX,C.g,b1,rg,eU,b2',d0,k1,JI,f0]
end
structure Oc (t:Tp) (m k w:Nat):Prop where
 lt:w < m
 at_:dep t w=k
 up:∀ j,w < j->j<=m->k < dep t j
theorem Oc.one {t:Tp}{m k w w':Nat} (a:Oc t m k w) (b:Oc t m k w'):w=w':=by
 rcases TQ w w' with z|z|z
 ·have h1:=a.up w' z (by have:=b.lt;lia);have h2:=b.at_;lia
 exact z
 ·have h1:=b.up w z (by have:=a.lt;lia);have h2:=a.at_;lia
theorem pI (R:Run t.p t.asked t.most e) (hm:m<=e) (h:(wt t m)[k]?=XX w):Oc t m k w:=by obtain ⟨a1,a2,_,_,a5⟩:=(gj R m hm).ok k w h;exact ⟨a1,a2,a5⟩
theorem Fj (R:Run t.p t.asked t.most e) (hm:m<=e) (hp:0 < dep t m):∃ l,Oc t m (dep t m - 1) l/\wt t m=wt t l++[l]:=by
 have len:=(gj R m hm).len;obtain ⟨l,hl⟩:∃ l,(wt t m)[dep t m - 1]?=XX l:=⟨_,Ru (by lia)⟩;have o:=pI R hm hl;have ol:=o.lt;have oa:=o.at_;have yR:=(gj R l (by lia)).len;refine ⟨l,o,List.ext_getElem? λk=>?_⟩;rcases TQ k (dep t m - 1) with z|z|z
 ·rw[Rp (by lia)];obtain ⟨w,hw⟩:∃ w,(wt t m)[k]?=XX w:=⟨_,Ru (by lia)⟩;obtain ⟨w',hw'⟩:∃ w',(wt t l)[k]?=XX w':=⟨_,Ru (by lia)⟩;have a:=pI R hm hw;have b:=pI R (show l<=e by lia) hw';have wl:w < l:=by
   have a1:=a.at_;rcases TQ w l with q|q|q
   exact q;rw[q] at a1;lia
   ·have:=o.up w q (by have:=a.lt;lia);lia
  have:Oc t l k w:=⟨wl,a.at_,λj j1 j2=>a.up j j1 (by lia)⟩;rw[hw,hw',this.one b]
 rw[z,hl,RM (by lia),show dep t m - 1 - (wt t l).length=0 by lia];rfl;rw[Rz (by lia),Rz (by rw[RI,Sv];lia)]
theorem Fk (o:Oc t m (dep t m - 1) l) (hp:0 < dep t m) (b:BX (wi t ((dep t m:Int) - 1)) m j):j=l:=by
 have ol:=o.lt;have oa:=o.at_;have gl:wi t ((dep t m:Int) - 1) l=XZ:=by unfold wi;rw[decide_eq_true_eq];lia
 rcases TQ j l with z|z|z
 rw[b.gap l z ol] at gl;cases gl;exact z
 ·have jm:=b.lt (by lia);have h1:=b.yes (by lia);unfold wi at h1;rw[decide_eq_true_eq] at h1;have h2:=o.up j z (by lia);lia
theorem wQ (s:Sm8 t t'):∀ m,wt t' m=wt t m/\en t' m=en t m
 | 0=>⟨rfl,rfl⟩
 | m+1=>by
  have d:dep t'=dep t:=by funext i;unfold dep;rw[s.p,s.asked]
  obtain ⟨h1,h2⟩:=wQ s m;exact ⟨by rw[wt,wt,d,h1],by rw[en,en,d,h1,h2]⟩
structure Tl (h:HH) (n r q:Nat) (js:List Nat):Prop where
 at_:lat h q=XX (ah js)
 n1:q≠n
 n2:q≠r
theorem Tl.go (d:Tl h n r q js) (g:Go n h r t h' r' t'):Tl h' n r' q js:=by
 have lt:=k9 d.at_;refine ⟨?_,d.n1,?_⟩;rw[← d.at_];exact uV (g.fr q d.n1 d.n2 lt)
 ·rcases g.len with ⟨_,z⟩|z
  rw[z];exact d.n2;lia
theorem Tl.put (d:Tl h n r q js) (a:TAt h n r t) (j:Nat):Tl (h.set q (.l (ah js++[.int (j:Int)]))) n r q (js++[j])/\TAt (h.set q (.l (ah js++[.int (j:Int)]))) n r t:=by
 have lt:=k9 d.at_;refine ⟨⟨?_,d.n1,d.n2⟩,?_,?_⟩
 ·rw[kE lt];show XX _=_;unfold ah;rw[Tg];rfl
 rw[gZ (λz=>d.n1 z.symm)];exact a.ob;rw[cU (λz=>d.n2 z.symm)];exact a.li
section
end
noncomputable def iy:Fn:=⟨["_law_asked_sum","_law_state"],["_law_asked_sum","_law_state","_law_word","_law_one","_law_other"], (.seq (.set 2 (.idx (.var 0) (.cst (.int 0)))) (.seq (.ife (.cmp .eq (.var 2) (.cst (.str "num"))) (.ret (.idx (.var 0) (.cst (.int 1)))) .nil) (.seq (.ife (.cmp .eq (.var 2) (.cst (.str "name"))) (.ret (.idx (.idx (.var 1) (.cst (.int 1))) (.me .sindex (.cst (.str "abcdef")) (Z9 (.idx (.var 0) (.cst (.int 1))))))) .nil) (.seq (.set 3 (.call "_law_worth" (Z8 (.idx (.var 0) (.cst (.int 1))) (.var 1)))) (.seq (.ife (.cmp .eq (.var 2) (.cst (.str "cell"))) (.ret (.idx (.idx (.var 1) (.cst (.int 2))) (.bin .mod (.var 3) (.cst (.int 4))))) .nil) (.seq (.set 4 (.call "_law_worth" (Z8 (.idx (.var 0) (.cst (.int 2))) (.var 1)))) (.seq (.ife (.cmp .eq (.var 2) (.cst (.str "add"))) (.ret (.bin .mod (.bin .add (.var 3) (.var 4)) (.cst (.int 10007)))) .nil) (.seq (.ife (.cmp .eq (.var 2) (.cst (.str "sub"))) (.ret (.bin .mod (.bin .sub (.var 3) (.var 4)) (.cst (.int 10007)))) .nil) (.ret (.ite (.cmp .eq (.var 2) (.cst (.str "mul"))) (.bin .mod (.bin .mul (.var 3) (.var 4)) (.cst (.int 10007))) (.bi .int X0 (Z9 (.cmp .lt (.var 3) (.var 4))))))))))))))⟩
noncomputable def fE:Fn:=⟨["_law_program_here","_law_state"],["_law_program_here","_law_state","_law_row_here"], (.seq (.set 2 (.idx (.bin .add (.var 0) (.tup (Z9 (.tup (Z9 (.cst (.str "stop"))))))) (.idx (.var 1) (.cst (.int 0))))) (.ret (.or (.cmp .eq (.var 2) (.tup (Z9 (.cst (.str "stop"))))) (.or (.and (.cmp .eq (.var 2) (.tup (Z9 (.cst (.str "back"))))) (.cmp .eq (.idx (.var 1) (.cst (.int 3))) (.tup .nil))) (.and (.cmp .eq (.idx (.var 2) (.cst (.int 0))) (.cst (.str "call"))) (.cmp .gt (.bi .len X0 (Z9 (.idx (.var 1) (.cst (.int 3))))) (.cst (.int 5))))))))⟩
noncomputable def iz:Fn:=⟨["_law_program_here","_law_asked_here","_law_state"],["_law_program_here","_law_asked_here","_law_state","_law_row_here"], (.seq (.set 3 (.idx (.var 0) (.idx (.var 2) (.cst (.int 0))))) (.seq (.ife (.cmp .eq (.idx (.var 3) (.cst (.int 0))) (.cst (.str "set"))) (.ret (.tup (Z8 (.idx (.var 3) (.cst (.int 1))) (.call "_law_worth" (Z8 (.idx (.var 3) (.cst (.int 2))) (.var 2)))))) .nil) (.seq (.ife (.cmp .eq (.idx (.var 3) (.cst (.int 0))) (.cst (.str "put"))) (.ret (.tup (Z8 (.bin .mod (.call "_law_worth" (Z8 (.idx (.var 3) (.cst (.int 1))) (.var 2))) (.cst (.int 4))) (.call "_law_worth" (Z8 (.idx (.var 3) (.cst (.int 2))) (.var 2)))))) .nil) (.seq (.ife (.cmp .eq (.idx (.var 3) (.cst (.int 0))) (.cst (.str "ask"))) (.ret (.tup (Z8 (.idx (.var 3) (.cst (.int 1))) (.idx (.bin .add (.var 1) (.bin .mul (.lst X0 (Z9 (.cst (.int 0)))) (.bin .add (.idx (.var 2) (.cst (.int 4))) (.cst (.int 1))))) (.idx (.var 2) (.cst (.int 4))))))) .nil) (.ret (.cst .non))))))⟩
noncomputable def f7 (x:ZZ):Fn:=⟨["_law_state",x,"_law_worth_here"],["_law_state",x,"_law_worth_here","_law_names","_law_cells"],
 (.seq (.set 3 (.bi .list XZ (.cons (.idx (.var 0) (.cst (.int 1))) .nil)))
 (.seq (.set 4 (.bi .list XZ (.cons (.idx (.var 0) (.cst (.int 2))) .nil)))
 (.seq (.ife (.bi .isStr X0 (.cons (.var 1) .nil)) (.put 3 (.me .sindex (.cst (.str "abcdef")) (.cons (.var 1) .nil)) (.var 2)) (.put 4 (.var 1) (.var 2)))
 (.ret (.bin .add (.tup (.cons (.idx (.var 0) (.cst (.int 0))) (.cons (.bi .tuple X0 (.cons (.var 3) .nil)) (.cons (.bi .tuple X0 (.cons (.var 4) .nil)) .nil)))) (.slc (.var 0) (.cons (.cst (.int 3)) .nil) .nil))))))⟩
noncomputable def nK:Fn:=f7 "_law_thing"
noncomputable def slJ:S:=(.ife (.or (.cmp .eq (.idx (.var 3) (.cst (.int 0))) (.cst (.str "jump"))) (.and (.cmp .eq (.idx (.var 3) (.cst (.int 0))) (.cst (.str "unless"))) (.cmp .eq (.call "_law_worth" (Z8 (.idx (.var 3) (.cst (.int 1))) (.var 2))) (.cst (.int 0))))) (.set 4 (.idx (.var 3) (.neg (.cst (.int 1))))) .nil)
noncomputable def slC:S:=(.ife (.cmp .eq (.idx (.var 3) (.cst (.int 0))) (.cst (.str "call"))) (.seq (.set 5 (.bin .add (.var 5) (.tup (Z9 (.var 4))))) (.set 4 (.idx (.var 3) (.cst (.int 1))))) .nil)
noncomputable def slK:S:=(.ife (.cmp .eq (.idx (.var 3) (.cst (.int 0))) (.cst (.str "back"))) (.seq (.set 4 (.idx (.var 5) (.neg (.cst (.int 1))))) (.set 5 (.slc (.var 5) .nil (Z9 (.neg (.cst (.int 1))))))) .nil)
noncomputable def slW:S:=(.ife (.cmp .notN (.var 6) (.cst .non)) (.set 2 (.call "_law_put" (Z7 (.var 2) (.idx (.var 6) (.cst (.int 0))) (.idx (.var 6) (.cst (.int 1)))))) .nil)
noncomputable def slY:S:=(.ife (.cmp .eq (.idx (.var 3) (.cst (.int 0))) (.cst (.str "say"))) (.set 7 (.bin .add (.var 7) (.tup (Z9 (.call "_law_worth" (Z8 (.idx (.var 3) (.cst (.int 1))) (.var 2))))))) .nil)
noncomputable def slR:S:=(.ret (.tup (Z4 (.var 4) (.idx (.var 2) (.cst (.int 1))) (.idx (.var 2) (.cst (.int 2))) (.var 5) (.bin .add (.idx (.var 2) (.cst (.int 4))) (.bi .int X0 (Z9 (.cmp .eq (.idx (.var 3) (.cst (.int 0))) (.cst (.str "ask")))))) (.var 7))))
noncomputable def iW:Fn:=⟨["_law_program_here","_law_asked_here","_law_state"],["_law_program_here","_law_asked_here","_law_state","_law_row_here","_law_goal","_law_open_ones","_law_told_here","_law_said"], (.seq (.set 3 (.idx (.var 0) (.idx (.var 2) (.cst (.int 0))))) (.seq (.set 4 (.bin .add (.idx (.var 2) (.cst (.int 0))) (.cst (.int 1)))) (.seq (.set 5 (.idx (.var 2) (.cst (.int 3)))) (.seq slJ (.seq slC (.seq slK (.seq (.set 6 (.call "_law_write" (Z7 (.var 0) (.var 1) (.var 2)))) (.seq slW (.seq (.set 7 (.idx (.var 2) (.cst (.int 5)))) (.seq slY slR))))))))))⟩
noncomputable def k2C:E:=(.and (.cmp .le (.bi .len X0 (Z9 (.var 3))) (.var 2)) (.not (.call "_law_is_over" (Z8 (.var 0) (.idx (.var 3) (.neg (.cst (.int 1))))))))
noncomputable def k2B:S:=(.ex (.me .append (.var 3) (Z9 (.call "_law_step" (Z7 (.var 0) (.var 1) (.idx (.var 3) (.neg (.cst (.int 1)))))))))
noncomputable def dY:Fn:=⟨["_law_program_here","_law_asked_here","_law_many"],["_law_program_here","_law_asked_here","_law_many","_law_found"], (.seq (.set 3 (.lst XZ (Z9 (.tup (Z4 (.cst (.int 0)) (.tup (Z4 (.cst (.int 0)) (.cst (.int 0)) (.cst (.int 0)) (.cst (.int 0)) (.cst (.int 0)) (.cst (.int 0)))) (.tup (Z6 (.cst (.int 0)) (.cst (.int 0)) (.cst (.int 0)) (.cst (.int 0)))) (.tup .nil) (.cst (.int 0)) (.tup .nil)))))) (.seq (.whl k2C k2B) (.ret (.var 3))))⟩
structure LwS (T:FK->Option Fn):Prop where
 worth:T "_law_worth"=XX iy
 isover:T "_law_is_over"=XX fE
 write:T "_law_write"=XX iz
 put:∃ x,T "_law_put"=XX (f7 x)
 step:T "_law_step"=XX iW
 states:T "_law_states"=XX dY
section
theorem Cg {st:St} (ho:st.ok) (x:Nm):az (.tup (af st.names)) (.int x.ix)=XX (.int (st.names.getD x.ix 0)):=by
 have xl:x.ix < st.names.length:=by rw[ho.nlen];exact x.wj
 rw[br,cH];simp[af,xl]
theorem Ci {st:St} (ho:st.ok) (v:Int):az (.tup (af st.cells)) (.int (v % 4))=XX (.int (st.cells.getD (v % 4).toNat 0)):=by
 have xl:(v % 4).toNat < st.cells.length:=by rw[ho.clen];lia
 have e:az (.tup (af st.cells)) (.int (((v % 4).toNat:Nat):Int))=XX (.int (st.cells.getD (v % 4).toNat 0)):=by rw[br,cH];simp[af,xl]
 have e2:(((v % 4).toNat:Nat):Int)=v % 4:=by lia
 rw[e2] at e;exact e
theorem jt (L:LwS T) (st:St) (ho:st.ok):∀ (s:Sm),s.ok->∀ (m:Nat) (h:HH),runN T G (m+s.size) "_law_worth" [.p s.enc,.p st.enc] h=XX (.p (.int (s.val st)),h):=by
 intro s
 induction s with
 | num n =>
  intro _ m h;exact jJ L.worth rfl ((aK (w:=.p (.str "num")) rfl).trans (gX rfl rfl))
 | nam i =>
  intro _ m h;have e:=jr i;have x:=Cg ho i;refine jJ L.worth rfl ((aK (w:=.p (.str "name")) rfl).trans ((dB rfl).trans (gX rfl ?_)));simp[-br,-To,Sm.enc,e,x,Sm.val,ix0,ix1]
 | cell s ih =>
  intro hok m h;rw[Sm.size,← Nat.add_assoc];have r:=ih hok m h;have x:=Ci ho (s.val st);refine jJ L.worth rfl ((aK (w:=.p (.str "cell")) rfl).trans ((dB rfl).trans ((dB rfl).trans ((aK (w:=.p (.int (s.val st))) (g:=h) ?_).trans (gX rfl ?_)))));exact r
  ·show (az (.tup (af st.cells)) (.int (s.val st % 4))).map _=_;rw[x];rfl
 | two o s t ihs iht =>
  intro hok m h;rw[Sm.size,← Nat.add_assoc];have r1:=ihs hok.1 (m+t.size) h;have r2:=iht hok.2 (m+s.size) h;have e1:m+t.size+s.size=m+(s.size+t.size):=by lia
  have e2:m+s.size+t.size=m+(s.size+t.size):=by lia
  rw[e1] at r1;rw[e2] at r2;have b:big (s.val st)=XZ:=by have:=Sm.o9 (s:=s) ho hok.1;exact kY this.1 (by have:=this.2;lia)
  refine jJ L.worth rfl ((aK (w:=.p (.str o.w)) rfl).trans ((dB ?_).trans ((dB ?_).trans ((aK (w:=.p (.int (s.val st))) (g:=h) ?_).trans ((dB ?_).trans ((aK (w:=.p (.int (t.val st))) (g:=h) ?_).trans ?_))))));cases o<;>rfl;cases o<;>rfl;exact r1;cases o<;>rfl;exact r2
  ·cases o with
   | add=>exact gX rfl rfl| sub=>exact (dB rfl).trans (gX rfl rfl)
   | mul =>
    refine (dB rfl).trans ((dB rfl).trans (kX ?_));show BT.ev _ G _ [XX (.p (Sm.two .mul s t).enc),XX (.p st.enc),XX (.p (.str "mul")),XX (.p (.int (s.val st))),XX (.p (.int (t.val st)))] h=_;simp[Sm.val,BT.two,b]
   | less =>
    refine (dB rfl).trans ((dB rfl).trans (kX ?_));show BT.ev _ G _ [XX (.p (Sm.two .less s t).enc),XX (.p st.enc),XX (.p (.str "less")),XX (.p (.int (s.val st))),XX (.p (.int (t.val st)))] h=_;simp[Sm.val,BT.two]
theorem lQ (L:LwS T) (k:Nat) (p:Pg) (hpl:p.length<=1000) (st:St) (hi:InP p st) (h:HH):runN T G (k+1) "_law_is_over" [.p (bw p),.p st.enc] h=XX (.p (.bl (over p st)),h):=by
 have add:gJ .add (bw p) (.tup [.tup [.str "stop"]])=XX (.tup ((p++[Rw.stop]).map Rw.enc)):=by show gJ .add (.tup (p.map Rw.enc)) _=_;rw[cM,if_pos (by simp;lia)];simp[Rw.enc]
 obtain ⟨r,er,eo⟩:∃ r,(p++[Rw.stop])[st.row]?=XX r/\over p st=r.over st:=by
  rcases RP st.row p.length with q|q
  ·refine ⟨p[st.row],by rw[Rp q];exact Ru q,?_⟩;rw[over,Ru q]
  ·have e:st.row=p.length:=Nat.le_antisymm hi.row q;refine ⟨.stop,by rw[RM q,e];simp,?_⟩;rw[over,Rz q];rfl
 have ix:az (.tup ((p++[Rw.stop]).map Rw.enc)) (.int st.row)=XX r.enc:=by rw[br,cH,RY,er];rfl
 have c1:∀ {x:D}{q:Bool},eqv x (.tup [.str "stop"])=q->cL .eq x (.tup [.str "stop"])=XX q:=λ{x q} e=>by rw[jS,if_pos (gf rfl),e]
 have c2:∀ {x:D}{q:Bool},eqv x (.tup [.str "back"])=q->cL .eq x (.tup [.str "back"])=XX q:=λ{x q} e=>by rw[jS,if_pos (gf rfl),e]
 rw[eo];refine jJ L.isover rfl ((aK (Bo (Bp rfl rfl add) rfl ix)).trans (kX ?_));cases r with
 | call q =>
  have e:decide ((5:Int) < (st.calls.length:Int))=decide (6<=st.calls.length):=by
   by_cases c:6<=st.calls.length
   simp[c];lia;simp[c];lia
  refine (uQ (fB rfl rfl (c1 rfl))).trans ((uQ (wo (fB rfl rfl (c2 rfl)))).trans ((Bq rfl).trans ?_));have lb:biD .len [.tup (ah st.calls)]=XX (.int (st.calls.length:Int)):=by simp[ah]
  show BT.ev _ G (.cmp .gt (.bi .len X0 (.cons (.idx (.var 1) (.cst (.int 3))) .nil)) (.cst (.int 5))) [XX (.p (bw p)),XX (.p st.enc),XX (.p (Rw.call q).enc)] h=_;have q3:az st.enc (.int 3)=XX (.tup (ah st.calls)):=rfl;simp[-br,-ja,q3,lb,Rw.over,e]
 | back =>
  cases hc:st.calls with
  | nil=>refine (uQ (fB rfl rfl (c1 rfl))).trans ((MB ((Bq (fB rfl rfl (c2 rfl))).trans (fB (d:=.tup []) (by show XX (W.p (.tup (ah st.calls)),h)=_;rw[hc];rfl) rfl rfl))).trans (by simp[Rw.over,hc]))| cons a l=>refine (uQ (fB rfl rfl (c1 rfl))).trans ((uQ ((Bq (fB rfl rfl (c2 rfl))).trans (fB (d:=.tup (ah (a::l))) (by show XX (W.p (.tup (ah st.calls)),h)=_;rw[hc]) rfl (by simp[ah])))).trans ((wo rfl).trans (by simp[Rw.over,hc])))
 | stop=>exact MB (fB rfl rfl (c1 rfl))| _=>exact (uQ (fB rfl rfl (c1 rfl))).trans ((uQ (wo (fB rfl rfl (c2 rfl)))).trans (wo rfl))
noncomputable def Rw.told (asked:List Int) (st:St):Rw->D
 | .set x s=>.tup [.str x.w,.int (s.val st)]| .put s t=>.tup [.int (s.val st % 4),.int (t.val st)]| .ask x=>.tup [.str x.w,.int (asked.getD st.asked 0)]| _=>.non
theorem Cj (asked:List Int) (i:Nat):az (.lst (af asked++rep (i+1) [.int 0])) (.int i)=XX (.int (asked.getD i 0)):=by
 rw[qB,aJ,cH];rcases RP i asked.length with c|c
 ·rw[Rp (by rw[bR];exact c)];simp[af,c]
 ·have e:asked[i]?=XY:=Rz (by lia);rw[RM (by rw[bR];lia),bR,Td,if_pos (by lia)];simp[e]
theorem oG (L:LwS T) (k:Nat) (p:Pg) (asked:List Int) (hal:asked.length<=1000) (st:St) (ho:st.ok) (hk:st.asked<=100) (r:Rw) (hr:r.ok p.length) (er:p[st.row]?=XX r) (h:HH) :
 runN T G (k+16) "_law_write" [.p (bw p),.p (.lst (af asked)),.p st.enc] h=XX (.p (r.told asked st),h):=by
 have row:az (bw p) (.int st.row)=XX r.enc:=by show az (.tup (p.map Rw.enc)) _=_;rw[br,cH,RY,er];rfl
 have wt:∀ s:Sm,nF s->∀ h,runN T G (k+15) "_law_worth" [.p s.enc,.p st.enc] h=XX (.p (.int (s.val st)),h):=λs hs h=>by
  have:=jt (G:=G) L st ho s hs.1 (k+(15 - s.size)) h;have e:k+(15 - s.size)+s.size=k+15:=by have:=hs.2;lia
  rw[e] at this;exact this
 refine jJ L.write rfl ((aK (Bo rfl rfl row)).trans ?_);cases r with
 | set x s=>exact gX rfl (qw rfl (wt s hr h))| put s t=>exact (dB rfl).trans (gX rfl (qw (Bp (wt s hr.1 h) rfl rfl) (wt t hr.2 h)))
 | ask x =>
  have z:=Cj asked st.asked;have a1:(-1000:Int)<=(st.asked:Int)+1:=by lia
  have a2:(st.asked:Int)+1<=1000:=by lia
  have a3:((st.asked:Int)+1).toNat=st.asked+1:=by lia
  have a4:st.asked+1<=100000:=by lia
  have a5:(af asked).length+(rep (st.asked+1) [D.int 0]).length<=100000:=by rw[qB,bR];simp;lia
  refine (dB rfl).trans ((dB rfl).trans (gX rfl (qw rfl ?_)));have q4:az st.enc (.int 4)=XX (.int st.asked):=rfl;show BT.ev _ G _ [XX (.p (bw p)),XX (.p (.lst (af asked))),XX (.p st.enc),XX (.p (Rw.ask x).enc)] h=_;simp only[To] at z;simp[-br,-aJ,q4,a1,a2,a3,a4,a5,z]
 | _=>exact (dB rfl).trans ((dB rfl).trans ((dB rfl).trans (kX rfl)))
@[simp] theorem PZ (st:St):pS st.enc (XX 3) XY=XX (.tup [.tup (ah st.calls),.int st.asked,.tup (af st.said)]):=rfl
theorem ju (L:LwS T) (k:Nat) (st:St) (ho:st.ok) (x:Nm) (v:Int) (h:HH):runN T G (k+1) "_law_put" [.p st.enc,.p (.str x.w),.p (.int v)] h=XX (.p ({ st with names:=st.names.set x.ix v }:St).enc,h):=by
 obtain ⟨nx,hx⟩:=L.put;rw[run_eq hx rfl];have e:=jr x;have xl:(x.ix:Int) < ((af st.names).length:Int):=by rw[bR,ho.nlen];have:=x.wj;lia
 have s1:(af st.names).set x.ix (.int v)=af (st.names.set x.ix v):=ints_set _ _ _;have bl1:biD .list [.tup (af st.names)]=XX (.lst (af st.names)):=rfl;have bl2:biD .list [.tup (af st.cells)]=XX (.lst (af st.cells)):=rfl;have p1:place (af st.names).length (x.ix:Int)=XX x.ix:=by simp[place,xl]
 simp[-place,f7,e,bl1,bl2,p1,s1,rd,fz];simp[St.enc,fz]
theorem oH (L:LwS T) (k:Nat) (st:St) (ho:st.ok) (q v:Int) (hq:0<=q) (hq4:q < 4) (h:HH):runN T G (k+1) "_law_put" [.p st.enc,.p (.int q),.p (.int v)] h=XX (.p ({ st with cells:=st.cells.set q.toNat v }:St).enc,h):=by
 obtain ⟨nx,hx⟩:=L.put;rw[run_eq hx rfl];have s1:(af st.cells).set q.toNat (.int v)=af (st.cells.set q.toNat v):=ints_set _ _ _;have bl1:biD .list [.tup (af st.names)]=XX (.lst (af st.names)):=rfl;have bl2:biD .list [.tup (af st.cells)]=XX (.lst (af st.cells)):=rfl;have p1:place (af st.cells).length q=XX q.toNat:=by
  have:q < ((af st.cells).length:Int):=by rw[bR,ho.clen];lia
  simp[place,hq,this]
 simp[-place,f7,bl1,bl2,p1,s1,rd,fz];simp[St.enc,fz]
theorem P0 (xs:List D) (a:D):az (.tup (xs++[a])) (.int (-1))=XX a:=by
 have e2:-((xs.length:Int)+1)<=-1:=by lia
 have e3:(-1+((xs.length:Int)+1)).toNat=xs.length:=by lia
 simp[e2,e3]
section
theorem sJ0 (e:az d (.int 0)=XX (.str w)) (h1:eqv (.str w) (.str "jump")=X0) (h2:eqv (.str w) (.str "unless")=X0) (sl:Sl) (h:HH) (g:sl[3]?=XX (XX (.p d))):evS F G slJ sl h=XX (.nx sl h):=by simp[-br,-eqv,slJ,g,e,h1,h2]
theorem sC0 (e:az d (.int 0)=XX (.str w)) (h1:eqv (.str w) (.str "call")=X0) (sl:Sl) (h:HH) (g:sl[3]?=XX (XX (.p d))):evS F G slC sl h=XX (.nx sl h):=by simp[-br,-eqv,slC,g,e,h1]
theorem sK0 (e:az d (.int 0)=XX (.str w)) (h1:eqv (.str w) (.str "back")=X0) (sl:Sl) (h:HH) (g:sl[3]?=XX (XX (.p d))):evS F G slK sl h=XX (.nx sl h):=by simp[-br,-eqv,slK,g,e,h1]
theorem sY0 (e:az d (.int 0)=XX (.str w)) (h1:eqv (.str w) (.str "say")=X0) (sl:Sl) (h:HH) (g:sl[3]?=XX (XX (.p d))):evS F G slY sl h=XX (.nx sl h):=by simp[-br,-eqv,slY,g,e,h1]
theorem sW0 (sl:Sl) (h:HH) (g:sl[6]?=XX (XX (.p .non))):evS F G slW sl h=XX (.nx sl h):=by simp[slW,g]
theorem sW1 {st:D} (e:F "_law_put" [.p st,.p x,.p y] h=XX (.p z,h)) (sl:Sl) (g:sl[6]?=XX (XX (.p (.tup [x,y])))) (g2:sl[2]?=XX (XX (.p st))):evS F G slW sl h=XX (.nx (sl.set 2 (XX (.p z))) h):=by simp[slW,g,g2,e]
theorem sR1 (e:az d (.int 0)=XX (.str w)) (e1:az dr (.int 1)=XX dn) (e2:az dr (.int 2)=XX dc) (e4:az dr (.int 4)=XX (.int i)) (hb:(if eqv (.str w) (.str "ask")=XZ then (1:Int) else 0)=b) (sl:Sl) (h:HH)
 (g2:sl[2]?=XX (XX (.p dr))) (g3:sl[3]?=XX (XX (.p d))) (g4:sl[4]?=XX (XX (.p x4))) (g5:sl[5]?=XX (XX (.p x5))) (g7:sl[7]?=XX (XX (.p x7))):evS F G slR sl h=XX (.rt (.p (.tup [x4,dn,dc,x5,.int (i+b),x7])) h):=by
 subst hb;simp[-br,-eqv,slR,g2,g3,g4,g5,g7,e,e1,e2,e4]
end
theorem qI (L:LwS T) (k:Nat) (p:Pg) (hp:Pg.ok p) (asked:List Int) (hal:asked.length<=1000) (st:St) (ho:st.ok) (hs:st.small) (hk:st.asked<=100) (hb:over p st=X0) (h:HH) :
 runN T G (k+17) "_law_step" [.p (bw p),.p (.lst (af asked)),.p st.enc] h=XX (.p (step p asked st).enc,h):=by
 have c:st.row < p.length:=by
  rcases RP st.row p.length with q|q
  exact q;rw[over,Rz q] at hb;cases hb
 have e:p[st.row]?=XX p[st.row]:=Ru c;have hr:=hp _ (UI c);have hb':(p[st.row]).over st=X0:=by rw[over,e] at hb;exact hb
 rw[step,e]
 revert hr hb'
 generalize p[st.row]=r at *;intro hr hb';have row:az (bw p) (.int st.row)=XX r.enc:=by show az (.tup (p.map Rw.enc)) _=_;rw[br,cH,RY,e];rfl
 have wr:=oG (G:=G) L k p asked hal st ho hk r hr e;have wt:∀ s:Sm,nF s->∀ h,runN T G (k+16) "_law_worth" [.p s.enc,.p st.enc] h=XX (.p (.int (s.val st)),h):=λs hs h=>by
  have:=jt (G:=G) L st ho s hs.1 (k+(16 - s.size)) h;have e:k+(16 - s.size)+s.size=k+16:=by have:=hs.2;lia
  rw[e] at this;exact this
 have l1:=hs.sl;have l2:=hs.cl;have rt:∀ (x:St) (w:ZZ) (b:Int),az r.enc (.int 0)=XX (.str w)->(if eqv (.str w) (.str "ask")=XZ then (1:Int) else 0)=b->∀ (sl:Sl) (h:HH) (x4 x5 x7:D),sl[2]?=XX (XX (.p x.enc))->sl[3]?=XX (XX (.p r.enc))->sl[4]?=XX (XX (.p x4))->sl[5]?=XX (XX (.p x5))->sl[7]?=XX (XX (.p x7)) →
  evS (runN T G (k+16)) G slR sl h=XX (.rt (.p (.tup [x4,.tup (af x.names),.tup (af x.cells),x5,.int (x.asked+b),x7])) h):=λx w b e hb sl h x4 x5 x7 g2 g3 g4 g5 g7=>sR1 e rfl rfl rfl hb sl h g2 g3 g4 g5 g7
 refine jJ L.step rfl ((aK (Bo rfl rfl row)).trans ((aK (w:=.p (.int ((st.row:Int)+1))) rfl).trans ((aK (w:=.p (.tup (ah st.calls))) rfl).trans ?_)));cases r with
 | set x s =>
  have pt:=ju (G:=G) L (k+15) st ho x (s.val st) h;have w0:az (Rw.set x s).enc (.int 0)=XX (.str "set"):=rfl;refine (aD (sJ0 w0 (by decide) (by decide) _ _ rfl)).trans ((aD (sC0 w0 (by decide) _ _ rfl)).trans ((aD (sK0 w0 (by decide) _ _ rfl)).trans ((aK (w:=.p (.tup [.str x.w,.int (s.val st)])) (g:=h) ?_).trans ((aD (sW1 pt _ rfl rfl)).trans ((aK (w:=.p (.tup (af st.said))) rfl).trans ((aD (sY0 w0 (by decide) _ _ rfl)).trans (rt { st with names:=st.names.set x.ix (s.val st) } "set" 0 w0 rfl _ _ _ _ _ rfl rfl rfl rfl rfl)))))));exact wr h
 | put s t =>
  have pt:=oH (G:=G) L (k+15) st ho (s.val st % 4) (t.val st) (by lia) (by lia) h;have w0:az (Rw.put s t).enc (.int 0)=XX (.str "put"):=rfl;refine (aD (sJ0 w0 (by decide) (by decide) _ _ rfl)).trans ((aD (sC0 w0 (by decide) _ _ rfl)).trans ((aD (sK0 w0 (by decide) _ _ rfl)).trans ((aK (w:=.p (.tup [.int (s.val st % 4),.int (t.val st)])) (g:=h) ?_).trans ((aD (sW1 pt _ rfl rfl)).trans ((aK (w:=.p (.tup (af st.said))) rfl).trans ((aD (sY0 w0 (by decide) _ _ rfl)).trans (rt { st with cells:=st.cells.set (s.val st % 4).toNat (t.val st) } "put" 0 w0 rfl _ _ _ _ _ rfl rfl rfl rfl rfl)))))));exact wr h
 | ask x =>
  have pt:=ju (G:=G) L (k+15) st ho x (asked.getD st.asked 0) h;have w0:az (Rw.ask x).enc (.int 0)=XX (.str "ask"):=rfl;refine (aD (sJ0 w0 (by decide) (by decide) _ _ rfl)).trans ((aD (sC0 w0 (by decide) _ _ rfl)).trans ((aD (sK0 w0 (by decide) _ _ rfl)).trans ((aK (w:=.p (.tup [.str x.w,.int (asked.getD st.asked 0)])) (g:=h) ?_).trans ((aD (sW1 pt _ rfl rfl)).trans ((aK (w:=.p (.tup (af st.said))) rfl).trans ((aD (sY0 w0 (by decide) _ _ rfl)).trans (rt { st with names:=st.names.set x.ix (asked.getD st.asked 0) } "ask" 1 w0 (by decide) _ _ _ _ _ rfl rfl rfl rfl rfl)))))));exact wr h
 | say s =>
  have l3:(af st.said).length+1<=100000:=by rw[bR];lia
  have w0:az (Rw.say s).enc (.int 0)=XX (.str "say"):=rfl;have w1:az (Rw.say s).enc (.int 1)=XX s.enc:=rfl;have wv:=wt s hr h;have Y:∀ (sl:Sl),sl[2]?=XX (XX (.p st.enc))->sl[3]?=XX (XX (.p (Rw.say s).enc))->sl[7]?=XX (XX (.p (.tup (af st.said))))->evS (runN T G (k+16)) G slY sl h=XX (.nx (sl.set 7 (XX (.p (.tup (af (st.said++[s.val st])))))) h):=λsl g2 g3 g7=>by simp[-br,slY,g2,g3,g7,w0,w1,wv,l3,ints_snoc]
  refine (aD (sJ0 w0 (by decide) (by decide) _ _ rfl)).trans ((aD (sC0 w0 (by decide) _ _ rfl)).trans ((aD (sK0 w0 (by decide) _ _ rfl)).trans ((aK (w:=.p (.non)) (g:=h) ?_).trans ((aD (sW0 _ _ rfl)).trans ((aK (w:=.p (.tup (af st.said))) rfl).trans ((aD (Y _ rfl rfl rfl)).trans (rt st "say" 0 w0 rfl _ _ _ _ _ rfl rfl rfl rfl rfl)))))));exact wr h
 | jump q =>
  have w0:az (Rw.jump q).enc (.int 0)=XX (.str "jump"):=rfl;have m1:az (Rw.jump q).enc (.int (-1))=XX (.int q):=rfl;have J:∀ (sl:Sl),sl[3]?=XX (XX (.p (Rw.jump q).enc))->evS (runN T G (k+16)) G slJ sl h=XX (.nx (sl.set 4 (XX (.p (.int q)))) h):=λsl g3=>by simp[-br,slJ,g3,w0,m1]
  refine (aD (J _ rfl)).trans ((aD (sC0 w0 (by decide) _ _ rfl)).trans ((aD (sK0 w0 (by decide) _ _ rfl)).trans ((aK (w:=.p (.non)) (g:=h) ?_).trans ((aD (sW0 _ _ rfl)).trans ((aK (w:=.p (.tup (af st.said))) rfl).trans ((aD (sY0 w0 (by decide) _ _ rfl)).trans (rt st "jump" 0 w0 rfl _ _ _ _ _ rfl rfl rfl rfl rfl)))))));exact wr h
 | «unless» s q =>
  have w0:az (Rw.unless s q).enc (.int 0)=XX (.str "unless"):=rfl;have w1:az (Rw.unless s q).enc (.int 1)=XX s.enc:=rfl;have m1:az (Rw.unless s q).enc (.int (-1))=XX (.int q):=rfl;have wv:=wt s hr.1 h
  by_cases z:s.val st=0
  ·have J:∀ (sl:Sl),sl[2]?=XX (XX (.p st.enc))->sl[3]?=XX (XX (.p (Rw.unless s q).enc))->evS (runN T G (k+16)) G slJ sl h=XX (.nx (sl.set 4 (XX (.p (.int q)))) h):=λsl g2 g3=>by simp[-br,slJ,g2,g3,w0,w1,m1,wv,z]
   simp only[Rw.next,z];refine (aD (J _ rfl rfl)).trans ((aD (sC0 w0 (by decide) _ _ rfl)).trans ((aD (sK0 w0 (by decide) _ _ rfl)).trans ((aK (w:=.p (.non)) (g:=h) ?_).trans ((aD (sW0 _ _ rfl)).trans ((aK (w:=.p (.tup (af st.said))) rfl).trans ((aD (sY0 w0 (by decide) _ _ rfl)).trans (rt st "unless" 0 w0 rfl _ _ _ _ _ rfl rfl rfl rfl rfl)))))));exact wr h
  ·have J:∀ (sl:Sl),sl[2]?=XX (XX (.p st.enc))->sl[3]?=XX (XX (.p (Rw.unless s q).enc))->evS (runN T G (k+16)) G slJ sl h=XX (.nx sl h):=λsl g2 g3=>by simp[-br,slJ,g2,g3,w0,w1,m1,wv,z]
   simp only[Rw.next,z];refine (aD (J _ rfl rfl)).trans ((aD (sC0 w0 (by decide) _ _ rfl)).trans ((aD (sK0 w0 (by decide) _ _ rfl)).trans ((aK (w:=.p (.non)) (g:=h) ?_).trans ((aD (sW0 _ _ rfl)).trans ((aK (w:=.p (.tup (af st.said))) rfl).trans ((aD (sY0 w0 (by decide) _ _ rfl)).trans (rt st "unless" 0 w0 rfl _ _ _ _ _ rfl rfl rfl rfl rfl)))))));exact wr h
 | call q =>
  have l3:(ah st.calls).length+1<=100000:=by simp[ah];lia
  have e4:ah st.calls++[.int ((st.row:Int)+1)]=ah (st.calls++[st.row+1]):=by rw[← pB];simp
  have w0:az (Rw.call q).enc (.int 0)=XX (.str "call"):=rfl;have w1:az (Rw.call q).enc (.int 1)=XX (.int q):=rfl;have C:∀ (sl:Sl),sl.length=8->sl[3]?=XX (XX (.p (Rw.call q).enc))->sl[4]?=XX (XX (.p (.int ((st.row:Int)+1))))->sl[5]?=XX (XX (.p (.tup (ah st.calls))))->evS (runN T G (k+16)) G slC sl h=XX (.nx ((sl.set 5 (XX (.p (.tup (ah (st.calls++[st.row+1])))))).set 4 (XX (.p (.int q)))) h):=λsl ln g3 g4 g5=>by simp[-br,slC,g3,g4,g5,w0,w1,l3,e4]
  refine (aD (sJ0 w0 (by decide) (by decide) _ _ rfl)).trans ((aD (C _ rfl rfl rfl rfl)).trans ((aD (sK0 w0 (by decide) _ _ rfl)).trans ((aK (w:=.p (.non)) (g:=h) ?_).trans ((aD (sW0 _ _ rfl)).trans ((aK (w:=.p (.tup (af st.said))) rfl).trans ((aD (sY0 w0 (by decide) _ _ rfl)).trans (rt st "call" 0 w0 rfl _ _ _ _ _ rfl rfl rfl rfl rfl)))))));exact wr h
 | back =>
  have cn:st.calls≠[]:=by intro e;simp[Rw.over,e] at hb'
  obtain ⟨l,x,el⟩:∃ l x,st.calls=l++[x]:=⟨st.calls.dropLast,st.calls.getLast cn,(UN cn).symm⟩;have m1:=P0 (ah l) (.int x);have en:ah st.calls=ah l++[.int x]:=by rw[el];simp[ah]
  rw[← en] at m1;have e5:pS (.tup (ah st.calls)) XY (XX (-1))=XX (.tup (ah st.calls.dropLast)):=by rw[pU,sN]
  have gl:st.calls.getLast?.getD 0=x:=by simp[el]
  have w0:az Rw.back.enc (.int 0)=XX (.str "back"):=rfl;have K:∀ (sl:Sl),sl[3]?=XX (XX (.p Rw.back.enc))->sl[5]?=XX (XX (.p (.tup (ah st.calls))))->evS (runN T G (k+16)) G slK sl h=XX (.nx ((sl.set 4 (XX (.p (.int x)))).set 5 (XX (.p (.tup (ah st.calls.dropLast))))) h):=λsl g3 g5=>by simp[-br,-pU,slK,g3,g5,w0,m1,e5]
  simp only[Rw.next,gl];refine (aD (sJ0 w0 (by decide) (by decide) _ _ rfl)).trans ((aD (sC0 w0 (by decide) _ _ rfl)).trans ((aD (K _ rfl rfl)).trans ((aK (w:=.p (.non)) (g:=h) ?_).trans ((aD (sW0 _ _ rfl)).trans ((aK (w:=.p (.tup (af st.said))) rfl).trans ((aD (sY0 w0 (by decide) _ _ rfl)).trans (rt st "back" 0 w0 rfl _ _ _ _ _ rfl rfl rfl rfl rfl)))))));exact wr h
 | stop=>simp[Rw.over] at hb'
theorem Ck (L:LwS T) (k:Nat) (h:HH) (p:Pg) (hp:Pg.ok p) (hpl:p.length<=1000) (asked:List Int) (ha:Ask asked) (hal:asked.length<=1000) (many:Nat) (hm:many<=60):∀ (r f:Nat) (pre:List D) (st:St),pre.length+r=many->r<=f->At pre.length st->InP p st->st.asked<=pre.length →
 aQ (ev (runN T G (k+17)) G k2C) (evS (runN T G (k+17)) G k2B) (f+1) [XX (.p (bw p)),XX (.p (.lst (af asked))),XX (.p (.int many)),XX (.r h.length)] (h++[.l (pre++[st.enc])]) =
  XX (.nx [XX (.p (bw p)),XX (.p (.lst (af asked))),XX (.p (.int many)),XX (.r h.length)] (h++[.l (pre++(sts p asked r st).map St.enc)])):=by
 intro r
 induction r with
 | zero =>
  intro f pre st hl hf a ip hk;have c:¬ ((pre.length:Int)+1<=(many:Int)):=by lia
  simp[aQ,k2C,rd,c,sts]
 | succ r ih =>
  intro f pre st hl hf a ip hk;have c:(pre.length:Int)+1<=(many:Int):=by lia
  have e2:-((pre.length:Int)+1)<=-1:=by lia
  have e3:(-1+((pre.length:Int)+1)).toNat=pre.length:=by lia
  have o:=lQ (G:=G) L (k+16) p hpl st ip;cases hb:over p st with
  | true =>
   rw[hb] at o;simp[aQ,k2C,rd,c,sts,e2,e3,o,hb]
  | false =>
   rw[hb] at o;have s:=qI (G:=G) L k p hp asked hal st a.ok (a.small (by lia)) (by lia) hb;cases f with
   | zero=>lia
   | succ f =>
    have q:=ih f (pre++[st.enc]) (step p asked st) (by simp;lia) (by lia) (by simpa using wA hp ha a hb) (BD hp ip hb) (by have:=uU p asked st;simp;lia);have hc:ev (runN T G (k+17)) G k2C [XX (.p (bw p)),XX (.p (.lst (af asked))),XX (.p (.int many)),XX (.r h.length)] (h++[.l (pre++[st.enc])])=XX (.p (.bl XZ),h++[.l (pre++[st.enc])]):=by simp[k2C,rd,c,e2,e3,o]
    have l:pre.length+1 < 100000:=by lia
    have hbd:evS (runN T G (k+17)) G k2B [XX (.p (bw p)),XX (.p (.lst (af asked))),XX (.p (.int many)),XX (.r h.length)] (h++[.l (pre++[st.enc])]) =
     XX (.nx [XX (.p (bw p)),XX (.p (.lst (af asked))),XX (.p (.int many)),XX (.r h.length)] (h++[.l ((pre++[st.enc])++[(step p asked st).enc])])):=by
     simp[k2B,rd,e2,e3,s,l]
    rw[aQ,hc,cu,gK,hbd,aX,q];simp[sts,hb]
theorem nL (L:LwS T) (k:Nat) (p:Pg) (hp:Pg.ok p) (hpl:p.length<=1000) (asked:List Int) (ha:Ask asked) (hal:asked.length<=1000) (many:Nat) (hm:many<=60) (h:HH) :
 runN T G (k+18) "_law_states" [.p (bw p),.p (.lst (af asked)),.p (.int many)] h=XX (.p (.lst ((sts p asked many St.zero).map St.enc)),h):=by
 rw[run_eq L.states rfl];have q:=Ck (G:=G) L k h p hp hpl asked ha hal many hm many 99999 [] St.zero (by simp) (by lia) wu (BB p) (Rq _);simp only[TL] at q;have q':aQ (ev (runN T G (k+17)) G k2C) (evS (runN T G (k+17)) G k2B) 100000 [XX (.p (bw p)),XX (.p (.lst (af asked))),XX (.p (.int many)),XX (.r h.length)] (h++[.l [St.zero.enc]]) =
  XX (.nx [XX (.p (bw p)),XX (.p (.lst (af asked))),XX (.p (.int many)),XX (.r h.length)] (h++[.l ((sts p asked many St.zero).map St.enc)])):=q
 have z:St.zero.enc=.tup [.int 0,.tup [.int 0,.int 0,.int 0,.int 0,.int 0,.int 0],.tup [.int 0,.int 0,.int 0,.int 0],.tup [],.int 0,.tup []]:=rfl;rw[z] at q';simp[dY,turns,q',Bk]
end
noncomputable def iX:Fn:=⟨["self","moment"],["self","moment"],(.ife (.not (.meth (.var 0) "has" (Z9 (.var 1)))) (.rai "NoMoment" (.var 1)) .nil)⟩
noncomputable def tE:Fn:=⟨["self","moment"],["self","moment","state","step"],(.seq (.ex (.meth (.var 0) "check" (Z9 (.var 1)))) .bad)⟩
structure TpX (TX:FK->Option Fn):Prop where
 check:TX (.m "Tape" "check")=XX iX
 at_:TX (.m "Tape" "at")=XX tE
def NoM (e:Nat) (z:Int):Prop:=z < 0\/(e:Int) < z
section
theorem Cn (P:TpP T G) (k:Nat) (a:TAt h n r t) (I:TI t e gv) (z:Int) (hz:NoM e z) :
 uW (runN T G (k+9) (.m "Tape" "has") [.o n,.p (.int z)] h) (.p (.bl X0)) n h r t e gv:=by
 by_cases c:0<=z/\z<=(t.most:Int)
 ·obtain ⟨m,rfl⟩:∃ m:Nat,z=(m:Int):=⟨z.toNat,by lia⟩;obtain ⟨h',r',t',b,g,I',s,f⟩:=qD P k a I m (by lia);refine ⟨h',r',t',?_,g,I',s⟩;rw[b,decide_eq_false];rcases hz with hz|hz<;>lia
 ·refine ⟨h,r,t,?_,.refl a,I,⟨rfl,rfl,rfl,rfl⟩⟩;rw[run_eq P.has rfl];have w:=g9 P (k+7) z;have c1:z < 0\/(t.most:Int) < z:=by lia
  by_cases c2:z < 0
  simp[bZ,w,c2,aj]
  ·have c3:(t.most:Int) < z:=by lia
   simp[bZ,w,c2,c3,a.ob,aj]
theorem tF (P:TpP T G) (k:Nat) (a:TAt h n r t) (I:TI t e gv) (z:Int) (hz:NoM e z):runN T G (k+10) (.m "Tape" "check") [.o n,.p (.int z)] h=XY:=by obtain ⟨h',r',t',b,g,I',s⟩:=Cn P k a I z hz;rw[run_eq P.check rfl];simp[cB,a.ob,pC,b]
theorem ML (P:TpP T G) (k:Nat) (a:TAt h n r t) (I:TI t e gv) (z:Int) (hz:NoM e z):runN T G (k+11) (.m "Tape" "at") [.o n,.p (.int z)] h=XY:=by have b:=tF P k a I z hz;rw[run_eq P.at_ rfl];simp[fC,a.ob,mq,b]
theorem Fo (P:TpP T G) (X:TpX TX) (k:Nat) (a:TAt h n r t) (I:TI t e gv) (z:Int) (hz:NoM e z) (hb:big z=XZ) :
 uW (dh T TX G (k+10) (.m "Tape" "check") [.o n,.p (.int z)] h) (RG "NoMoment") n h r t e gv:=by
 obtain ⟨h',r',t',b,g,I',s⟩:=Cn P k a I z hz;refine ⟨h',r',t',?_,g,I',s⟩;rw[ko X.check rfl];simp[iX,xs1,xs2,xs3,xs4,xs5,xs6,xs7,xs8,rsI,a.ob,pC,b,hb]
theorem P1 (P:TpP T G) (X:TpX TX) (k:Nat) (a:TAt h n r t) (I:TI t e gv) (z:Int) (hz:NoM e z) (hb:big z=XZ) :
 uW (dh T TX G (k+11) (.m "Tape" "at") [.o n,.p (.int z)] h) (RG "NoMoment") n h r t e gv:=by
 obtain ⟨h',r',t',b,g,I',s⟩:=Fo P X k a I z hz hb;refine ⟨h',r',t',?_,g,I',s⟩;have c:=tF P k a I z hz;rw[ko X.at_ rfl];simp[tE,xs1,xs2,xs3,xs4,xs5,xs6,xs7,xs8,xe1,xe2,xe3,xe4,xe5,xe6,xe7,xe8,rsM,a.ob,mq,c,b]
end
structure Fr (N n r:Nat) (h:HH) (r':Nat) (h':HH):Prop where
 fr:∀ i,i≠n->i≠r->i < N->h'[i]?=h[i]?
 len:r'=r\/N<=r'
theorem Fr.refl (N n r:Nat) (h:HH):Fr N n r h r h:=⟨λ_ _ _ _=>rfl,.inl rfl⟩
theorem Fr.trans (a:Fr N n r h r1 h1) (b:Fr N n r1 h1 r2 h2):Fr N n r h r2 h2:=by
 refine ⟨λi h1 h2 h3=>?_,?_⟩
 ·rw[b.fr i h1 (by rcases a.len with z|z<;>lia) h3,a.fr i h1 h2 h3]
 ·rcases b.len with z|z
  ·rcases a.len with y|y
   exact .inl (z.trans y);exact .inr (by lia)
  exact .inr z
theorem Go.wR (g:Go n h r t h' r' t') (hN:N<=h.length):Fr N n r h r' h':=by
 refine ⟨λi h1 h2 h3=>g.fr i h1 h2 (by lia),?_⟩;rcases g.len with ⟨_,z⟩|z
 exact .inl z;exact .inr (by lia)
theorem Fr.set (a:Fr N n r h r' h') (hq:N<=q) (c:Cl):Fr N n r h r' (h'.set q c) :=
 ⟨λi h1 h2 h3=>by rw[So (by lia)];exact a.fr i h1 h2 h3,a.len⟩
theorem Fr.lat (a:Fr N n r h r' h') (l:lat h q=XX xs) (h1:q≠n) (h2:q≠r) (h3:q < N):BT.lat h' q=XX xs/\q≠r':=by refine ⟨?_,by rcases a.len with z|z<;>lia⟩;rw[← l];exact uV (a.fr q h1 h2 h3)
structure WkX (TX:FK->Option Fn):Prop where
 depth:TX "depth"=XX cC
 over:TX "over"=XX fZ
 out:TX "out"=XX iV
 back_over:TX "back_over"=XX bD
 back_out:TX "back_out"=XX bO
 open_calls:TX "open_calls"=XX aN
section
theorem Co (P:TpP T G) (L:TpL T) (Wk:WkP T G) (Q:WkQ T) (k:Nat) (w1:W) (n q e gv N:Nat) (hN:N<=q):∀ (d f m:Nat) (h:HH) (r:Nat) (t:Tp) (js:List Nat),dep t m=d->d < f->m<=e->TAt h n r t->TI t e gv->Tl h n r q js->js.length+d<=50000->N<=h.length →
 ∃ y h' r' t',aQ (BT.ev (runN T G (k+14)) G ocC) (evS (runN T G (k+14)) G ocB) f [XX (.o n),XX w1,XX (.r q),XX (.p (.int (m:Int)))] h=XX (.nx [XX (.o n),XX w1,XX (.r q),y] h')/\TAt h' n r' t'/\TI t' e gv/\Sm8 t t'/\Tl h' n r' q (js++(wt t m).reverse)/\h.length<=h'.length/\Fr N n r h r' h':=by
 intro d
 induction d with
 | zero =>
  intro f m h r t js hd hf hm a I T0 hj hl;cases f with
  | zero=>lia
  | succ f =>
   obtain ⟨h1,r1,t1,b1,g1,I1,s1⟩:=dP P Wk (k+2) a I m hm;rw[hd] at b1;have ts:BT.ev (runN T G (k+14)) G ocC [XX (.o n),XX w1,XX (.r q),XX (.p (.int (m:Int)))] h=XX (.p (.bl X0),h1):=by simp[ocC,b1]
   have w0:wt t m=[]:=List.length_eq_zero_iff.mp (by rw[(gj I.run m hm).len,hd]);refine ⟨XX (.p (.int (m:Int))),h1,r1,t1,?_,g1.b,I1,s1,by rw[w0];simpa using T0.go g1,g1.le,g1.wR hl⟩;rw[aQ,ts,cu,gM]
 | succ d ih =>
  intro f m h r t js hd hf hm a I T0 hj hl;cases f with
  | zero=>lia
  | succ f =>
   obtain ⟨h1,r1,t1,b1,g1,I1,s1⟩:=dP P Wk (k+2) a I m hm;rw[hd] at b1;have ts:BT.ev (runN T G (k+14)) G ocC [XX (.o n),XX w1,XX (.r q),XX (.p (.int (m:Int)))] h=XX (.p (.bl XZ),h1):=by
    have c:(0:Int) < ((d+1:Nat):Int):=by lia
    generalize ((d+1:Nat):Int)=z at b1 c;simp[ocC,b1,c]
   obtain ⟨j,h2,r2,t2,b2,B,g2,I2,s2⟩:=kF P L Wk Q k g1.b I1 m hm;have D1:dep t1=dep t:=by funext i;unfold dep;rw[s1.p,s1.asked]
   rw[pH s1,D1] at B;obtain ⟨l,o,hw⟩:=Fj I.run hm (by lia);have jl:=Fk o (by lia) B;subst jl;have S2:=s1.trans s2;have T2:=(T0.go g1).go g2;obtain ⟨T3,a3⟩:=T2.put g2.b j;have oj:=o.lt;have D2:dep t2=dep t:=by funext i;unfold dep;rw[S2.p,S2.asked]
   have gl:=g1.le;have gl2:=g2.le;obtain ⟨y,h4,r4,t4,b4,a4,I4,s4,T4,ln,F4⟩:=ih f j _ r2 t2 (js++[j]) (by rw[D2,o.at_];lia) (by lia) (by lia) a3 I2 T3 (by rw[RI,Sv];lia) (by rw[UT];lia);refine ⟨y,h4,r4,t4,?_,a4,I4,S2.trans s4,?_,?_,((g1.wR hl).trans (g2.wR (by lia))).set hN _ |>.trans F4⟩
   ·have la:=T2.at_;have l1:(ah js).length < 100000:=by unfold ah;rw[RN];lia
    have bd:evS (runN T G (k+14)) G ocB [XX (.o n),XX w1,XX (.r q),XX (.p (.int (m:Int)))] h1=XX (.nx [XX (.o n),XX w1,XX (.r q),XX (.p (.int (j:Int)))] (h2.set q (.l (ah js++[.int (j:Int)])))):=by simp[ocB,b2,la,l1]
    rw[aQ,ts,cu,gK,bd,aX,b4]
   ·rw[(wQ S2 j).1,SW] at T4;rw[hw,Xp];exact T4
   rw[UT] at ln;lia
theorem lR (P:TpP T G) (L:TpL T) (Wk:WkP T G) (Q:WkQ T) (C:CaP T G) (k:Nat) (a:TAt h n r t) (I:TI t e gv) (m:Nat) (hm:m<=e) :
 ∃ h' r' t',runN T G (k+15) "open_calls" [.o n,.p (.int (m:Int))] h=XX (.p (.lst (ah (wt t m))),h')/\TAt h' n r' t'/\TI t' e gv/\Sm8 t t'/\Fr h.length n r h r' h'/\h.length<=h'.length:=by
 have le:=I.run.le;have m1:=I.m1;have T0:Tl (h++[.l []]) n r h.length []:=⟨by simp[lat];rfl,λz=>by have:=k8 a.ob;lia,λz=>by have:=k9 a.li;lia⟩;have dl:=(gj I.run m hm).len;have wl:=(lg t m).2;obtain ⟨y,h1,r1,t1,b1,a1,I1,s1,T1,ln,F1⟩:=Co P L Wk Q k (.p (.int (m:Int))) n h.length e gv h.length (Rq _) (dep t m) turns m (h++[.l []]) r t [] rfl (by unfold turns;lia) hm a.app I T0 (by simp only[SY];lia) (by simp);have lr:(ah ((wt t m).reverse)).reverse=ah (wt t m):=by unfold ah;rw[← List.map_reverse,List.reverse_reverse]
 have la:=T1.at_;rw[TL] at la;have k1:(ah (wt t m)).length<=100000:=by unfold ah;rw[RN];lia
 have F2:Fr h.length n r h r1 h1:=⟨λi h1 h2 h3=>by rw[F1.fr i h1 h2 h3,Rp h3],F1.len⟩;have key:∃ h' r' t',fin h (.p (.lst (ah (wt t m)))) h1=XX (.p (.lst (ah (wt t m))),h')/\TAt h' n r' t'/\TI t' e gv/\Sm8 t t'/\Fr h.length n r h r' h'/\h.length<=h'.length:=by
  unfold fin;rw[RI,Sv] at ln
  by_cases c:h1.length=h.length
  lia
  ·rw[if_neg c]
   by_cases c2:h1.take h.length=h
   rw[if_pos c2];exact ⟨h,r,t,rfl,a,I,.refl t,.refl _ _ _ _,Rq _⟩;rw[if_neg c2];exact ⟨h1,r1,t1,rfl,a1,I1,s1,F2,by lia⟩
 obtain ⟨h',r',t',f0,a',I',s'⟩:=key;refine ⟨h',r',t',?_,a',I',s'⟩;rw[run_eq C.open_calls rfl,aN];generalize hrv:ah ((wt t m).reverse)=rv at la lr;simp[b1,rd,la,lr,k1,f0]
theorem nM (P:TpP T G) (Wk:WkP T G) (X:TpX TX) (Y:WkX TX) (k:Nat) (a:TAt h n r t) (I:TI t e gv) (z:Int) (hz:NoM e z) (hb:big z=XZ) :
 runN T G (k+12) "depth" [.o n,.p (.int z)] h=XY/\uW (dh T TX G (k+12) "depth" [.o n,.p (.int z)] h) (RG "NoMoment") n h r t e gv:=by
 have c:=ML P k a I z hz;obtain ⟨h',r',t',b,g,I',s⟩:=P1 P X k a I z hz hb;refine ⟨?_,h',r',t',?_,g,I',s⟩
 ·rw[run_eq Wk.depth rfl];simp[cC,a.ob,BQ,c]
 ·rw[ko Y.depth rfl];simp[cC,xs1,xs2,xs3,xs4,xs5,xs6,xs7,xs8,xe1,xe2,xe3,xe4,xe5,xe6,xe7,xe8,xa1,xa2,rsC,rsA,rsM,dk,Wk.open_in,a.ob,BQ,c,b]
theorem qJ (P:TpP T G) (Wk:WkP T G) (X:TpX TX) (Y:WkX TX) (k:Nat) (a:TAt h n r t) (I:TI t e gv) (z:Int) (hz:NoM e z) (hb:big z=XZ)
 (hT:T (.f f)=XX ⟨["tape","moment"],["tape","moment"],.ret (.call g (.cons (.var 0) (.cons (.var 1) (.cons e3 .nil))))⟩) (hX:TX (.f f)=XX ⟨["tape","moment"],["tape","moment"],.ret (.call g (.cons (.var 0) (.cons (.var 1) (.cons e3 .nil))))⟩) (hg:(T (.f g)).isSome=XZ)
 (h3:e3=.call "depth" (.cons (.var 0) (.cons (.var 1) .nil))\/e3=.bin .sub (.call "depth" (.cons (.var 0) (.cons (.var 1) .nil))) (.cst (.int 1))) :
 runN T G (k+13) (.f f) [.o n,.p (.int z)] h=XY/\uW (dh T TX G (k+13) (.f f) [.o n,.p (.int z)] h) (RG "NoMoment") n h r t e gv:=by
 obtain ⟨c,h',r',t',b,g,I',s⟩:=nM P Wk X Y k a I z hz hb;refine ⟨?_,h',r',t',?_,g,I',s⟩
 ·rw[run_eq hT rfl];rcases h3 with rfl|rfl<;>simp[c]
 ·rw[ko hX rfl];rcases h3 with rfl|rfl<;>simp[xs1,xs2,xs3,xs4,xs5,xs6,xs7,xs8,xe1,xe2,xe3,xe4,xe5,xe6,xe7,xe8,xa1,xa2,rsC,rsA,dk,hg,c,b]
theorem Fp (P:TpP T G) (Wk:WkP T G) (C:CaP T G) (X:TpX TX) (Y:WkX TX) (k:Nat) (a:TAt h n r t) (I:TI t e gv) (z:Int) (hz:NoM e z) (hb:big z=XZ) :
 runN T G (k+13) "open_calls" [.o n,.p (.int z)] h=XY/\∃ h' r' t',dh T TX G (k+13) "open_calls" [.o n,.p (.int z)] h=XX (RG "NoMoment",h')/\Go n (h++[.l []]) r t h' r' t'/\TI t' e gv/\Sm8 t t':=by
 have a2:TAt (h++[.l []]) n r t:=a.app;obtain ⟨c,h',r',t',b,g,I',s⟩:=nM P Wk X Y k a2 I z hz hb;have c2:BT.ev (runN T G (k+12)) G ocC [XX (.o n),XX (.p (.int z)),XX (.r h.length),XX (.p (.int z))] (h++[.l []])=XY:=by simp[ocC,c]
 have r2:rsE (runN T G (k+12)) (dh T TX G (k+12)) (dk T) G ocC [XX (.o n),XX (.p (.int z)),XX (.r h.length),XX (.p (.int z))] (h++[.l []])=XX (RG "NoMoment",h'):=by simp[ocC,xe1,xe2,xe3,xe4,xe5,xe6,xe7,xe8,rsC,b]
 have tw:∀ (c:Sl->HH->Option (W×HH)) (b:Sl->HH->Option Fl) (s:Sl) (h:HH),c s h=XY->aQ c b turns s h=XY:=λc b s h q=>by show tst (c s h) _=XY;rw[q];rfl
 have w2:=tw (BT.ev (runN T G (k+12)) G ocC) (evS (runN T G (k+12)) G ocB) _ _ c2;refine ⟨?_,h',r',t',?_,g,I',s⟩
 ·rw[run_eq C.open_calls rfl,aN];simp[w2]
 ·rw[ko Y.open_calls rfl,aN];simp[w2,xs1,xs2,xs3,xs4,xs5,xs6,xs7,xs8,r2]
end
noncomputable def b7:Fn:=⟨["_law_e"],["_law_e","_law_flags"], (.seq (.set 1 (.lst X0 (Z7 (.isx "NoMoment" (.var 0)) (.isx "NoRun" (.var 0)) (.isx "NoThing" (.var 0))))) (.seq (.set 1 (.bin .add (.var 1) (.lst X0 (Z9 (.isx "NoText" (.var 0)))))) (.seq (.ife (.or (.cmp .ne (.me .count (.var 1) (Z9 (.cst (.bl XZ)))) (.cst (.int 1))) (.not (.isx "ValueError" (.var 0)))) (.ret (.tup (Z8 (.cst (.str "refused")) (.neg (.cst (.int 1)))))) .nil) (.ret (.tup (Z8 (.cst (.str "refused")) (.me .lindex (.var 1) (Z9 (.cst (.bl XZ))))))))))⟩
theorem yL (h:HH):BS.sF b7 [.x "NoMoment"] h=XX (.p (.tup [.str "refused",.int 0]),h):=by unfold BS.sF BS.lO;simp[b7,mS,aj,zA,zB,gi]
section
noncomputable def due (pg:Pg) (asked:List Int) (e:Nat):D:=.lst (((RK (e+1)).map (itr pg asked)).map St.enc)
theorem wU (pg:Pg) (asked:List Int) (e:Nat):biD .len [due pg asked e]=XX (.int ((e:Int)+1)):=by simp[due]
theorem JJ:cL .ne (.tup [.str "refused",.int 0]) (.tup [.str "refused",.int 0])=XX X0:=by rw[jT,if_pos (gf (by simp))];simp
end
section
end
theorem JK (x:FF g a b o) (y:FF g a b o'):o=o':=by
 cases o with
 | none =>
  cases o' with
  | none=>rfl| some j=>obtain ⟨h1,h2,h3,_⟩:=y.yes j rfl;rw[x.no rfl j h1 h2] at h3;cases h3
 | some i =>
  obtain ⟨h1,h2,h3,h4⟩:=x.yes i rfl;cases o' with
  | none=>rw[y.no rfl i h1 h2] at h3;cases h3
  | some j =>
   obtain ⟨k1,k2,k3,k4⟩:=y.yes j rfl;rcases TQ i j with z|z|z
   rw[k4 i h1 z] at h3;cases h3;rw[z];rw[h4 j k1 z] at k3;cases k3
theorem Cq (g:Nat->Bool) (m:Nat):mom g (m+1)=mom g m++(if g (m+1)=XZ then [m+1] else []):=by unfold mom;rw[UR,TY];congr 1;rw[Ui];rfl
theorem Cr (g:Nat->Bool):∀ m,FL g 0 m (mom g m).getLast?
 | 0=>by
  cases c:g 0 with
  | true =>
   have e:mom g 0=[0]:=by unfold mom;simp[c]
   rw[e];exact ⟨λj h=>by cases h;exact ⟨Rq _,Rq _,c,λi h1 h2=>by lia⟩,λh=>nomatch h⟩
  | false =>
   have e:mom g 0=[]:=by unfold mom;simp[c]
   rw[e];exact ⟨(λj h=>nomatch h),λ_ i h1 h2=>by rw[show i=0 by lia];exact c⟩
 | m+1=>by
  have ih:=Cr g m;rw[Cq];cases c:g (m+1) with
  | true =>
   have e:(mom g m++(if XZ=XZ then [m+1] else [])).getLast?=XX (m+1):=by simp
   rw[e];exact ⟨λj h=>by cases h;exact ⟨SC _,Rq _,c,λi h1 h2=>by lia⟩,λh=>nomatch h⟩
  | false =>
   rw[if_neg SZ,R8];refine ⟨λj h=>?_,λh i h1 h2=>?_⟩
   ·obtain ⟨h1,h2,h3,h4⟩:=ih.yes j h;refine ⟨h1,by lia,h3,λi k1 k2=>?_⟩
    by_cases q:i=m+1
    rw[q];exact c;exact h4 i k1 (by lia)
   ·by_cases q:i=m+1
    rw[q];exact c;exact ih.no h i h1 (by lia)
noncomputable def frm (g:Nat->Bool) (m e:Nat):List Nat:=(mom g e).filter λi=>decide (m<=i)
theorem uY (g:Nat->Bool) (m e:Nat):FF g m e (frm g m e).head?:=by
 have mm:∀ i,i∈frm g m e↔m<=i/\i<=e/\g i=XZ:=λi=>by unfold frm;rw[List.mem_filter,Fd,decide_eq_true_eq];constructor<;>rintro ⟨a,b⟩;exact ⟨b,a⟩;exact ⟨b,a⟩
 have pw:(frm g m e).Pairwise (· < ·):=by unfold frm mom;exact (List.pairwise_lt_range.filter _).filter _
 cases l:frm g m e with
 | nil=>exact ⟨(λj h=>nomatch h),λ_ i h1 h2=>by
  cases c:g i with
  | false=>rfl
  | true =>
   have:=(mm i).mpr ⟨h1,h2,c⟩;rw[l] at this;cases this⟩
 | cons j r =>
  refine ⟨λj' h=>?_,λh=>nomatch h⟩;cases h;rw[l] at pw;obtain ⟨h1,h2,h3⟩:=(mm j).mp (by rw[l];exact RL);refine ⟨h1,h2,h3,λi k1 k2=>?_⟩;cases c:g i with
  | false=>rfl
  | true =>
   have:=(mm i).mpr ⟨k1,by lia,c⟩;rw[l] at this;rcases List.mem_cons.mp this with z|z
   lia
   ·have:=(List.pairwise_cons.mp pw).1 i z;lia
theorem Fq (l:List Nat):az (.lst (ah l++[.non])) (.int 0)=XX (dO l.head?):=by
 cases l with
 | nil=>rfl
 | cons j r =>
  have c:(0:Int) < (r.length:Int)+1+1:=by lia
  simp[ah,c]
noncomputable def xv (pg:Pg) (asked:List Int) (e:Nat):D:=.lst (each (λi=>(itr pg asked i).enc) e)
theorem nN (pg:Pg) (asked:List Int) (e:Nat):due pg asked e=xv pg asked e:=by unfold due xv each;rw[SI];rfl
section
theorem tnx (s:Sl) (h:HH) (k:Sl->HH->Option Fl):lE (XX (.nx s h)) k=k s h:=Eq.trans rfl rfl
theorem Ft (l:List Nat):cL .ne (.lst (ah l)) (.lst (ah l))=XX X0:=by rw[jT,if_pos (gf (by simp[lW,nJ])),kC];rfl
end
section
noncomputable def jL:Rw:=.set .a (.two .add (.nam .a) (.num 1))
noncomputable def kJ (p:Nat):List Rw:=[.call p,.back,jL,.unless (.two .less (.num 3) (.nam .a)) p,jL]
theorem Fv (hp:p<=n):∀ r∈kJ p,r.ok n:=by
 intro r hr;simp only[kJ,SX,SA,or_false] at hr;rcases hr with rfl|rfl|rfl|rfl|rfl
 exact hp
 ·trivial
 exact ⟨⟨trivial,⟨by decide,by decide⟩⟩,by decide⟩;exact ⟨⟨⟨⟨by decide,by decide⟩,trivial⟩,by decide⟩,hp⟩;exact ⟨⟨trivial,⟨by decide,by decide⟩⟩,by decide⟩
end
noncomputable def tG:S:=(.seq (.set 5 (.call "_law_drawn" (Z7 (.var 0) (.bin .add (.bin .add (.var 1) (.cst (.int 1))) (.bin .mul (.cst (.int 3)) (.var 4))) (.cst (.int 5))))) (.seq (.set 6 (.call "_law_drawn" (Z7 (.var 0) (.bin .add (.bin .add (.var 1) (.cst (.int 2))) (.bin .mul (.cst (.int 3)) (.var 4))) (.bin .add (.var 2) (.cst (.int 1)))))) (.seq (.set 7 (.tup (Z7 (.cst (.str "set")) (.cst (.str "a")) (.tup (Z7 (.cst (.str "add")) (.tup (Z8 (.cst (.str "name")) (.cst (.str "a")))) (.tup (Z8 (.cst (.str "num")) (.cst (.int 1))))))))) (.seq (.set 8 (.tup (Z7 (.cst (.str "less")) (.tup (Z8 (.cst (.str "num")) (.cst (.int 3)))) (.tup (Z8 (.cst (.str "name")) (.cst (.str "a"))))))) (.ex (.me .append (.var 3) (Z9 (.idx (.lst X0 (Z5 (.tup (Z8 (.cst (.str "call")) (.var 6))) (.tup (Z9 (.cst (.str "back")))) (.var 7) (.tup (Z7 (.cst (.str "unless")) (.var 8) (.var 6))) (.var 7))) (.var 5)))))))))
noncomputable def bT:Fn:=⟨["_law_script","_law_at"],["_law_script","_law_at","_law_size","_law_rows","_law_k","_law_way","_law_place","_law_step_here","_law_test"], (.seq (.set 2 (.bin .add (.cst (.int 3)) (.call "_law_drawn" (Z7 (.var 0) (.var 1) (.cst (.int 4)))))) (.seq (.set 3 (.lst XZ .nil)) (.seq (.for [(4,"_law_k")] .rng1 (Z9 (.var 2)) tG) (.ret (.idx (.lst X0 (Z8 (.bi .tuple X0 (Z9 (.var 3))) (.call "_law_program" (Z8 (.var 0) (.cst (.int 20)))))) (.call "_law_drawn" (Z7 (.var 0) (.bin .add (.var 1) (.cst (.int 60))) (.cst (.int 2)))))))))⟩
section
variable {T:FK->Option Fn}{G:ZZ->Option W}
theorem tH (L:Lw T) (ns:List Int) (hl:ns.length<=1000) (p:Int) (S:Nat):∀ (q lo:Nat),∃ new:Pg,(∀ r∈new,Rw.ok S r)/\new.length=q/\∀ (k:Nat) (h:HH) (xv:Pg) (x4 x5 x6 x7 x8:Option W),xv.length+q<=100 →
 ∃ y4 y5 y6 y7 y8,aR (evS (runN T G (k+7)) G tG) [(4,"_law_k")] (upto (lo:Int) q) [XX (.p (.lst (af ns))),XX (.p (.int p)),XX (.p (.int (S:Int))),XX (.r h.length),x4,x5,x6,x7,x8] (h++[.l (xv.map Rw.enc)]) =
  XX (.nx [XX (.p (.lst (af ns))),XX (.p (.int p)),XX (.p (.int (S:Int))),XX (.r h.length),y4,y5,y6,y7,y8] (h++[.l ((xv++new).map Rw.enc)]))
 | 0,lo=>⟨[],λr hr=>absurd hr (by simp),rfl,λk h xv x4 x5 x6 x7 x8 _=>⟨x4,x5,x6,x7,x8,by rw[R8];rfl⟩⟩
 | q+1,lo=>by
  obtain ⟨z,hz,dz⟩:=gF (G:=G) L ns hl (p+1+3*(lo:Int)) 5 (by decide);obtain ⟨pl,hpl,dp⟩:=gF (G:=G) L ns hl (p+2+3*(lo:Int)) ((S:Int)+1) (by lia);have hp:pl<=S:=by lia
  obtain ⟨rw0,hr0,hr1⟩:∃ rw0,rw0∈kJ pl/\az (.lst ((kJ pl).map Rw.enc)) (.int (z:Int))=XX rw0.enc:=by
   have:z=0\/z=1\/z=2\/z=3\/z=4:=by lia
   rcases this with rfl|rfl|rfl|rfl|rfl
   exact ⟨.call pl,by simp[kJ],rfl⟩;exact ⟨.back,by simp[kJ],rfl⟩;exact ⟨jL,by simp[kJ],rfl⟩;exact ⟨.unless (.two .less (.num 3) (.nam .a)) pl,by simp[kJ],rfl⟩;exact ⟨jL,by simp[kJ],rfl⟩
  obtain ⟨new,ok,len,go⟩:=tH L ns hl p S q (lo+1);refine ⟨rw0::new,λr hr=>?_,by simp[len],λk h xv x4 x5 x6 x7 x8 hl2=>?_⟩
  ·rcases List.mem_cons.mp hr with e|e
   subst e;exact Fv hp r hr0;exact ok r e
  obtain ⟨y4,y5,y6,y7,y8,b⟩:=go k h (xv++[rw0]) (XX (.p (.int (lo:Int)))) (XX (.p (.int (z:Int)))) (XX (.p (.int (pl:Int)))) (XX (.p jL.enc)) (XX (.p (Sm.two .less (.num 3) (.nam .a)).enc)) (by simp;lia);rw[SW] at b;refine ⟨y4,y5,y6,y7,y8,?_⟩;have dz':=λh=>dz (k+5) h;have dp':=λh=>dp (k+5) h;have bg:(big 3=XZ\/big (lo:Int)=XZ):=.inl (by decide);have l0:lat (h++[Cl.l (xv.map Rw.enc)]) h.length=XX (xv.map Rw.enc):=by simp[lat]
  have l1:xv.length < 100000:=by lia
  have ls:(h++[Cl.l (xv.map Rw.enc)]).set h.length (Cl.l (xv.map Rw.enc++[rw0.enc]))=h++[Cl.l ((xv++[rw0]).map Rw.enc)]:=by simp
  have hr2:az (.lst [.tup [.str "call",.int (pl:Int)],.tup [.str "back"],.tup [.str "set",.str "a",.tup [.str "add",.tup [.str "name",.str "a"],.tup [.str "num",.int 1]]],.tup [.str "unless",.tup [.str "less",.tup [.str "num",.int 3],.tup [.str "name",.str "a"]],.int (pl:Int)],.tup [.str "set",.str "a",.tup [.str "add",.tup [.str "name",.str "a"],.tup [.str "num",.int 1]]]]) (.int (z:Int))=XX rw0.enc:=hr1;have bd:evS (runN T G (k+7)) G tG [XX (.p (.lst (af ns))),XX (.p (.int p)),XX (.p (.int (S:Int))),XX (.r h.length),XX (.p (.int (lo:Int))),x5,x6,x7,x8] (h++[.l (xv.map Rw.enc)]) =
   XX (.nx [XX (.p (.lst (af ns))),XX (.p (.int p)),XX (.p (.int (S:Int))),XX (.r h.length),XX (.p (.int (lo:Int))),XX (.p (.int (z:Int))),XX (.p (.int (pl:Int))),XX (.p jL.enc),XX (.p (Sm.two .less (.num 3) (.nam .a)).enc)] (h++[.l ((xv++[rw0]).map Rw.enc)])):=by
   rw[← ls];simp[-aJ,-UD,tG,bg,dz',dp',hr2,l0,l1,jL,Rw.enc,Sm.enc,Nm.w,Op.w]
  have e1:((lo:Int)+1)=((lo+1:Nat):Int):=by lia
  rw[cV,e1];have st:∀ (d:D) (l:List D),aR (evS (runN T G (k+7)) G tG) [(4,"_law_k")] (d::l) [XX (.p (.lst (af ns))),XX (.p (.int p)),XX (.p (.int (S:Int))),XX (.r h.length),x4,x5,x6,x7,x8] (h++[.l (xv.map Rw.enc)]) =
   fk (evS (runN T G (k+7)) G tG [XX (.p (.lst (af ns))),XX (.p (.int p)),XX (.p (.int (S:Int))),XX (.r h.length),XX (.p d),x5,x6,x7,x8] (h++[.l (xv.map Rw.enc)])) (aR (evS (runN T G (k+7)) G tG) [(4,"_law_k")] l):=λd l=>rfl
  rw[st,bd,aX];exact b
theorem qK (L:Lw T) (hP:T "_law_program"=XX aW) (hC:T "_law_calling"=XX bT) (ns:List Int) (hl:ns.length<=1000) (p:Int) :
 ∃ pg:Pg,Pg.ok pg/\pg.length<=1000/\∀ (m:Nat) (h:HH),runN T G (m+8) "_law_calling" [.p (.lst (af ns)),.p (.int p)] h=XX (.p (bw pg),h):=by
 obtain ⟨z,hz,dz⟩:=gF (G:=G) L ns hl p 4 (by decide);obtain ⟨y,hy,dy⟩:=gF (G:=G) L ns hl (p+60) 2 (by decide);obtain ⟨p2,d2,r2⟩:=qA (G:=G) L hP ns hl 20;obtain ⟨xv,ok,len,go⟩:=tH (G:=G) L ns hl p (3+z) (3+z) 0;have ok1:Pg.ok xv:=λr hr=>by rw[len];exact ok r hr
 refine ⟨if y=0 then xv else p2,by split;exact ok1;exact d2.ok,by have:=d2.hi;split<;>lia,λm h=>?_⟩;obtain ⟨y4,y5,y6,y7,y8,b⟩:=go m h [] XY XY XY XY XY (by simp;lia);rw[run_eq hC rfl,bT];have dz':=λh=>dz (m+5) h;have dy':=λh=>dy (m+5) h;have e1:(3:Int)+(z:Int)=((3+z:Nat):Int):=by lia
 have rg:c9 .rng1 [.int ((3+z:Nat):Int)]=XX (upto 0 (3+z)):=by
  rw[bB];have c:((-100000<=(((3+z:Nat):Int)):Bool)&&(((3+z:Nat):Int)<=100000:Bool))=XZ:=by simp only[Rn,decide_eq_true_eq];lia
  rw[if_pos c];rfl
 have l0:lat (h++[Cl.l (xv.map Rw.enc)]) h.length=XX (xv.map Rw.enc):=by simp[lat]
 have f0:=λd=>fz h [Cl.l (xv.map Rw.enc)] d;have ix:az (.lst [.tup (xv.map Rw.enc),bw p2]) (.int (y:Int))=XX (bw (if y=0 then xv else p2)):=by
  have:y=0\/y=1:=by lia
  rcases this with rfl|rfl
  rfl;rfl
 have b':aR (evS (runN T G (m+7)) G tG) [(4,"_law_k")] (upto 0 (3+z)) [XX (.p (.lst (af ns))),XX (.p (.int p)),XX (.p (.int ((3+z:Nat):Int))),XX (.r h.length),XY,XY,XY,XY,XY] (h++[.l []])=XX (.nx [XX (.p (.lst (af ns))),XX (.p (.int p)),XX (.p (.int ((3+z:Nat):Int))),XX (.r h.length),y4,y5,y6,y7,y8] (h++[.l (xv.map Rw.enc)])):=b;generalize hS:((3+z:Nat):Int)=S at e1 rg b';have r2':=λh=>r2 m h;simp[-aJ,-bB,-aR,dz',e1,rg,eU,b',rd,l0,r2',dy',ix,f0]
end
noncomputable def gk:Fn:=⟨["_law_way","_law_tape","_law_moment"],["_law_way","_law_tape","_law_moment","_law_e"], (.seq (.ife (.cmp .eq (.var 0) (.cst (.int 0))) (.ret (.call "depth" (Z8 (.var 1) (.var 2)))) .nil) (.seq (.ife (.cmp .eq (.var 0) (.cst (.int 1))) (.ret (.call "over" (Z8 (.var 1) (.var 2)))) .nil) (.seq (.ife (.cmp .eq (.var 0) (.cst (.int 2))) (.ret (.call "out" (Z8 (.var 1) (.var 2)))) .nil) (.seq (.ife (.cmp .eq (.var 0) (.cst (.int 3))) (.ret (.call "back_over" (Z8 (.var 1) (.var 2)))) .nil) (.ret (.ite (.cmp .eq (.var 0) (.cst (.int 4))) (.call "back_out" (Z8 (.var 1) (.var 2))) (.call "open_calls" (Z8 (.var 1) (.var 2)))))))))⟩
noncomputable def JL:E:=(.comp X0 .seq (Z9 (.var 4)) ["_law_state"] [] .nil (.bi .len X0 (Z9 (.idx (.var 0) (.cst (.int 3))))))
noncomputable def MM:E:=(.comp X0 .seq (Z9 (.var 9)) ["_law_at"] [(7,"_law_deep"),(8,"_law_here")] (Z9 (.cmp .le (.idx (.var 1) (.var 0)) (.var 2))) (.var 0))
noncomputable def MN:E:=(.comp X0 .seq (Z9 (.var 9)) ["_law_at"] [(7,"_law_deep"),(8,"_law_here")] (Z9 (.cmp .lt (.idx (.var 1) (.var 0)) (.var 2))) (.var 0))
noncomputable def MO:E:=(.comp X0 .rng1 (Z9 (.var 6)) ["_law_at"] [(7,"_law_deep"),(8,"_law_here")] (Z9 (.cmp .le (.idx (.var 1) (.var 0)) (.var 2))) (.var 0))
noncomputable def MP:E:=(.comp X0 .rng1 (Z9 (.var 6)) ["_law_at"] [(7,"_law_deep"),(8,"_law_here")] (Z9 (.cmp .lt (.idx (.var 1) (.var 0)) (.var 2))) (.var 0))
noncomputable def JM:E:=(.comp X0 .rng2 (Z8 (.bin .add (.var 12) (.cst (.int 1))) (.bi .len X0 (Z9 (.var 4)))) ["_law_to"] [(7,"_law_deep"),(12,"_law_at")] (Z9 (.cmp .le (.idx (.var 1) (.var 0)) (.idx (.var 1) (.var 2)))) (.var 0))
noncomputable def JN:E:=(.comp X0 .seq (Z9 (.var 11)) ["_law_at","_law_to"] [(6,"_law_moment")] (Z9 (.and (.cmp .lt (.var 0) (.var 2)) (.or (.cmp .isN (.var 1) (.cst .non)) (.cmp .gt (.var 1) (.var 2))))) (.var 0))
noncomputable def uZ:S:=(.ife (.cmp .ne (.call "_law_told" (Z7 (.var 13) (.var 5) (.var 14))) (.tup (Z8 (.cst (.str "refused")) (.cst (.int 0))))) (.ret (.cst (.bl X0))) .nil)
noncomputable def u0:S:=(.ife (.cmp .gt (.idx (.var 7) (.bin .add (.var 12) (.cst (.int 1)))) (.idx (.var 7) (.var 12))) (.ex (.me .append (.var 11) (Z9 (.tup (Z8 (.var 12) (.idx (.bin .add JM (.lst X0 (Z9 (.cst .non)))) (.cst (.int 0)))))))) .nil)
noncomputable def nO:S:=(.seq (.ife (.cmp .ne (.call "_law_told" (Z7 (.var 13) (.var 5) (.var 6))) (.idx (.var 10) (.var 13))) (.ret (.cst (.bl X0))) .nil) (.for [(14,"_law_bad")] .seq (Z9 (.tup (Z7 (.neg (.cst (.int 1))) (.bi .len X0 (Z9 (.var 4))) (.bin .add (.var 3) (.cst (.int 1)))))) uZ))
noncomputable def MQ:S:=(.seq (.for [(13,"_law_way")] .rng1 (Z9 (.cst (.int 6))) nO) (.ret (.cmp .eq (.call "calls" (Z9 (.var 5))) (.var 11))))
noncomputable def MR:S:=(.seq (.ex (.me .append (.var 10) (Z9 JN))) MQ)
noncomputable def JO:S:=(.seq (.for [(12,"_law_at")] .rng1 (Z9 (.bin .sub (.bi .len X0 (Z9 (.var 4))) (.cst (.int 1)))) u0) MR)
noncomputable def Fw:S:=(.seq (.set 7 JL) (.seq (.set 8 (.idx (.var 7) (.var 6))) (.seq (.set 9 (.lsr X0 .rng2 (Z8 (.bin .add (.var 6) (.cst (.int 1))) (.bi .len X0 (Z9 (.var 4)))))) (.seq (.set 10 (.lst XZ (Z8 (.var 8) (.idx (.bin .add MM (.lst X0 (Z9 (.bin .sub (.bi .len X0 (Z9 (.var 4))) (.cst (.int 1)))))) (.cst (.int 0)))))) (.seq (.set 10 (.cat (.var 10) (.lst X0 (Z9 (.idx (.bin .add MN (.lst X0 (Z9 (.bin .sub (.bi .len X0 (Z9 (.var 4))) (.cst (.int 1)))))) (.cst (.int 0))))))) (.seq (.set 10 (.cat (.var 10) (.lst X0 (Z9 (.idx (.bin .add (.lst X0 (Z9 (.cst (.int 0)))) MO) (.neg (.cst (.int 1)))))))) (.seq (.set 10 (.cat (.var 10) (.lst X0 (Z9 (.idx (.bin .add (.lst X0 (Z9 (.cst (.int 0)))) MP) (.neg (.cst (.int 1)))))))) (.seq (.set 11 (.lst XZ .nil)) JO))))))))
noncomputable def fF:Fn:=⟨["_law_script"],["_law_script","_law_program_here","_law_asked_here","_law_most","_law_row_here","_law_tape","_law_moment","_law_deep","_law_here","_law_later","_law_due","_law_every","_law_at","_law_way","_law_bad"], (.seq (.set 1 (.call "_law_calling" (Z8 (.var 0) (.cst (.int 600))))) (.seq (.set 2 (.call "_law_asked" (Z8 (.var 0) (.cst (.int 450))))) (.seq (.set 3 (.call "_law_drawn" (Z7 (.var 0) (.cst (.int 440)) (.cst (.int 17))))) (.seq (.set 4 (.call "_law_states" (Z7 (.var 1) (.var 2) (.var 3)))) (.seq (.set 5 (.make "Tape" (Z6 (.var 1) (.var 2) (.cst (.int 2)) (.var 3)))) (.seq (.set 6 (.call "_law_drawn" (Z7 (.var 0) (.cst (.int 443)) (.bi .len X0 (Z9 (.var 4)))))) Fw))))))⟩
theorem qL (n:Nat):∀ a:Nat,upto (a:Int) n=ah (Sy a n):=by
 induction n with
 | zero=>intro a;rfl
 | succ n ih =>
  intro a;have e:((a:Int)+1)=((a+1:Nat):Int):=by lia
  rw[cV,e,ih,Wf];rfl
theorem qM (g:Nat->Bool) (h:m<=e):(Sy (m+1) (e - m)).filter g=frm g (m+1) e:=by
 have e1:RK (e+1)=Sy 0 (m+1)++Sy (m+1) (e - m):=by rw[Xj,show e+1=(m+1)+(e - m) by lia,← List.range'_append_1,Wd]
 unfold frm mom;rw[e1,TY,TY];have n1:((Sy 0 (m+1)).filter g).filter (λi=>decide (m+1<=i))=[]:=List.filter_eq_nil_iff.mpr λi hi=>by have:=List.mem_range'_1.mp (List.mem_filter.mp hi).1;simp;lia
 have n2:((Sy (m+1) (e - m)).filter g).filter (λi=>decide (m+1<=i))=(Sy (m+1) (e - m)).filter g:=List.filter_eq_self.mpr λi hi=>by have:=List.mem_range'_1.mp (List.mem_filter.mp hi).1;simp;lia
 rw[n1,n2,TL]
theorem wV (N:NX g m e j):az (.lst (ah (frm g (m+1) e)++[.int (e:Int)])) (.int 0)=XX (.int (j:Int)):=by
 have F:=uY g (m+1) e;have n1:=N.le;have n2:=N.le2;cases l:frm g (m+1) e with
 | nil =>
  rw[l] at F;have je:j=e:=by
   rcases RP j e with z|z
   ·have:=F.no rfl j (by have:=N.lt (by lia);lia) n2;rw[N.yes (by lia)] at this;cases this
   lia
  rw[je];rfl
 | cons x r =>
  rw[l] at F;obtain ⟨h1,h2,h3,h4⟩:=F.yes x rfl;have jx:j=x:=by
   rcases TQ j x with z|z|z
   ·have:=h4 j (by have:=N.lt (by lia);lia) z;rw[N.yes (by lia)] at this;cases this
   exact z;rw[N.gap x (by lia) z] at h3;cases h3
  have c:(0:Int) < (r.length:Int)+1+1:=by lia
  simp[ah,jx,c]
theorem wW (B:BX g m j):az (.lst (.int 0::ah ((RK m).filter g))) (.int (-1))=XX (.int (j:Int)):=by
 have key:∀ (xs:List D) (a:D),az (.lst (xs++[a])) (.int (-1))=XX a:=λxs a=>by
  have e2:-((xs.length:Int)+1)<=-1:=by lia
  have e3:(-1+((xs.length:Int)+1)).toNat=xs.length:=by lia
  simp[e2,e3]
 have b1:=B.le;rcases List.eq_nil_or_concat ((RK m).filter g) with l|⟨r,i,l⟩
 ·have j0:j=0:=by
   rcases Nat.eq_zero_or_pos j with z|z
   exact z
   ·have hj:j∈(RK m).filter g:=List.mem_filter.mpr ⟨List.mem_range.mpr (B.lt (by lia)),B.yes (by lia)⟩;rw[l] at hj;cases hj
  rw[l,j0];exact key [] (.int 0)
 ·rw[List.concat_eq_append] at l;have mi:i∈(RK m).filter g:=by rw[l];simp
  obtain ⟨m1,m2⟩:=List.mem_filter.mp mi;have m1:=List.mem_range.mp m1;have pw:((RK m).filter g).Pairwise (· < ·):=List.pairwise_lt_range.filter _;rw[l] at pw;have ij:i=j:=by
   rcases TQ i j with z|z|z
   ·have hj:j∈(RK m).filter g:=List.mem_filter.mpr ⟨List.mem_range.mpr (B.lt (by lia)),B.yes (by lia)⟩;rw[l,List.mem_append] at hj;rcases hj with hj|hj
    have:=(List.pairwise_append.mp pw).2.2 j hj i (by simp);lia;simp at hj;lia
   exact z;rw[B.gap i z m1] at m2;cases m2
  have e1:D.int 0::ah (r++[i])=(D.int 0::ah r)++[.int (i:Int)]:=by simp[ah]
  rw[l,e1,key,ij]
theorem GJ (g:Nat->Bool) (h:m<=e):∃ j,NX g m e j:=by
 have F:=uY g (m+1) e;cases l:(frm g (m+1) e).head? with
 | none=>rw[l] at F;exact ⟨e,h,Rq _,id,λz=>absurd rfl z,λi h1 h2=>F.no rfl i h1 (by lia)⟩
 | some j =>
  rw[l] at F;obtain ⟨h1,h2,h3,h4⟩:=F.yes j rfl;exact ⟨j,by lia,h2,λ_=>h1,λ_=>h3,λi k1 k2=>h4 i k1 k2⟩
theorem GK (g:Nat->Bool) (m:Nat):∃ j,BX g m j:=by
 cases m with
 | zero=>exact ⟨0,Rq _,id,λz=>absurd rfl z,λi h1 h2=>by lia⟩
 | succ m =>
  have F:=Cr g m;cases l:(mom g m).getLast? with
  | none=>rw[l] at F;exact ⟨0,SC _,id,λz=>absurd rfl z,λi h1 h2=>F.no rfl i (by lia) (by lia)⟩
  | some j =>
   rw[l] at F;obtain ⟨h1,h2,h3,h4⟩:=F.yes j rfl;exact ⟨j,by lia,λ_=>by lia,λ_=>h3,λi k1 k2=>h4 i k1 (by lia)⟩
theorem Cs:∀ {a b:List Nat},a.Pairwise (· < ·)->b.Pairwise (· < ·)->(∀ x,x∈a↔x∈b)->a=b
 | [],[],_,_,_=>rfl| [],y::b,_,_,h=>absurd ((h y).mpr RL) (by simp)| x::a,[],_,_,h=>absurd ((h x).mp RL) (by simp)
 | x::a,y::b,pa,pb,h=>by
  obtain ⟨a1,a2⟩:=List.pairwise_cons.mp pa;obtain ⟨b1,b2⟩:=List.pairwise_cons.mp pb;have xy:x=y:=by
   rcases List.mem_cons.mp ((h x).mp RL) with z|z
   exact z
   ·rcases List.mem_cons.mp ((h y).mpr RL) with w|w
    exact w.symm;have:=b1 x z;have:=a1 y w;lia
  subst xy;rw[Cs a2 b2 λz=>?_];constructor<;>intro hz
  ·rcases List.mem_cons.mp ((h z).mp (RJ _ hz)) with w|w
   have:=a1 z hz;lia;exact w
  ·rcases List.mem_cons.mp ((h z).mpr (RJ _ hz)) with w|w
   have:=b1 z hz;lia;exact w
noncomputable def up (t:Tp) (i:Nat):Bool:=decide (dep t i < dep t (i+1))
noncomputable def gl (t:Tp) (s i:Nat):Bool:=decide ((dep t i:Int)<=(dep t s:Int))
noncomputable def er (t:Tp) (e q:Nat):List (Nat×Option Nat):=((RK q).filter (up t)).map λs=>(s,(frm (gl t s) (s+1) e).head?)
theorem qN (t:Tp):∀ m,(en t m).map (·.1)=(RK m).filter (up t)
 | 0=>rfl
 | m+1=>by
  rw[UR,TY,← qN t m,Ui]
  by_cases c:dep t m < dep t (m+1)
  rw[(sY c).2,Tg,if_pos (by unfold up;simpa using c)];rfl
  ·rw[if_neg (by unfold up;simpa using c)];rcases RP (dep t (m+1)) (dep t m) with z|z
   ·rw[(kG z).2,SI];show _=_++[];rw[R8];apply SV;intro p _;simp only[Function.comp];split<;>rfl
   rw[(kH (by lia)).2];show _=_++[];rw[R8]
theorem Ct {t:Tp}{e:Nat} (R:Run t.p t.asked t.most e) {p:Nat×Option Nat} (h:p∈en t e):FF (gl t p.1) (p.1+1) e p.2:=by
 have E:=qH R e (Rq _);obtain ⟨s,o⟩:=p;cases o with
 | none =>
  refine ⟨(λj h=>nomatch h),λ_ i h1 h2=>?_⟩;obtain ⟨k,hk⟩:=List.mem_iff_getElem?.mp (E.non s h);have O:=pI R (Rq _) hk;have:=O.up i h1 h2;have:=O.at_;unfold gl;simp;lia
 | some b =>
  obtain ⟨h1,h2,h3,_,h5⟩:=E.som s b h;refine ⟨λj hj=>?_,λh=>nomatch h⟩;cases hj;refine ⟨h1,h2,by unfold gl;simp;lia,λi k1 k2=>?_⟩;have:=h5 i k1 k2;unfold gl;simp;lia
theorem MS (R:Run t.p t.asked t.most e):en t e=er t e e:=by
 unfold er;rw[← qN,SI];have:∀ p∈en t e,((λs=>(s,(frm (gl t s) (s+1) e).head?)) ∘ λx=>x.1) p=p:=λp hp=>by have:=JK (Ct R hp) (uY (gl t p.1) (p.1+1) e);simp only[Function.comp];rw[← this]
 rw[SV this,List.map_id''];intro x;rfl
theorem Cu {t:Tp}{e m:Nat} (R:Run t.p t.asked t.most e) (hm:m<=e) (w:Nat):w∈wt t m↔Oc t m (dep t w) w:=by
 constructor
 ·intro h;obtain ⟨k,hk⟩:=List.mem_iff_getElem?.mp h;have O:=pI R hm hk;rw[← O.at_] at O;exact O
 ·intro O;have l:=(gj R m hm).len;have lt:dep t w < (wt t m).length:=by rw[l];exact O.up m O.lt (Rq _)
  have g:=Ru lt;rw[Oc.one O (pI R hm g)];exact UI lt
theorem GL {t:Tp}{e:Nat} (R:Run t.p t.asked t.most e):∀ m,m<=e->(wt t m).Pairwise (· < ·)
 | 0,_=>.nil
 | m+1,h=>by
  have ih:=GL R m (by lia)
  by_cases c:dep t m < dep t (m+1)
  ·rw[(sY c).1];refine List.pairwise_append.mpr ⟨ih,by simp,λa ha b hb=>?_⟩;simp at hb;rw[hb];exact ((Cu R (by lia) a).mp ha).lt
  ·rcases RP (dep t (m+1)) (dep t m) with z|z
   rw[(kG z).1];exact ih.sublist (List.dropLast_sublist _);rw[(kH (by lia)).1];exact ih
noncomputable def opn (m:Nat) (p:Nat×Option Nat):Bool:=decide (p.1 < m)&&(match p.2 with
 | none=>XZ
 | some b=>decide (m < b))
theorem MT {t:Tp}{e m:Nat} (R:Run t.p t.asked t.most e) (hm:m<=e):((en t e).filter (opn m)).map (·.1)=wt t m:=by
 refine Cs ?_ (GL R m hm) λw=>?_;exact List.pairwise_map.mpr ((qH R e (Rq _)).rise.filter _)
 ·rw[Cu R hm,List.mem_map];constructor
  ·rintro ⟨p,hp,rfl⟩
   obtain ⟨h1,h2⟩:=List.mem_filter.mp hp;have F:=Ct R h1;unfold opn at h2;rw[Rn,decide_eq_true_eq] at h2;refine ⟨h2.1,rfl,λj k1 k2=>?_⟩;have:gl t p.1 j=X0:=by
    obtain ⟨s,o⟩:=p;cases o with
    | none=>exact F.no rfl j k1 (by lia)| some b=>exact (F.yes b rfl).2.2.2 j k1 (by have:=of_decide_eq_true h2.2;lia)
   unfold gl at this;simp at this;lia
  ·intro O;have l:=O.lt;have u:up t w=XZ:=by unfold up;simpa using O.up (w+1) (by lia) (by lia)
   have wm:w∈(en t e).map (·.1):=by rw[qN];exact List.mem_filter.mpr ⟨List.mem_range.mpr (by lia),u⟩
   obtain ⟨p,hp,rfl⟩:=List.mem_map.mp wm;refine ⟨p,List.mem_filter.mpr ⟨hp,?_⟩,rfl⟩;have F:=Ct R hp;obtain ⟨s,o⟩:=p;unfold opn;cases o with
   | none=>simpa using l
   | some b =>
    obtain ⟨h1,h2,h3,_⟩:=F.yes b rfl;have:m < b:=by
     rcases RP m b with z|z
     exact z
     ·have:=O.up b h1 z;unfold gl at h3;simp at h3;lia
    simp[l,this]
section
structure qO (T TX:FK->Option Fn) (G:ZZ->Option W):Prop where
 lw:Lw T
 program:T "_law_program"=XX aW
 calling:T "_law_calling"=XX bT
 own:LwS T
 e:TpE T
 l:TpL T
 r:TpR T
 wk:WkP T G
 wq:WkQ T
 ca:CaP T G
 x:TpX TX
 y:WkX TX
noncomputable def iA (T TX:FK->Option Fn) (G:ZZ->Option W) (k:Nat):List W->HH->Option (W×HH):=BS.ku (runN T G k) (dh T TX G k) (dk T) G gk b7
structure W3 (h:HH) (r:Nat) (t:Tp) (e gv:Nat) (t0:Tp) (du ev:List D):Prop where
 a:TAt h 0 r t
 i:TI t e gv
 s:Sm8 t0 t
 d:lat h 5=XX du
 v:lat h 6=XX ev
 r:r=1\/7<=r
 l:7<=h.length
theorem W3.fr {r:Nat}{e gv:Nat}{ev:List D} (A:W3 h r t e gv t0 du ev) {r':Nat} (a:TAt h' 0 r' t') (I:TI t' e gv) (s:Sm8 t t') (f:Fr 7 0 r h r' h') (l:h.length<=h'.length):W3 h' r' t' e gv t0 du ev:=by have ar:=A.r;have al:=A.l;exact ⟨a,I,A.s.trans s,(f.lat A.d (by lia) (by lia) (by lia)).1,(f.lat A.v (by lia) (by lia) (by lia)).1,by rcases f.len with z|z<;>lia,by lia⟩
theorem W3.go {r:Nat}{e gv:Nat}{ev:List D} (A:W3 h r t e gv t0 du ev) {r':Nat} (g:Go 0 h r t h' r' t') (I:TI t' e gv) (s:Sm8 t t'):W3 h' r' t' e gv t0 du ev:=A.fr g.b I s (g.wR A.l) g.le
inductive X3 {α:Type} (x:Option α) (y:HH->α) (e gv:Nat) (t0:Tp) (du ev:List D):Prop where
 | mk (h':HH) (r':Nat) (t':Tp) (q:x=XX (y h')) (w:W3 h' r' t' e gv t0 du ev):X3 x y e gv t0 du ev
structure Du (t:Tp) (m e:Nat) (d:Nat->D):Prop where
 d0:d 0=.int (dep t m:Int)
 d1:∃ j:Nat,d 1=.int (j:Int)/\NX (wi t (dep t m)) m e j
 d2:∃ j:Nat,d 2=.int (j:Int)/\NX (wi t ((dep t m:Int) - 1)) m e j
 d3:∃ j:Nat,d 3=.int (j:Int)/\BX (wi t (dep t m)) m j
 d4:∃ j:Nat,d 4=.int (j:Int)/\BX (wi t ((dep t m:Int) - 1)) m j
 d5:d 5=.lst (ah (wt t m))
theorem NX.one {g:Nat->Bool}{m e i j:Nat} (a:NX g m e i) (b:NX g m e j):i=j:=by have:=(wV a).symm.trans (wV b);simp at this;lia
theorem BX.one {g:Nat->Bool}{m i j:Nat} (a:BX g m i) (b:BX g m j):i=j:=by have:=(wW a).symm.trans (wW b);simp at this;lia
theorem JP (s:Sm8 t t'):dep t'=dep t:=by funext i;unfold dep;rw[s.p,s.asked]
noncomputable def n30:Nat->ZZ
 | 0=>"depth"| 1=>"over"| 2=>"out"| 3=>"back_over"| 4=>"back_out"| _=>"open_calls"
theorem JQ {D:ZZ->Bool} (hl:ws.length=fn.ps.length) (e:evS F G fn.body (aY fn.ns.length ws) h=XX (.rt u g)) (f:fin h u g=XX r):BS.ku F R D G fn fr ws h=XX r:=by unfold BS.ku;rw[if_pos hl,e,show jz (XX (Fl.rt u g)) (fin h)=fin h u g from rfl,f]
section
variable {F:FK->List W->HH->Option (W×HH)}{R:XF}{D:ZZ->Bool}{c e a b:E}{s x:S}{sl:Sl}{h g:HH}{q:ZZ×HH}
def Nay (F:FK->List W->HH->Option (W×HH)) (R:XF) (D:ZZ->Bool) (G:ZZ->Option W) (s:S) (sl:Sl) (h:HH) (q:ZZ×HH):Prop:=evS F G s sl h=XY/\rsS F R D G s sl h=XX q
theorem JR {fn fr:Fn}{ws:List W}{r:W×HH} (hl:ws.length=fn.ps.length) (n:Nay F R D G fn.body (aY fn.ns.length ws) h q) (hx:BS.fO q.1=XZ) (rf:BS.sF fr [.x q.1] q.2=XX r):BS.ku F R D G fn fr ws h=XX r:=by obtain ⟨c,g⟩:=q;unfold BS.ku;rw[if_pos hl,n.1,n.2];exact (if_pos hx).trans rf
theorem MU (h1:BT.ev F G c sl h=XX (.p (.bl XZ),h)):BT.ev F G (.ite c a b) sl h=BT.ev F G a sl h:=by simp[h1]
theorem MV (h1:BT.ev F G c sl h=XX (.p (.bl X0),h)):BT.ev F G (.ite c a b) sl h=BT.ev F G b sl h:=by simp[h1]
theorem MW (h1:BT.ev F G c sl h=XX (.p (.bl X0),h)) (n:Nay F R D G x sl h q):Nay F R D G (.seq (.ife c s .nil) x) sl h q:=⟨(dB h1).trans n.1,by
 rw[xs2,show evS F G (.ife c s .nil) sl h=XX (.nx sl h) by simp[h1]];exact n.2⟩
theorem JS (h1:BT.ev F G c sl h=XX (.p (.bl XZ),h)) (h2:BT.ev F G e sl h=XY) (h3:rsE F R D G e sl h=XX q):Nay F R D G (.seq (.ife c (.ret e) .nil) x) sl h q:=⟨by simp[h1,h2],by
 rw[xs2,show evS F G (.ife c (.ret e) .nil) sl h=XY by simp[h1,h2],xs3,h1];exact h3⟩
theorem P4 (h1:BT.ev F G c sl h=XX (.p (.bl XZ),h)) (h2:BT.ev F G a sl h=XY) (h3:rsE F R D G a sl h=XX q):Nay F R D G (.ret (.ite c a b)) sl h q:=⟨by simp[h1,h2],by
 rw[xs5,xe8,h1];exact h3⟩
theorem P5 (h1:BT.ev F G c sl h=XX (.p (.bl X0),h)) (h2:BT.ev F G b sl h=XY) (h3:rsE F R D G b sl h=XX q):Nay F R D G (.ret (.ite c a b)) sl h q:=⟨by simp[h1,h2],by
 rw[xs5,xe8,h1];exact h3⟩
end
theorem gG (hw:way < 6) (b:runN T G k (.f (n30 way)) [z,w] h=XX (u,g)) (f:fin h u g=XX r):iA T TX G k [.p (.int (way:Int)),z,w] h=XX r:=by
 have hh:way=0\/way=1\/way=2\/way=3\/way=4\/way=5:=by lia
 refine JQ (u:=u) (g:=g) rfl ?_ f;rcases hh with rfl|rfl|rfl|rfl|rfl|rfl<;>((repeat refine (dB rfl).trans ?_);first|exact gX rfl b|exact kX ((MU rfl).trans b)|exact kX ((MV rfl).trans b))
theorem tK (hw:way < 6) (c:runN T G k (.f (n30 way)) [z,w] h=XY) (b:dh T TX G k (.f (n30 way)) [z,w] h=XX (RG "NoMoment",g)):iA T TX G k [.p (.int (way:Int)),z,w] h=XX (.p (.tup [.str "refused",.int 0]),g):=by
 have hh:way=0\/way=1\/way=2\/way=3\/way=4\/way=5:=by lia
 refine JR (q:=(RG "NoMoment",g)) rfl ?_ (show BS.fO (RG "NoMoment")=XZ by decide) (yL g);rcases hh with rfl|rfl|rfl|rfl|rfl|rfl<;>((repeat refine MW rfl ?_);first|exact JS rfl c b|exact P4 rfl c b|exact P5 rfl c b)
theorem yM (P:TpP T G) (L:qO T TX G) (k:Nat) {r:Nat}{e gv:Nat}{ev:List D} (A:W3 h r t e gv t0 du ev) (m:Nat) (hm:m<=e) (U:Du t0 m e d) (way:Nat) (hw:way < 6) :
 X3 (iA T TX G (k+15) [.p (.int (way:Int)),.o 0,.p (.int (m:Int))] h) (λh=>(.p (d way),h)) e gv t0 du ev:=by
 have D1:=JP A.s;have W1:=pH A.s
 match way,hw with
 | 0,_ =>
  obtain ⟨h',r',t',b,g,I',s⟩:=dP P L.wk (k+3) A.a A.i m hm;rw[D1] at b;exact ⟨h',r',t',by rw[U.d0];exact gG (by decide) b (aZ g _),A.go g I' s⟩
 | 1,_ =>
  obtain ⟨j,h',r',t',b,N,g,I',s⟩:=Ca P L.e L.l L.wk L.wq (k+1) A.a A.i m hm;obtain ⟨i,q1,q2⟩:=U.d1;rw[W1,D1] at N;exact ⟨h',r',t',by rw[q1,q2.one N];exact gG (by decide) b (aZ g _),A.go g I' s⟩
 | 2,_ =>
  obtain ⟨j,h',r',t',b,N,g,I',s⟩:=Fe P L.e L.l L.wk L.wq (k+1) A.a A.i m hm;obtain ⟨i,q1,q2⟩:=U.d2;rw[W1,D1] at N;exact ⟨h',r',t',by rw[q1,q2.one N];exact gG (by decide) b (aZ g _),A.go g I' s⟩
 | 3,_ =>
  obtain ⟨j,h',r',t',b,N,g,I',s⟩:=oF P L.l L.wk L.wq (k+1) A.a A.i m hm;obtain ⟨i,q1,q2⟩:=U.d3;rw[W1,D1] at N;exact ⟨h',r',t',by rw[q1,q2.one N];exact gG (by decide) b (aZ g _),A.go g I' s⟩
 | 4,_ =>
  obtain ⟨j,h',r',t',b,N,g,I',s⟩:=kF P L.l L.wk L.wq (k+1) A.a A.i m hm;obtain ⟨i,q1,q2⟩:=U.d4;rw[W1,D1] at N;exact ⟨h',r',t',by rw[q1,q2.one N];exact gG (by decide) b (aZ g _),A.go g I' s⟩
 | 5,_ =>
  obtain ⟨h',r',t',b,a,I',s,f,l⟩:=lR P L.l L.wk L.wq L.ca k A.a A.i m hm;have al:=A.l;have B:=A.fr a I' s ⟨λi h1 h2 h3=>f.fr i h1 h2 (by lia),f.len.imp id λz=>by lia⟩ l;rw[(wQ A.s m).1,← U.d5] at b;have f2:∃ h2 r2 t2,fin h (.p (d 5)) h'=XX (.p (d 5),h2)/\W3 h2 r2 t2 e gv t0 du ev:=by
   unfold fin
   by_cases c:h'.length=h.length
   rw[if_pos c];exact ⟨h',r',t',rfl,B⟩
   ·rw[if_neg c]
    by_cases c2:h'.take h.length=h
    rw[if_pos c2];exact ⟨h,r,t,rfl,A⟩;rw[if_neg c2];exact ⟨h',r',t',rfl,B⟩
  obtain ⟨h2,r2,t2,f2,B2⟩:=f2;exact ⟨h2,r2,t2,gG (by decide) b f2,B2⟩
theorem yN (P:TpP T G) (L:qO T TX G) (k:Nat) {r:Nat}{e gv:Nat}{ev:List D} (A:W3 h r t e gv t0 du ev) (z:Int) (hz:NoM e z) (hb:big z=XZ) (way:Nat) (hw:way < 6) :
 X3 (iA T TX G (k+15) [.p (.int (way:Int)),.o 0,.p (.int z)] h) (λh=>(.p (.tup [.str "refused",.int 0]),h)) e gv t0 du ev:=by
 have key:runN T G (k+15) (.f (n30 way)) [.o 0,.p (.int z)] h=XY/\uW (dh T TX G (k+15) (.f (n30 way)) [.o 0,.p (.int z)] h) (RG "NoMoment") 0 h r t e gv->X3 (iA T TX G (k+15) [.p (.int (way:Int)),.o 0,.p (.int z)] h) (λh=>(.p (.tup [.str "refused",.int 0]),h)) e gv t0 du ev:=λ⟨c,q⟩=>by obtain ⟨h',r',t',b,g,I',s⟩:=q;exact ⟨h',r',t',tK hw c b,A.go g I' s⟩
 match way,hw with
 | 0,_=>exact key (nM P L.wk L.x L.y (k+3) A.a A.i z hz hb)| 1,_=>exact key (qJ P L.wk L.x L.y (k+2) A.a A.i z hz hb L.wq.over L.y.over (by rw[L.wk.next];rfl) (.inl rfl))| 2,_=>exact key (qJ P L.wk L.x L.y (k+2) A.a A.i z hz hb L.wq.out L.y.out (by rw[L.wk.next];rfl) (.inr rfl))| 3,_=>exact key (qJ P L.wk L.x L.y (k+2) A.a A.i z hz hb L.wq.back_over L.y.back_over (by rw[L.wk.last];rfl) (.inl rfl))| 4,_=>exact key (qJ P L.wk L.x L.y (k+2) A.a A.i z hz hb L.wq.back_out L.y.back_out (by rw[L.wk.last];rfl) (.inr rfl))
 | 5,_ =>
  obtain ⟨c,h',r',t',b,g,I',s⟩:=Fp P L.wk L.ca L.x L.y (k+2) A.a A.i z hz hb;have al:=A.l;have g':=g.le;rw[RI,Sv] at g';refine ⟨h',r',t',tK (way:=5) (by decide) c b,A.fr g.b I' s ⟨λi h1 h2 h3=>by rw[g.fr i h1 h2 (by rw[RI];lia),Rp (by lia)],?_⟩ (by lia)⟩;rcases g.len with ⟨_,z⟩|z
  exact .inl z;rw[RI] at z;exact .inr (by lia)
structure F30 (T TX:FK->Option Fn) (G:ZZ->Option W) (k:Nat) (F:FK->List W->HH->Option (W×HH)):Prop where
 me:∀ c m,F (.m c m)=runN T G (k+18) (.m c m)
 fn:∀ y:ZZ,¬ y="_law_told"->F (.f y)=runN T G (k+18) (.f y)
 told:F (.f "_law_told")=iA T TX G (k+17)
noncomputable def dps (t:Tp) (e:Nat):D:=.lst (each (iw t) e)
theorem nQ (t:Tp) (h:i<=e):az (dps t e) (.int (i:Int))=XX (.int (dep t i:Int)):=by rw[dps,aJ,cH,qF _ h];rfl
noncomputable def b8 (w0 w1 w2:W) (mo:Nat) (rw:D) (m:Nat) (de he:D) (la:D) (x10 x11 x12 x13 x14:Option W):Sl :=
 [XX w0,XX w1,XX w2,XX (.p (.int (mo:Int))),XX (.p rw),XX (.o 0),XX (.p (.int (m:Int))),XX (.p de),XX (.p he),XX (.p la),x10,x11,x12,x13,x14]
theorem nR (f:List D->HH->Option (Option D×HH)) (p:Nat->Bool) (h:HH) (l:List Nat) (hf:∀ i∈l,f [.int (i:Int)] h=XX (if p i=XZ then XX (.int (i:Int)) else XY,h)):bA f 1 (ah l) h=XX (ah (l.filter p),h):=by
 have e0:ah (l.filter p)=l.filterMap λk=>if p k=XZ then XX (D.int (k:Int)) else XY:=(Fc _ _ _).symm
 rw[e0];exact B7 f (λ(k:Nat)=>D.int (k:Int)) _ h l hf
theorem nT (h:l.length<=n):(ah l).length<=n:=by unfold ah;rw[RN];exact h
theorem Cv (cm:Cm) (t:Tp) (hi:i<=e) (b:D) (p:Bool) (hp:cL cm (.int (dep t i:Int)) b=XX p) (h:HH):d7 (evs F G (.cons (.cmp cm (.idx (.var 1) (.var 0)) (.var 2)) .nil)) (BT.ev F G (.var 0)) [XX (.p (dps t e)),XX (.p b)] [.int (i:Int)] h=XX (if p=XZ then XX (.int (i:Int)) else XY,h):=by have ix:=nQ t hi;generalize dps t e=DD at *;generalize D.int (dep t i:Int)=ii at *;cases p<;>simp[-aJ,d7,cN,ix,hp]
theorem MY (w0 w1 w2:W) (mo:Nat) {e:Nat} (rw:D) (hrw:biD .len [rw]=XX (.int ((e:Int)+1))) (he':e<=100) (m:Nat) (he la:D) (x10 x13 x14:Option W) (h:HH) (q:Nat) (hq:q < e) (hv:lat h 6=XX (itE (er t e q))) :
 evS F G u0 (b8 w0 w1 w2 mo rw m (dps t e) he la x10 (XX (.r 6)) (XX (.p (.int (q:Int)))) x13 x14) h=XX (.nx (b8 w0 w1 w2 mo rw m (dps t e) he la x10 (XX (.r 6)) (XX (.p (.int (q:Int)))) x13 x14) (if up t q=XZ then h.set 6 (.l (itE (er t e (q+1)))) else h)):=by
 have i1:=nQ t (show q+1<=e from hq);have i0:=nQ t (show q<=e by lia);have e1:((q:Int)+1)=((q+1:Nat):Int):=by lia
 rw[← e1] at i1;have co:BT.ev F G JM (b8 w0 w1 w2 mo rw m (dps t e) he la x10 (XX (.r 6)) (XX (.p (.int (q:Int)))) x13 x14) h=XX (.p (.lst (ah (frm (gl t q) (q+1) e))),h):=by
  have sr:c9 .rng2 [.int ((q:Int)+1),.int ((e:Int)+1)]=XX (ah (Sy (q+1) (e - q))):=by
   rw[cY,if_pos (by simp;lia),e1,← qL];have:((e:Int)+1 - ((q+1:Nat):Int)).toNat=e - q:=by lia
   rw[this]
  rw[JM,← qM _ (show q<=e by lia)];refine mw (ws:=[.p (.int ((q:Int)+1)),.p (.int ((e:Int)+1))]) (h1:=h) (fs:=[XX (.p (dps t e)),XX (.p (.int (q:Int)))]) (ds:=ah (Sy (q+1) (e - q))) (by simp[-gy,b8,hrw]) (by simpa [-cY] using sr) rfl rfl (nR _ _ _ _ λi hi=>?_) (nT (Sj (Tw _ _) (by rw[XS];lia)));have:=List.mem_range'_1.mp hi;have ii:=nQ t (show i<=e by lia);unfold gl;generalize dps t e=DD at *
  by_cases c:(dep t i:Int)<=(dep t q:Int)
  simp[-aJ,d7,cN,ii,i0,c];simp[-aJ,d7,cN,ii,i0,c]
 have hd:=Fq (frm (gl t q) (q+1) e);have fl:(ah (frm (gl t q) (q+1) e)).length+1<=100000:=by have:=wN (gl t q) e;have:=Tw (λi=>decide (q+1<=i)) (mom (gl t q) e);unfold ah;rw[RN];unfold frm;lia
 have el:(itE (er t e q)).length < 100000:=by have:=Tw (up t) (RK q);rw[Uy] at this;unfold itE er;rw[RN,RN];lia
 have es:itE (er t e (q+1))=if up t q=XZ then itE (er t e q)++[.tup [.int (q:Int),dO (frm (gl t q) (q+1) e).head?]] else itE (er t e q):=by unfold itE er;rw[UR,TY,Tg,Tg,Ui];split;rfl;show _++[]=_;rw[R8]
 rw[es];rw[u0];have g7:(b8 w0 w1 w2 mo rw m (dps t e) he la x10 (XX (.r 6)) (XX (.p (.int (q:Int)))) x13 x14)[7]?=XX (XX (.p (dps t e))):=rfl;have g12:(b8 w0 w1 w2 mo rw m (dps t e) he la x10 (XX (.r 6)) (XX (.p (.int (q:Int)))) x13 x14)[12]?=XX (XX (.p (.int (q:Int)))):=rfl;have g11:(b8 w0 w1 w2 mo rw m (dps t e) he la x10 (XX (.r 6)) (XX (.p (.int (q:Int)))) x13 x14)[11]?=XX (XX (.r 6)):=rfl;generalize b8 w0 w1 w2 mo rw m (dps t e) he la x10 (XX (.r 6)) (XX (.p (.int (q:Int)))) x13 x14=sl at *;have ad:gJ .add (.lst (ah (frm (gl t q) (q+1) e))) (.lst [.non])=XX (.lst (ah (frm (gl t q) (q+1) e)++[.non])):=by rw[aV,if_pos (by simpa using fl)]
 generalize ah (frm (gl t q) (q+1) e)=NN at *;generalize dO (frm (gl t q) (q+1) e).head?=OO at *;generalize itE (er t e q)=EE at *;unfold up;generalize dps t e=DD at *
 by_cases c:dep t q < dep t (q+1)
 ·have c1:(dep t q:Int) < (dep t (q+1):Int):=by lia
  simp[-aJ,-aV,-JF,g7,g12,g11,i1,i0,c,c1,co,ad,hd,hv,el]
 ·have c1:¬ (dep t q:Int) < (dep t (q+1):Int):=by lia
  simp[-aJ,-aV,g7,g12,i1,i0,c,c1]
theorem W3.P6 {r:Nat}{e gv:Nat}{ev:List D} (A:W3 h r t e gv t0 du ev) (ev':List D):W3 (h.set 6 (.l ev')) r t e gv t0 du ev':=by have ar:=A.r;exact ⟨⟨(gZ (by decide) _).trans A.a.ob,(cU (by lia) _).trans A.a.li⟩,A.i,A.s,(cU (by decide) _).trans A.d,kE A.l _,A.r,by rw[UT];exact A.l⟩
theorem W3.P7 {r:Nat}{e gv:Nat}{ev:List D} (A:W3 h r t e gv t0 du ev) (du':List D):W3 (h.set 5 (.l du')) r t e gv t0 du' ev:=by have ar:=A.r;have al:=A.l;exact ⟨⟨(gZ (by decide) _).trans A.a.ob,(cU (by lia) _).trans A.a.li⟩,A.i,A.s,kE (by lia) _,(cU (by decide) _).trans A.v,A.r,by rw[UT];exact A.l⟩
theorem GM (w0 w1 w2:W) (mo:Nat) {e gv:Nat} (rw:D) (hrw:biD .len [rw]=XX (.int ((e:Int)+1))) (he':e<=100) (m:Nat) (he la:D) (x10 x13 x14:Option W) {r:Nat}:∀ (d q:Nat) (x12:Option W) (h:HH),q+d=e->W3 h r t e gv t du (itE (er t e q)) →
 ∃ y12 h',aR (evS F G u0) [(12,"_law_at")] (upto (q:Int) d) (b8 w0 w1 w2 mo rw m (dps t e) he la x10 (XX (.r 6)) x12 x13 x14) h=XX (.nx (b8 w0 w1 w2 mo rw m (dps t e) he la x10 (XX (.r 6)) y12 x13 x14) h')/\W3 h' r t e gv t du (itE (er t e e))
 | 0,q,x12,h,hq,A=>⟨x12,h,rfl,by cases (show q=e by lia);exact A⟩
 | d+1,q,x12,h,hq,A=>by
  have b1:=MY (F:=F) (G:=G) w0 w1 w2 mo rw hrw he' m he la x10 x13 x14 h q (by lia) A.v;have A1:W3 (if up t q=XZ then h.set 6 (.l (itE (er t e (q+1)))) else h) r t e gv t du (itE (er t e (q+1))):=by
   split;exact A.P6 _
   ·rename_i c;have:er t e (q+1)=er t e q:=by unfold er;rw[UR,TY,Ui,if_neg c,Tg];show _++[]=_;rw[R8]
    rw[this];exact A
  obtain ⟨z12,h2,b2,A2⟩:=GM w0 w1 w2 mo rw hrw he' m he la x10 x13 x14 d (q+1) (XX (.p (.int (q:Int)))) _ (by lia) A1;refine ⟨z12,h2,?_,A2⟩;have e1:((q:Int)+1)=((q+1:Nat):Int):=by lia
  rw[cV,e1];have st:aR (evS F G u0) [(12,"_law_at")] (.int (q:Int)::upto ((q+1:Nat):Int) d) (b8 w0 w1 w2 mo rw m (dps t e) he la x10 (XX (.r 6)) x12 x13 x14) h =
   fk (evS F G u0 (b8 w0 w1 w2 mo rw m (dps t e) he la x10 (XX (.r 6)) (XX (.p (.int (q:Int)))) x13 x14) h) (aR (evS F G u0) [(12,"_law_at")] (upto ((q+1:Nat):Int) d)):=rfl
  rw[st,b1,aX,b2]
theorem qP (P:TpP T G) (L:qO T TX G) (Y:F30 T TX G k F) (w0 w1 w2:W) (mo:Nat) (rw:D) (m:Nat) (de he la:D) (x10 x11 x12:Option W) (way:Nat) (hw:way < 6) (z:Int) {ev:List D} (A:W3 h r t e gv t0 du ev) (hz:NoM e z) (hb:big z=XZ) :
 X3 (evS F G uZ (b8 w0 w1 w2 mo rw m de he la x10 x11 x12 (XX (.p (.int (way:Int)))) (XX (.p (.int z)))) h) (.nx (b8 w0 w1 w2 mo rw m de he la x10 x11 x12 (XX (.p (.int (way:Int)))) (XX (.p (.int z))))) e gv t0 du ev:=by
 obtain ⟨h',r',t',b,A'⟩:=yN P L (k+2) A z hz hb way hw;refine ⟨h',r',t',?_,A'⟩;rw[uZ,b8];simp[-jT,Y.told,b,JJ]
theorem Fx (P:TpP T G) (L:qO T TX G) (Y:F30 T TX G k F) (w0 w1 w2:W) (mo:Nat) (rw:D) (m:Nat) (de he la:D) (x11 x12 x14:Option W) (way:Nat) (hw:way < 6) {ev:List D} (A:W3 h r t e gv t0 [d 0,d 1,d 2,d 3,d 4,d 5] ev) (hrw:biD .len [rw]=XX (.int ((e:Int)+1))) (hm:m<=e) (U:Du t0 m e d) (hmo:t.most=mo) (hl:mo<=100) (dn:∀ i,i < 6->cL .ne (d i) (d i)=XX X0) :
 ∃ y14,X3 (evS F G nO (b8 w0 w1 w2 mo rw m de he la (XX (.r 5)) x11 x12 (XX (.p (.int (way:Int)))) x14) h) (.nx (b8 w0 w1 w2 mo rw m de he la (XX (.r 5)) x11 x12 (XX (.p (.int (way:Int)))) y14)) e gv t0 [d 0,d 1,d 2,d 3,d 4,d 5] ev:=by
 have le:=A.i.run.le;obtain ⟨h1,r1,t1,b1,A1⟩:=yM P L (k+2) A m hm U way hw;obtain ⟨h2,r2,t2,b2,A2⟩:=qP P L Y w0 w1 w2 mo rw m de he la (XX (.r 5)) x11 x12 way hw (-1) A1 (.inl (by lia)) (by decide);obtain ⟨h3,r3,t3,b3,A3⟩:=qP P L Y w0 w1 w2 mo rw m de he la (XX (.r 5)) x11 x12 way hw ((e:Int)+1) A2 (.inr (by lia)) (by simp[big];lia);obtain ⟨h4,r4,t4,b4,A4⟩:=qP P L Y w0 w1 w2 mo rw m de he la (XX (.r 5)) x11 x12 way hw ((mo:Int)+1) A3 (.inr (by lia)) (by simp[big];lia);refine ⟨XX (.p (.int ((mo:Int)+1))),h4,r4,t4,?_,A4⟩;have lp:aR (evS F G uZ) [(14,"_law_bad")] [.int (-1),.int ((e:Int)+1),.int ((mo:Int)+1)] (b8 w0 w1 w2 mo rw m de he la (XX (.r 5)) x11 x12 (XX (.p (.int (way:Int)))) x14) h1=XX (.nx (b8 w0 w1 w2 mo rw m de he la (XX (.r 5)) x11 x12 (XX (.p (.int (way:Int)))) (XX (.p (.int ((mo:Int)+1))))) h4):=by have st:∀ (z:Int) (l:List D) (y:Option W) (g:HH),aR (evS F G uZ) [(14,"_law_bad")] (.int z::l) (b8 w0 w1 w2 mo rw m de he la (XX (.r 5)) x11 x12 (XX (.p (.int (way:Int)))) y) g=fk (evS F G uZ (b8 w0 w1 w2 mo rw m de he la (XX (.r 5)) x11 x12 (XX (.p (.int (way:Int)))) (XX (.p (.int z)))) g) (aR (evS F G uZ) [(14,"_law_bad")] l):=λz l y g=>rfl;rw[st,b2,aX,st,b3,aX,st,b4,aX];rfl
 have dw:az (.lst [d 0,d 1,d 2,d 3,d 4,d 5]) (.int (way:Int))=XX (d way):=by
  match way,hw with
  | 0,_=>rfl| 1,_=>rfl| 2,_=>rfl| 3,_=>rfl| 4,_=>rfl| 5,_=>rfl
 have n1:=dn way hw;have l5:=A1.d;rw[nO];generalize hsl:b8 w0 w1 w2 mo rw m de he la (XX (.r 5)) x11 x12 (XX (.p (.int (way:Int)))) x14=sl at lp ⊢;have g13:sl[13]?=XX (XX (.p (.int (way:Int)))):=by subst hsl;rfl
 have g5:sl[5]?=XX (XX (.o 0)):=by subst hsl;rfl
 have g6:sl[6]?=XX (XX (.p (.int (m:Int)))):=by subst hsl;rfl
 have g10:sl[10]?=XX (XX (.r 5)):=by subst hsl;rfl
 have g3:sl[3]?=XX (XX (.p (.int (mo:Int)))):=by subst hsl;rfl
 have g4:sl[4]?=XX (XX (.p rw)):=by subst hsl;rfl
 generalize [d 0,d 1,d 2,d 3,d 4,d 5]=DD at *;generalize d way=dd at *;simp[-jT,-aR,-aJ,-gy,g13,g5,g6,g10,g3,g4,Y.told,b1,rd,l5,dw,n1,hrw,eU,lp]
theorem tL (P:TpP T G) (L:qO T TX G) {k:Nat} (Y:F30 T TX G k F) (w0 w1 w2:W) (mo:Nat) (rw:D) (m:Nat) (de he la:D) (x11 x12:Option W) {e gv:Nat}{ev:List D} (hrw:biD .len [rw]=XX (.int ((e:Int)+1))) (hm:m<=e) (U:Du t0 m e d) (hmo:t0.most=mo) (hl:mo<=100) (dn:∀ i,i < 6->cL .ne (d i) (d i)=XX X0):∀ (q lo:Nat) (x13 x14:Option W) (h:HH) (r:Nat) (t:Tp),lo+q=6->W3 h r t e gv t0 [d 0,d 1,d 2,d 3,d 4,d 5] ev →
 ∃ y13 y14,X3 (aR (evS F G nO) [(13,"_law_way")] (upto (lo:Int) q) (b8 w0 w1 w2 mo rw m de he la (XX (.r 5)) x11 x12 x13 x14) h) (.nx (b8 w0 w1 w2 mo rw m de he la (XX (.r 5)) x11 x12 y13 y14)) e gv t0 [d 0,d 1,d 2,d 3,d 4,d 5] ev
 | 0,lo,x13,x14,h,r,t,_,A=>⟨x13,x14,h,r,t,rfl,A⟩
 | q+1,lo,x13,x14,h,r,t,hq,A=>by
  obtain ⟨y14,h1,r1,t1,b1,A1⟩:=Fx P L Y w0 w1 w2 mo rw m de he la x11 x12 x14 lo (by lia) A hrw hm U (A.s.most.trans hmo) hl dn;obtain ⟨z13,z14,h2,r2,t2,b2,A2⟩:=tL P L Y w0 w1 w2 mo rw m de he la x11 x12 hrw hm U hmo hl dn q (lo+1) (XX (.p (.int (lo:Int)))) y14 h1 r1 t1 (by lia) A1;refine ⟨z13,z14,h2,r2,t2,?_,A2⟩;have e1:((lo:Int)+1)=((lo+1:Nat):Int):=by lia
  rw[cV,e1];have st:aR (evS F G nO) [(13,"_law_way")] (.int (lo:Int)::upto ((lo+1:Nat):Int) q) (b8 w0 w1 w2 mo rw m de he la (XX (.r 5)) x11 x12 x13 x14) h =
   fk (evS F G nO (b8 w0 w1 w2 mo rw m de he la (XX (.r 5)) x11 x12 (XX (.p (.int (lo:Int)))) x14) h) (aR (evS F G nO) [(13,"_law_way")] (upto ((lo+1:Nat):Int) q)):=rfl
  rw[st,b1,aX,b2]
theorem Fy (l:List (Nat×Option Nat)):dok 100 (.lst (itE l))=XZ:=by rw[lW];refine List.all_eq_true.mpr λx hx=>?_;unfold itE at hx;obtain ⟨p,_,rfl⟩:=List.mem_map.mp hx;obtain ⟨s,o⟩:=p;cases o<;>simp
theorem MZ (P:TpP T G) (L:qO T TX G) (Y:F30 T TX G k F) (w0 w1 w2:W) (mo:Nat) (rw:D) (m:Nat) (he la:D) (A:W3 h r t e gv t [d 0,d 1,d 2,d 3,d 4] []) (hrw:biD .len [rw]=XX (.int ((e:Int)+1))) (hm:m<=e) (U:Du t m e d) (hmo:t.most=mo) (hl:mo<=100) :
 ∃ h',evS F G JO (b8 w0 w1 w2 mo rw m (dps t e) he la (XX (.r 5)) (XX (.r 6)) XY XY XY) h=XX (.rt (.p (.bl XZ)) h'):=by
 have le:=A.i.run.le;obtain ⟨y12,h1,b1,A1⟩:=GM (F:=F) (G:=G) w0 w1 w2 mo rw hrw (by lia) m he la (XX (.r 5)) XY XY e 0 XY h (by lia) A;rw[← MS A.i.run] at A1;have enl:=(lg t e).1;have enl2:(itE (en t e)).length<=100000:=by unfold itE;rw[RN];lia
 have wtl:=(lg t m).2;have co:BT.ev F G JN (b8 w0 w1 w2 mo rw m (dps t e) he la (XX (.r 5)) (XX (.r 6)) y12 XY XY) h1=XX (.p (d 5),h1):=by
  rw[JN,BT.ev,U.d5];have e1:evs F G (.cons (.var 11) .nil) (b8 w0 w1 w2 mo rw m (dps t e) he la (XX (.r 5)) (XX (.r 6)) y12 XY XY) h1=XX ([.r 6],h1):=by simp[b8]
  have e2:(rds [.r 6] h1).bind (c9 .seq)=XX (itE (en t e)):=by simp[rds,rd,A1.v]
  have e3:frees (b8 w0 w1 w2 mo rw m (dps t e) he la (XX (.r 5)) (XX (.r 6)) y12 XY XY) [(6,"_law_moment")]=XX [XX (.p (.int (m:Int)))]:=rfl;rw[e1,bH];unfold mQ;rw[e2,e3];show (if eU [.r 6]=XZ then _ else _)=_;rw[if_neg (by simp[eU]),rP];have e0:ah (wt t m)=(en t e).filterMap λp=>if opn m p=XZ then XX (D.int (p.1:Int)) else XY:=by
   rw[← MT A.i.run hm];unfold ah;rw[SI];generalize en t e=l
   induction l with
   | nil=>rfl| cons p l ih=>rw[Ui,Ss,← ih];split<;>rfl
  have key:∀ f:List D->HH->Option (Option D×HH),(∀ p∈en t e,f [.int (p.1:Int),dO p.2] h1=XX (if opn m p=XZ then XX (D.int (p.1:Int)) else XY,h1))->bA f 2 (itE (en t e)) h1=XX (ah (wt t m),h1):=λf hf=>by rw[e0];unfold itE;exact JH f 2 _ (λp:Nat×Option Nat=>[.int (p.1:Int),dO p.2]) _ h1 (en t e) λp hp=>⟨rfl,hf p hp⟩
  rw[show (["_law_at","_law_to"]:List ZZ).length=2 from rfl,key _ λp hp=>?_,bH]
  ·unfold fj;rw[if_pos (show (ah (wt t m)).length<=lim from nT (by simp;lia))];rfl
  ·have lt:(p.1:Int) < (m:Int)↔p.1 < m:=by lia
   unfold chk;obtain ⟨s,o⟩:=p;cases o with
   | none=>by_cases c:s < m<;>simp[d7,cN,opn,c,A1.v]
   | some b =>
    have gt:(m:Int) < (b:Int)↔m < b:=by lia
    by_cases c:s < m<;>by_cases c2:m < b<;>simp[d7,cN,opn,c,c2,A1.v]
 have A2:=A1.P7 [d 0,d 1,d 2,d 3,d 4,d 5];have dn:∀ i,i < 6->cL .ne (d i) (d i)=XX X0:=λi hi=>by
  match i,hi with
  | 0,_=>rw[U.d0];simp| 1,_=>obtain ⟨j,q,_⟩:=U.d1;rw[q];simp| 2,_=>obtain ⟨j,q,_⟩:=U.d2;rw[q];simp| 3,_=>obtain ⟨j,q,_⟩:=U.d3;rw[q];simp| 4,_=>obtain ⟨j,q,_⟩:=U.d4;rw[q];simp| 5,_=>rw[U.d5];exact Ft _
 obtain ⟨y13,y14,h3,r3,t3,b3,A3⟩:=tL P L Y w0 w1 w2 mo rw m (dps t e) he la (XX (.r 6)) y12 hrw hm U hmo hl dn 6 0 XY XY _ r t rfl A2;have ca:=yK (k:=k+6) P L.r L.wk L.ca A3.a A3.i;rw[(wQ A3.s e).2] at ca;refine ⟨h3,?_⟩;have sr:c9 .rng1 [.int (e:Int)]=XX (upto ((0:Nat):Int) e):=by rw[bB,if_pos (by simp;lia)];rfl
 have s6:c9 .rng1 [.int 6]=XX (upto ((0:Nat):Int) 6):=rfl;have l5:=A1.d;have l6:=A3.v;have cf:F "calls" [.o 0] h3=XX (.p (.lst (itE (en t e))),h3):=by rw[Y.fn _ (by decide)];exact ca
 have eqc:cL .eq (.lst (itE (en t e))) (.lst (itE (en t e)))=XX XZ:=by rw[jS,if_pos (gf (Fy _)),kC]
 have em:((e:Int)+1 - 1)=(e:Int):=by lia
 have z0:((0:Nat):Int)=0:=rfl;rw[z0] at b1 b3 sr s6;rw[JO,MR,MQ];generalize hsa:b8 w0 w1 w2 mo rw m (dps t e) he la (XX (.r 5)) (XX (.r 6)) XY XY XY=sa at b1 ⊢;generalize hsb:b8 w0 w1 w2 mo rw m (dps t e) he la (XX (.r 5)) (XX (.r 6)) y12 XY XY=sb at b1 co b3;generalize hsc:b8 w0 w1 w2 mo rw m (dps t e) he la (XX (.r 5)) (XX (.r 6)) y12 y13 y14=sc at b3;have a4:sa[4]?=XX (XX (.p rw)):=by subst hsa;rfl
 have b10:sb[10]?=XX (XX (.r 5)):=by subst hsb;rfl
 have c5:sc[5]?=XX (XX (.o 0)):=by subst hsc;rfl
 have c11:sc[11]?=XX (XX (.r 6)):=by subst hsc;rfl
 generalize itE (en t e)=EE at *;simp[-gy,-bB,-aR,-jS,a4,hrw,em,sr,eU,b1,b10,co,l5,s6,b3,c5,cf,c11,rd,l6,eqc]
theorem M0 (P:TpP T G) (L:qO T TX G) (Y:F30 T TX G k F) (w0 w1 w2:W) (mo:Nat) (m:Nat) (a:TAt [c0,c1] 0 1 t) (I:TI t e gv) (hm:m<=e) (hp:t.p=pg) (ha:t.asked=asked) (hmo:t.most=mo) (hl:mo<=100) :
 ∃ h',evS F G Fw [XX w0,XX w1,XX w2,XX (.p (.int (mo:Int))),XX (.p (xv pg asked e)),XX (.o 0),XX (.p (.int (m:Int))),XY,XY,XY,XY,XY,XY,XY,XY] [c0,c1]=XX (.rt (.p (.bl XZ)) h'):=by
 have le:=I.run.le;have hrw:biD .len [xv pg asked e]=XX (.int ((e:Int)+1)):=by rw[← nN];exact wU pg asked e
 have el:(each (iw t) e).length<=100000:=by rw[iU];lia
 have cf:∀ (s:Sl) (h:HH),s[4]?=XX (XX (.p (xv pg asked e)))->BT.ev F G JL s h=XX (.p (dps t e),h):=λs h q4=>by
  rw[JL];refine mw (ws:=[.p (xv pg asked e)]) (h1:=h) (fs:=[]) (ds:=(RK (e+1)).map λi=>(itr pg asked i).enc) (by simp[q4]) rfl rfl rfl ?_ el;have em:each (iw t) e=(RK (e+1)).filterMap λi=>XX (iw t i):=by unfold each;rw[List.filterMap_eq_map']
  rw[em];refine B7 _ (λ(i:Nat)=>(itr pg asked i).enc) _ h (RK (e+1)) λi _=>?_;have x3:az (itr pg asked i).enc (.int 3)=XX (.tup (ah (itr pg asked i).calls)):=rfl;have dl:dep t i=(itr pg asked i).calls.length:=by unfold dep;rw[hp,ha]
  generalize (itr pg asked i).enc=AA at *;simp[-br,d7,cN,x3,iw,dl,ah]
 have lw:wi t (dep t m)=λi=>decide ((dep t i:Int)<=(dep t m:Int)):=rfl;have lw2:wi t ((dep t m:Int) - 1)=λi=>decide ((dep t i:Int) < (dep t m:Int)):=by funext i;unfold wi;congr 1;exact propext ⟨λz=>by lia,λz=>by lia⟩
 obtain ⟨j1,N1⟩:=GJ (wi t (dep t m)) hm;obtain ⟨j2,N2⟩:=GJ (wi t ((dep t m:Int) - 1)) hm;obtain ⟨j3,B3⟩:=GK (wi t (dep t m)) m;obtain ⟨j4,B4⟩:=GK (wi t ((dep t m:Int) - 1)) m
 let d:Nat->D:=λi=>match i with
  | 0=>.int (dep t m:Int)| 1=>.int (j1:Int)| 2=>.int (j2:Int)| 3=>.int (j3:Int)| 4=>.int (j4:Int)| _=>.lst (ah (wt t m))
 have U:Du t m e d:=⟨rfl,⟨j1,rfl,N1⟩,⟨j2,rfl,N2⟩,⟨j3,rfl,B3⟩,⟨j4,rfl,B4⟩,rfl⟩;have x1:=wV N1;have x2:=wV N2;have x3:=wW B3;have x4:=wW B4;have im:=nQ t hm;have ls:∀ (g:Nat->Bool),(frm g (m+1) e).length<=1000:=λg=>by have:=wN g e;have:=Tw (λi=>decide (m+1<=i)) (mom g e);unfold frm;lia
 have lf:∀ (g:Nat->Bool),((RK m).filter g).length<=1000:=λg=>by have:=Tw g (RK m);rw[Uy] at this;lia
 have sr:c9 .rng2 [.int ((m:Int)+1),.int ((e:Int)+1)]=XX (ah (Sy (m+1) (e - m))):=by
  have e1:((m:Int)+1)=((m+1:Nat):Int):=by lia
  rw[cY,if_pos (by simp;lia),e1,← qL];have:((e:Int)+1 - ((m+1:Nat):Int)).toNat=e - m:=by lia
  rw[this]
 have sl:(ah (Sy (m+1) (e - m))).length<=100000:=nT (by rw[XS];lia);have sm:c9 .rng1 [.int (m:Int)]=XX (ah (RK m)):=by
  have:upto ((0:Nat):Int) m=ah (RK m):=by rw[qL,Xj]
  rw[bB,if_pos (by simp;lia),← this];rfl
 have le1:∀ i,cL .le (.int (dep t i:Int)) (.int (dep t m:Int))=XX (wi t (dep t m) i):=λi=>rfl;have lt1:∀ i,cL .lt (.int (dep t i:Int)) (.int (dep t m:Int))=XX (wi t ((dep t m:Int) - 1) i):=λi=>by rw[lw2];rfl
 have later:∀ (cm:Cm) (g:Nat->Bool),(∀ i,cL cm (.int (dep t i:Int)) (.int (dep t m:Int))=XX (g i))->∀ (s:Sl) (h:HH),s[7]?=XX (XX (.p (dps t e)))->s[8]?=XX (XX (.p (.int (dep t m:Int))))->s[9]?=XX (XX (.p (.lst (ah (Sy (m+1) (e - m)))))) →
  BT.ev F G (.comp X0 .seq (.cons (.var 9) .nil) ["_law_at"] [(7,"_law_deep"),(8,"_law_here")] (.cons (.cmp cm (.idx (.var 1) (.var 0)) (.var 2)) .nil) (.var 0)) s h=XX (.p (.lst (ah (frm g (m+1) e))),h):=λcm g hc s h q7 q8 q9=>by
  rw[← qM g hm];refine mw (ws:=[.p (.lst (ah (Sy (m+1) (e - m))))]) (h1:=h) (fs:=[XX (.p (dps t e)),XX (.p (.int (dep t m:Int)))]) (ds:=ah (Sy (m+1) (e - m))) (by simp[q9]) rfl (by simp[frees,q7,q8]) rfl (nR _ _ _ _ λi hi=>?_) (by rw[qM g hm];exact nT (by have:=ls g;lia));have:=List.mem_range'_1.mp hi;exact Cv cm t (by lia) _ _ (hc i) h
 have early:∀ (cm:Cm) (g:Nat->Bool),(∀ i,cL cm (.int (dep t i:Int)) (.int (dep t m:Int))=XX (g i))->∀ (s:Sl) (h:HH),s[7]?=XX (XX (.p (dps t e)))->s[8]?=XX (XX (.p (.int (dep t m:Int))))->s[6]?=XX (XX (.p (.int (m:Int)))) →
  BT.ev F G (.comp X0 .rng1 (.cons (.var 6) .nil) ["_law_at"] [(7,"_law_deep"),(8,"_law_here")] (.cons (.cmp cm (.idx (.var 1) (.var 0)) (.var 2)) .nil) (.var 0)) s h=XX (.p (.lst (ah ((RK m).filter g))),h):=λcm g hc s h q7 q8 q6=>by
  refine mw (ws:=[.p (.int (m:Int))]) (h1:=h) (fs:=[XX (.p (dps t e)),XX (.p (.int (dep t m:Int)))]) (ds:=ah (RK m)) (by simp[q6]) (by simpa [-bB] using sm) (by simp[frees,q7,q8]) rfl (nR _ _ _ _ λi hi=>?_) (nT (by have:=lf g;lia));have:=List.mem_range.mp hi;exact Cv cm t (by lia) _ _ (hc i) h
 have A3:W3 [c0,c1,.l [d 0,d 1],.l [d 0,d 1,d 2],.l [d 0,d 1,d 2,d 3],.l [d 0,d 1,d 2,d 3,d 4],.l []] 1 t e gv t [d 0,d 1,d 2,d 3,d 4] []:=⟨⟨a.ob,a.li⟩,I,.refl t,rfl,rfl,.inl rfl,Rq _⟩;obtain ⟨h3,b3⟩:=MZ P L Y w0 w1 w2 mo (xv pg asked e) m (.int (dep t m:Int)) (.lst (ah (Sy (m+1) (e - m)))) A3 hrw hm U hmo hl;refine ⟨h3,?_⟩;have ka:=later .le _ le1;have kb:=later .lt _ lt1;have kc:=early .le _ le1;have kd:=early .lt _ lt1;have em:((e:Int)+1 - 1)=(e:Int):=by lia
 rw[← MM] at ka;rw[← MN] at kb;rw[← MO] at kc;rw[← MP] at kd;have ad:∀ (l:List Nat) (y:D),l.length<=1000->gJ .add (.lst (ah l)) (.lst [y])=XX (.lst (ah l++[y])):=λl y z=>by rw[aV,if_pos (by have:=nT z;simp;lia)]
 have ad2:∀ (l:List Nat),l.length<=1000->gJ .add (.lst [.int 0]) (.lst (ah l))=XX (.lst (.int 0::ah l)):=λl z=>by rw[aV,if_pos (by have:=nT z;simp;lia)];rfl
 have ad1:=ad (frm (wi t (dep t m)) (m+1) e) (.int (e:Int)) (ls _);have ad1':=ad (frm (wi t ((dep t m:Int) - 1)) (m+1) e) (.int (e:Int)) (ls _);have ad3:=ad2 _ (lf (wi t (dep t m)));have ad4:=ad2 _ (lf (wi t ((dep t m:Int) - 1)));have oc:∀ (h:HH) (n:Nat) (xs:List D) (y:D),lat h n=XX xs->xs.length<=10->xT (.r n) (.p (.lst [y])) h=XX (.r h.length,h++[.l (xs++[y])]):=λh n xs y q1 q2=>by
  have:rd (.r n) h=XX (.lst xs):=by show (lat h n).map D.lst=_;rw[q1];rfl
  unfold xT;rw[this];exact if_pos (show xs.length+1<=lim by simp;lia)
 have o2:=oc [c0,c1,.l [.int (dep t m:Int),.int (j1:Int)]] 2 _ (.int (j2:Int)) rfl (by simp);have o3:=oc [c0,c1,.l [.int (dep t m:Int),.int (j1:Int)],.l [.int (dep t m:Int),.int (j1:Int),.int (j2:Int)]] 3 _ (.int (j3:Int)) rfl (by simp);have o4:=oc [c0,c1,.l [.int (dep t m:Int),.int (j1:Int)],.l [.int (dep t m:Int),.int (j1:Int),.int (j2:Int)],.l [.int (dep t m:Int),.int (j1:Int),.int (j2:Int),.int (j3:Int)]] 4 _ (.int (j4:Int)) rfl (by simp);rw[Fw];unfold b8 at b3;generalize xv pg asked e=RR at *;generalize dps t e=DD at *;generalize ah (Sy (m+1) (e - m))=LL at *;generalize ah (frm (wi t (dep t m)) (m+1) e)=N1 at *;generalize ah (frm (wi t ((dep t m:Int) - 1)) (m+1) e)=N2 at *;generalize ah ((RK m).filter (wi t (dep t m)))=N3 at *;generalize ah ((RK m).filter (wi t ((dep t m:Int) - 1)))=N4 at *;simp[-rQ,tnx,-gy,-aJ,-aV,-cY,cf,hrw,im,sr,sl,ka,kb,kc,kd,em,ad1,ad1',ad3,ad4,x1,x2,x3,x4,o2,o3,o4];exact b3
theorem yO (P:TpP T G) (L:qO T TX G) (Y:F30 T TX G k F) (ns:List Int) (hl:ns.length<=1000):∃ h',BS.lO F G fF [.p (.lst (af ns))] []=XX (.p (.bl XZ),h'):=by
 obtain ⟨pg,ok,pl,rp⟩:=qK (G:=G) L.lw L.program L.calling ns hl 600;obtain ⟨asked,ha,hal,ra⟩:=yF (G:=G) L.lw ns hl 450;have rp':∀ h,F "_law_calling" [.p (.lst (af ns)),.p (.int 600)] h=XX (.p (bw pg),h):=λh=>by rw[Y.fn _ (by decide)];exact rp (k+10) h
 have ra':∀ h,F "_law_asked" [.p (.lst (af ns)),.p (.int 450)] h=XX (.p (.lst (af asked)),h):=λh=>by rw[Y.fn _ (by decide)];exact ra (k+15) h
 have dr:∀ (q many:Int),0 < many->∃ z:Nat,(z:Int) < many/\∀ h,F "_law_drawn" [.p (.lst (af ns)),.p (.int q),.p (.int many)] h=XX (.p (.int (z:Int)),h):=λq many hm=>by obtain ⟨z,h1,h2⟩:=gF (G:=G) L.lw ns hl q many hm;exact ⟨z,h1,λh=>by rw[Y.fn _ (by decide)];exact h2 (k+16) h⟩
 obtain ⟨mo,hmo,rmo⟩:=dr 440 17 (by decide);obtain ⟨e,R,es⟩:=E2 pg asked mo;have le:=R.le;have rl:∀ h,F "_law_states" [.p (bw pg),.p (.lst (af asked)),.p (.int mo)] h=XX (.p (xv pg asked e),h):=λh=>by rw[Y.fn _ (by decide),nL (G:=G) L.own k pg ok pl asked ha (by lia) mo (by lia) h,es,← nN];rfl
 obtain ⟨m,hm,rm⟩:=dr 443 ((e:Int)+1) (by lia);have in1:F (.m "Tape" "__init__") [.o 0,.p (bw pg),.p (.lst (af asked)),.p (.int 2),.p (.int (mo:Int))] [.o "Tape" []]=XX (.p .non,[.o "Tape" ((Tp.new pg asked 2 mo).fs 1),.l [St.zero.enc]]):=by rw[Y.me];exact BY P (k+16) pg asked 2 mo (by lia) []
 have A0:TAt [.o "Tape" ((Tp.new pg asked 2 mo).fs 1),.l [St.zero.enc]] 0 1 (Tp.new pg asked 2 mo):=JD [] pg asked 2 mo;have I0:TI (Tp.new pg asked 2 mo) e 2:=JC ok ha R (by lia) (by lia) (by lia);obtain ⟨h3,b3⟩:=M0 P L Y (.p (.lst (af ns))) (.p (bw pg)) (.p (.lst (af asked))) mo m A0 I0 (by lia) rfl rfl rfl (by lia);have f0:fin [] (.p (.bl XZ)) h3=XX (.p (.bl XZ),[]):=by have:=fz [] h3 (.bl XZ);simpa using this
 have lr:biD .len [xv pg asked e]=XX (.int ((e:Int)+1)):=by rw[← nN];exact wU pg asked e
 refine ⟨[],?_⟩;rw[BS.lO,if_pos (show [W.p (D.lst (af ns))].length=fF.ps.length from rfl),fF];have b3:evS F G Fw [XX (.p (.lst (af ns))),XX (.p (bw pg)),XX (.p (.lst (af asked))),XX (.p (.int (mo:Int))),XX (.p (xv pg asked e)),XX (.o 0),XX (.p (.int (m:Int))),XY,XY,XY,XY,XY,XY,XY,XY] [.o "Tape" ((Tp.new pg asked 2 mo).fs 1),.l [St.zero.enc]]=_:=b3;generalize xv pg asked e=RR at *;generalize bw pg=PP at *;simp[-rQ,tnx,-gy,rp',ra',rmo,rl,in1,lr,rm,eU,b3,f0]
end
end BT
end
section
namespace BF
open PySem PySem.Spec PyProof.Rows L2 BS
variable {K:Rm}
def tM (P:Se) (w:SB) (K:Rm) (mg:ZZ->Option Z1) (x:ZZ) (z:BT.W):Prop:=∃ u v,mg x=XX u/\RelV v u/\∀ m H,RW P w K m H v z
theorem Cw (X:K.In h) (G:h.Ns RE mg) (a:Sq K RE x=XX (XX (.int n t))):tM P w K mg x (.p (.int n)) :=
 ⟨_,.int n,Su X G a,⟨t,rfl⟩,λ_ _=>.p (.int n)⟩
inductive dG:List ZZ->List Z1->Prop where
 | nil:dG [] []
 | cons {x:ZZ}{xs:List ZZ}{t:Tok}{vs:List Z1} (h:PyData.strOk x=XZ) (r:dG xs vs):dG (x::xs) (.str x t::vs)
theorem dG.vals:∀ {xs:List ZZ}{vs:List Z1},dG xs vs->av (xs.map V.str) vs
 | _,_,.nil=>.nil| _,_,.cons _ r=>.cons ⟨_,rfl⟩ r.vals
theorem dG.rds {K:Rm}:∀ {xs:List ZZ}{vs:List Z1},dG xs vs->RDs K m H (xs.map V.str) (xs.map BT.D.str)
 | _,_,.nil=>.nil| _,_,.cons h r=>.cons (.str _ h) r.rds
theorem dG.len:∀ {xs:List ZZ}{vs:List Z1},dG xs vs->vs.length=xs.length
 | _,_,.nil=>rfl
 | _,_,.cons _ r=>by simp[r.len]
theorem Cy (X:K.In h) (G:h.Ns RE mg) (a:Sq K RE x=XX (XX (.ref f)))
 (l:K.lookup f=XX ⟨.type "tuple",XY,.seq its n,sl⟩) (hl:xs.length<=1000) (r:dG xs its.toList):tM P w K mg x (.p (.tup (xs.map BT.D.str))):=by
 refine ⟨_,.ref f,Su X G a,rfl,λm H=>.p (.tup (.inr ⟨_,its,n,⟨l,rfl,rfl,?_,r.vals⟩,rfl⟩) r.rds)⟩;have:=r.len;have e:its.size=xs.length:=by rw[← this];simp
 rw[e];exact TF (xM hl)
inductive f9 (w:SB):List (ZZ×Int)->List WZ->Prop where
 | nil:f9 w [] []
 | cons {x:ZZ}{n:Int}{kvs:List (ZZ×Int)}{t u:Tok}{es:List WZ} (r:f9 w kvs es):f9 w ((x,n)::kvs) (⟨PyData.keyHash w.params x,.str x t,.int n u⟩::es)
theorem f9.ex:∀ {kvs:List (ZZ×Int)}{es:List WZ},f9 w kvs es->∃ vs:List (Key×Z1),KV ((kvs.map λq=>(q.1,V.int q.2)).map λq=>((Sum.inr q.1:Key),q.2)) vs/\Pairs (aU P w) es vs/\vs.map (·.1)=kvs.map (λq=>(Sum.inr q.1:Key))/\(∀ e∈es,∃ k,(aU P w).is k e.key=XZ/\e.hash=(aU P w).hash k)
 | _,_,.nil=>⟨[],.nil,.nil,rfl,λe he=>nomatch he⟩
 | _,_,@f9.cons _ x n kvs t u es r=>by
  obtain ⟨vs,h1,h2,h3,h4⟩:=r.ex (P:=P);have is:(aU P w).is (Sum.inr x) (.str x t)=XZ:=by show VM x (.str x t)=XZ;simp[VM]
  refine ⟨(Sum.inr x,.int n u)::vs,.cons ⟨rfl,u,rfl⟩ h1,.cons is rfl h2,by simp[h3],λe he=>?_⟩;rcases List.mem_cons.mp he with rfl|he
  exact ⟨Sum.inr x,is,rfl⟩;exact h4 e he
theorem yP (X:K.In h) (G:h.Ns RE mg) (a:Sq K RE x=XX (XX (.ref f)))
 (l:K.lookup f=XX { cls:=.type "dict",data:=.dict es n }) (hf:(f==Uu)=X0) (r:f9 w kvs es.toList) (nd:(kvs.map (·.1)).Nodup):tM P w K mg x (.k (kvs.map λq=>(q.1,BT.D.int q.2))):=by
 obtain ⟨vs,h1,h2,h3,h4⟩:=r.ex (P:=P);refine ⟨_,.ref f,Su X G a,rfl,λm H=>.k (es:=kvs.map λq=>(q.1,V.int q.2)) ⟨hf,vs,h1,λhh Kh=>⟨_,es,n,Kh _ _ l,⟨rfl,rfl,rfl⟩,rfl,λe he=>h4 e (by simpa using he),h2,?_⟩⟩ ?_⟩
 ·rw[h3];have e:(kvs.map λq=>(Sum.inr q.1:Key))=(kvs.map (·.1)).map Sum.inr:=by simp
  rw[e];exact List.pairwise_map.mpr (nd.imp λh z=>h (Sum.inr.inj z))
 ·clear r nd h1 h2 h3 h4 l
  induction kvs with
  | nil=>exact .nil| cons q kvs ih=>exact .cons (λ_ _=>.int _) ih
noncomputable def look {κ α:Type} [DecidableEq κ] (l:List (κ×α)) (x:κ):Option α:=match l with
 | []=>XY
 | (y,a)::r=>if y=x then XX a else look r x
theorem fG {κ α:Type} [DecidableEq κ] {Q:κ->α->Prop}:∀ {l:List (κ×α)} (_:∀ p∈l,Q p.1 p.2) {x:κ}{a:α},look l x=XX a->Q x a
 | [],_,_,_,e=>by cases e
 | (y,b)::r,h,x,a,e=>by
  rw[look] at e;split at e
  ·rename_i z;cases e;subst z;exact h (y,b) RL
  exact fG (λp hp=>h p (RJ _ hp)) e
theorem j9 {K:Rm}:∀ ns:List Int,RDs K m H (ns.map V.int) (BT.af ns)
 | []=>.nil| n::r=>.cons (.int n) (j9 r)
theorem Cz (tb:TB K H) (hS:LL K H a (ns.map V.int)) (e:∃ h',g [.p (.lst (BT.af ns))] []=XX (.p (.bl XZ),h')):spF P w K g [.ref a] H (λv _=>v=.bl XZ) λ_ _ _=>False:=by obtain ⟨h',e⟩:=e;refine ⟨[],_,[],_,h',⟨WA,rfl,λi a xs z=>by simp at z,tb⟩,.cons (.p (.lst (hS.elim (λq=>.inl ⟨q,by simp⟩) .inr) (j9 ns))) .nil,e,λv H' m' _ _ r=>mZ r⟩
end BF
end
section
namespace BG
open PySem PySem.Spec PySem.Calls PyProof.Rows L2 BS BF
variable {K:Rm}{st:V0}
theorem Fz (H:∀ p∈K,h.get? p.1=XX p.2):K.In h:=by
 intro a o e;obtain ⟨p,hp,he⟩:∃ p∈K,p.1=a/\p.2=o:=by
  clear H
  induction K with
  | nil=>cases e
  | cons q r ih =>
   rw[SO] at e;split at e
   ·rename_i c;cases e;exact ⟨q,RL,(eq_of_beq c).symm,rfl⟩
   ·obtain ⟨p,hp,he⟩:=ih e;exact ⟨p,RJ _ hp,he⟩
 rw[← he.1,← he.2];exact H p hp
inductive M1 (K:Rm) (x qual:ZZ) (st:V0) (f:Z0):Prop where
 | mk (fd:Tz) (F:Fun K x qual st f fd) (kV doc pm:Z1) (an:Option Z0) (cdv ct:Z1) (e:fd=SL x qual (cE st) (aq st) (aa st) .none kV doc pm an cdv ct):M1 K x qual st f
theorem lq (e:CY K f=XX (u9 x qual st)):M1 K x qual st f:=by
 unfold CY at e;split at e
 ·rename_i oc od fd sl l;have e':=Ry e;unfold u9 at e';obtain ⟨nm,ql,pa,bo,sc,gl,cl,de,kw,dc,pm,an,co,ct,bu⟩:=fd;simp only[FS.mk.injEq] at e';obtain ⟨rfl,rfl,rfl,rfl,rfl,rfl,rfl,rfl,rfl,hc⟩:=e';have F:=HA (K:=K) (x:=nm) (qual:=ql) (st:=st) (f:=f) (kV:=kw) (doc:=dc) (pm:=pm) (an:=an) (cdv:=co) (ct:=ct) l hc (by simp only[Sd,l]);exact ⟨_,F,kw,dc,pm,an,co,ct,rfl⟩
 cases e
theorem nth {α:Type}{l:List α}{a:α} (i:Nat) (h:l[i]?=XX a):a∈l:=RC h
noncomputable def jv (ns:List ZZ):Bool:=ns.all λn=>!(n.cps[0]?==XX 60)
theorem M3 (y:ZZ):(BT.bI y).cps[0]?=XX 60:=by show (((#[60]:Array Nat)++y.cps)++#[62])[0]?=XX 60;rw[← W2];simp
theorem FA (h:BT.bI y=BT.bI z):y=z:=by
 have e:((#[60]:Array Nat)++y.cps)++#[62]=((#[60]:Array Nat)++z.cps)++#[62]:=congrArg Str.cps h;have e2:y.cps.toList=z.cps.toList:=by have:=congrArg W0 e;simpa using this
 cases y;cases z;exact congrArg Str.mk (Array.toList_inj.mp e2)
theorem iY (h:jv ns=XZ) (y:ZZ):ns.contains (BT.bI y)=X0:=by
 cases e:ns.contains (BT.bI y) with
 | false=>rfl
 | true =>
  have:=List.all_eq_true.mp h _ (List.contains_iff_mem.mp e);rw[M3] at this;cases this
theorem iB (h:jv fn.ns=XZ):gD K q fd fn:=λy hy=>by rw[iY h y] at hy;cases hy
section
variable {K:Rm}
theorem iZ (e:refOf o=XX f):o=XX (XX (.ref f)):=by unfold refOf at e;split at e;cases e;rfl;cases e
theorem u5 (X:K.In h) (G:h.Ns RE mg) (e:aS K (.fn x f st)=aT w (.fn x f st))
 (sc:aO fn.ns fn.ps (aa st)) (hb:∀ (kV doc pm:Z1) (an:Option Z0) (cdv ct:Z1) (us:List Z1),us.length=fn.ps.length->WK (SL x x (cE st) (aq st) (aa st) .none kV doc pm an cdv ct) ⟨us,[]⟩=pure (fn.ps.zip us))
 (ck:CSs (aa st) fn.ns fn.body (aq st)) (tg:∀ fd,Sq K RE x=XX (XX (.ref f))->(∃ oc od sl,K.lookup f=XX ⟨oc,od,.func fd,sl⟩)->gD K x fd fn):Def K mg x fn:=by
 simp only[aS,aT,Ov.fn.injEq] at e;obtain ⟨fd,F,kV,doc,pm,an,cdv,ct,rfl⟩:=lq e.2;refine ⟨f,_,st,Su X G (iZ e.1),F,sc,F.binds hb,ck,tg _ (iZ e.1) ?_⟩;obtain ⟨oc,od,kV,doc,pm,an,cdv,ct,osl,e1,lk,_⟩:=F.ex;exact ⟨oc,od,osl,lk⟩
theorem tN (e:aS K (.cls c C)=aT w (.cls c C)):jX K c C:=by simp only[aS,aT,Ov.b.injEq,Ks,Rn,decide_eq_true_eq] at e;obtain ⟨⟨⟨⟨⟨h1,h2⟩,h3⟩,h4⟩,h5⟩,h6⟩:=e;refine ⟨h1,⟨h2,h3,h4,h5⟩,λf hf=>?_⟩;have hm:f∈attrs:=List.contains_iff_mem.mp hf;exact of_decide_eq_true (p:=Si K (.ref C) f=XX XY) (List.all_eq_true.mp h6 f hm)
theorem FD (X:K.In h) (G:h.Ns RE mg) (ec:aS K (.cls c C)=aT w (.cls c C)) (em:aS K (.mk C)=aT w (.mk C)) (e:aS K (.me C m x qual f st)=aT w (.me C m x qual f st))
 (sc:aO fn.ns fn.ps (aa st)) (hb:∀ (kV doc pm:Z1) (an:Option Z0) (cdv ct:Z1) (us:List Z1),us.length=fn.ps.length->WK (SL x qual (cE st) (aq st) (aa st) .none kV doc pm an cdv ct) ⟨us,[]⟩=pure (fn.ps.zip us))
 (ck:CSs (aa st) fn.ns fn.body (aq st)) (tg:jv fn.ns=XZ):AY K mg c m fn:=by
 have hC:=tN ec;simp only[aS,aT,Ov.fn.injEq] at e;obtain ⟨e1,e2⟩:=e;obtain ⟨fd,F,kV,doc,pm,an,cdv,ct,rfl⟩:=lq e2;have e1':meB K C m f=XZ:=by
  cases q:meB K C m f with
  | true=>rfl| false=>rw[q] at e1;cases e1
 simp only[meB,Rn,decide_eq_true_eq] at e1';simp only[aS,aT,Ov.b.injEq,mkB,Rn] at em;refine ⟨C,f,_,x,qual,st,hC,Su X G hC.cn,⟨e1'.1,e1'.2,F.kp⟩,λz=>?_,F,sc,F.binds hb,ck,iB tg⟩;subst z;exact ⟨em.1,e1'.1,e1'.2,em.2⟩
theorem none_of (X:K.In h) (G:h.Ns RE mg) (e:aS K (.no x)=aT w (.no x)):mg x=XY:=by simp only[aS,aT,Ov.b.injEq,decide_eq_true_eq] at e;exact PySem.W.mg_none_of X G e
theorem CA (h:intOf v=XX x):∃ t,v=.int x t:=by cases v<;>simp[intOf] at h;exact ⟨_,by rw[h]⟩
theorem CB (h:strOf v=XX x):∃ t,v=.str x t:=by cases v<;>simp[strOf] at h;exact ⟨_,by rw[h]⟩
theorem cD (X:K.In h) (G:h.Ns RE mg) (e:aS K (.int x n)=aT w (.int x n)):tM P w K mg x (.p (.int n)):=by
 simp only[aS,aT,Ov.int.injEq] at e;split at e
 ·rename_i v hv;obtain ⟨t,rfl⟩:=CA e;exact Cw X G hv
 cases e
theorem FE (X:K.In h) (G:h.Ns RE mg) (e:aS K (.fv x f)=aT w (.fv x f)):tM P w K mg x (.c (.f x) []):=by simp only[aS,aT,Ov.b.injEq,Rn,decide_eq_true_eq] at e;exact ⟨_,.ref f,Su X G e.1,rfl,λm H=>.g e.1 e.2⟩
theorem wX:∀ {xs:List ZZ}{vs:List Z1},xs.all PyData.strOk=XZ->vs.map strOf=xs.map XX->dG xs vs
 | [],[],_,_=>.nil
 | [],_::_,_,h=>by simp at h
 | _::_,[],_,h=>by simp at h
 | x::xs,v::vs,k,h=>by simp only[RZ,UG] at h;simp only[WN,Rn] at k;obtain ⟨t,rfl⟩:=CB h.1;exact .cons k.1 (wX k.2 h.2)
theorem wY:∀ {kvs:List (ZZ×Int)}{es:List WZ},es.map (λe=>(e.hash,strOf e.key,intOf e.val))=kvs.map (λq=>(PyData.keyHash w.params q.1,XX q.1,XX q.2))->f9 w kvs es
 | [],[],_=>.nil
 | [],_::_,h=>by simp at h
 | _::_,[],h=>by simp at h
 | (x,n)::kvs,⟨ha,k,v⟩::es,h=>by simp only[RZ,UG,Ww] at h;obtain ⟨⟨rfl,h2,h3⟩,hr⟩:=h;obtain ⟨t,rfl⟩:=CB h2;obtain ⟨u,rfl⟩:=CA h3;exact .cons (wY hr)
theorem CD (X:K.In h) (G:h.Ns RE mg) (e:aS K (.tup x f xs)=aT w (.tup x f xs)) (hl:xs.length<=1000) (hs:xs.all PyData.strOk=XZ):tM P w K mg x (.p (.tup (xs.map BT.D.str))):=by simp only[aS,aT,Ov.seq.injEq] at e;obtain ⟨e1,e2,e3⟩:=e;obtain ⟨o,l,e4⟩:=Option.map_eq_some_iff.mp e2;rw[l] at e3;obtain ⟨cl,di,da,sl⟩:=o;simp only[shp,Ww] at e4;obtain ⟨rfl,rfl,e5⟩:=e4;have:sl=#[]:=V5 e5;subst this;simp only[UC,F6] at e3;cases da<;>simp only[UP,reduceCtorEq] at e3;exact Cy X G (iZ e1) l hl (wX hs e3)
theorem CF (X:K.In h) (G:h.Ns RE mg) (e:aS K (.dct x f kvs)=aT w (.dct x f kvs)) (hf:(f==Uu)=X0) (nd:(kvs.map (·.1)).Nodup):tM P w K mg x (.k (kvs.map λq=>(q.1,BT.D.int q.2))):=by simp only[aS,aT,Ov.dct.injEq] at e;obtain ⟨e1,e2,e3⟩:=e;obtain ⟨o,l,e4⟩:=Option.map_eq_some_iff.mp e2;rw[l] at e3;obtain ⟨cl,di,da,sl⟩:=o;simp only[shp,Ww] at e4;obtain ⟨rfl,rfl,e5⟩:=e4;have:sl=#[]:=V5 e5;subst this;simp only[UC,F7] at e3;cases da<;>simp only[UP,reduceCtorEq] at e3;exact yP X G (iZ e1) l hf (wY e3) nd
end
theorem yQ {α:Type}{us:List α}{n:Nat} (h:us.length=n+1):∃ a r,us=a::r/\r.length=n:=by
 cases us with
 | nil=>simp at h| cons a r=>exact ⟨a,r,rfl,by simpa using h⟩
theorem len0 {α:Type}{us:List α} (h:us.length=0):us=[]:=Wh h
theorem FG {α:Type}{us:List α} (h:us.length=1):∃ a0,us=[a0]:=by obtain ⟨a0,r,rfl,g⟩:=yQ h;exact ⟨a0,by rw[len0 g]⟩
theorem yR {α:Type}{us:List α} (h:us.length=2):∃ a0 a1,us=[a0,a1]:=by obtain ⟨a0,r,rfl,g⟩:=yQ h;obtain ⟨a1,rfl⟩:=FG g;exact ⟨a0,a1,rfl⟩
theorem yS {α:Type}{us:List α} (h:us.length=3):∃ a0 a1 a2,us=[a0,a1,a2]:=by obtain ⟨a0,r,rfl,g⟩:=yQ h;obtain ⟨a1,a2,rfl⟩:=yR g;exact ⟨a0,a1,a2,rfl⟩
theorem CG {α:Type}{us:List α} (h:us.length=4):∃ a0 a1 a2 a3,us=[a0,a1,a2,a3]:=by obtain ⟨a0,r,rfl,g⟩:=yQ h;obtain ⟨a1,a2,a3,rfl⟩:=yS g;exact ⟨a0,a1,a2,a3,rfl⟩
theorem M4 {α:Type}{us:List α} (h:us.length=5):∃ a0 a1 a2 a3 a4,us=[a0,a1,a2,a3,a4]:=by obtain ⟨a0,r,rfl,g⟩:=yQ h;obtain ⟨a1,a2,a3,a4,rfl⟩:=CG g;exact ⟨a0,a1,a2,a3,a4,rfl⟩
theorem P8 {α:Type}{us:List α} (h:us.length=6):∃ a0 a1 a2 a3 a4 a5,us=[a0,a1,a2,a3,a4,a5]:=by obtain ⟨a0,r,rfl,g⟩:=yQ h;obtain ⟨a1,a2,a3,a4,a5,rfl⟩:=M4 g;exact ⟨a0,a1,a2,a3,a4,a5,rfl⟩
noncomputable abbrev BdT (x qual:ZZ) (st:V0) (fn:BT.Fn):Prop:=∀ (kV doc pm:Z1) (an:Option Z0) (cdv ct:Z1) (us:List Z1),us.length=fn.ps.length->WK (SL x qual (cE st) (aq st) (aa st) .none kV doc pm an cdv ct) ⟨us,[]⟩=pure (fn.ps.zip us)
structure CkB (x qual:ZZ) (s:V0) (f:BT.Fn):Prop where
 ck:CSs (aa s) f.ns f.body (aq s):=by repeat' (first|rfl|constructor|decide +kernel)
 sc:aO f.ns f.ps (aa s):=by constructor<;>first|rfl|decide +kernel
 bd:BdT x qual s f:=by intro _ _ _ _ _ _ us hl;first|(obtain ⟨a0,a1,rfl⟩:=yR hl;rfl)|(obtain ⟨a0,rfl⟩:=FG hl;rfl)|(obtain ⟨a0,a1,a2,rfl⟩:=yS hl;rfl)|(obtain ⟨a0,a1,a2,a3,rfl⟩:=CG hl;rfl)|(obtain rfl:=len0 hl;rfl)|(obtain ⟨a0,a1,a2,a3,a4,rfl⟩:=M4 hl;rfl)|(obtain ⟨a0,a1,a2,a3,a4,a5,rfl⟩:=P8 hl;rfl)
theorem ce {p:Prop} (h:p:=by repeat' (first|rfl|constructor|decide +kernel)):p:=h
theorem dk {p:Prop} (h:p:=by decide +kernel):p:=h
theorem hn {w:SB}{qs:List Qy} (hq:∀ q∈qs,aS K q=aT w q) (i:Nat) {a:Qy} (h:qs[i]?=XX a):aS K a=aT w a:=hq _ (nth i h)
def pJ (K:Rm) (mg:ZZ->Option Z1) (p:BT.FK×BT.Fn):Prop:=(∀ x,p.1=.f x->Def K mg x p.2)/\(∀ c m,p.1=.m c m->AY K mg c m p.2)/\∀ L,p.1=.l L->BT.mT L=XX p.2/\∃ ns bt,p.2=⟨ns,ns,.ret bt⟩/\∀ y,ns.contains (BT.bI y)=X0
theorem dd (d:Def K mg x fn):pJ K mg (.f x,fn):=⟨λy e=>by cases e;exact d,λc m e=>(by cases e),λL e=>by cases e⟩
theorem dm (d:AY K mg c m fn):pJ K mg (.m c m,fn):=⟨λy e=>(by cases e),λc m e=>by cases e;exact d,λL e=>by cases e⟩
theorem dl (h:BT.mT L=XX ⟨ns,ns,.ret bt⟩) (n:jv ns=XZ):pJ K mg (.l L,⟨ns,ns,.ret bt⟩):=⟨λy e=>(by cases e),λc m e=>(by cases e),λM e=>by cases e;exact ⟨h,ns,bt,rfl,iY n⟩⟩
section
variable {K:Rm}
theorem dd0 (X:K.In h) (G:h.Ns RE mg) (e:aS K (.fn x f st)=aT w (.fn x f st)) (c:CkB x x st fn) (tg:jv fn.ns=XZ:=by decide +kernel):pJ K mg (.f x,fn) :=
 dd (u5 X G e c.sc c.bd c.ck λ_ _ _=>iB tg)
theorem dm0 (X:K.In h) (G:h.Ns RE mg) (ec:aS K (.cls c C)=aT w (.cls c C)) (em:aS K (.mk C)=aT w (.mk C)) (e:aS K (.me C m x qual f st)=aT w (.me C m x qual f st)) (k:CkB x qual st fn) (tg:jv fn.ns=XZ:=by decide +kernel):pJ K mg (.m c m,fn) :=
 dm (FD X G ec em e k.sc k.bd k.ck tg)
end
structure FH (K:Rm) (tl:List (ZZ×Z0×Z0)):Prop where
 all:∀ z∈BT.dR,(∃ c P,(z,c,P)∈tl/\Sz K z=XX (c,P))\/Sz K z=XY
 hd:∀ q∈tl,U7 K q.2.1 q.2.2=XZ
theorem kK (e:aS K (.tab x c P)=aT w (.tab x c P)):Sz K x=XX (c,P)/\U7 K c P=XZ:=by simp only[aS,aT,Ov.b.injEq,Rn,decide_eq_true_eq] at e;exact e
theorem bK (e:aS K (.no x)=aT w (.no x)):Sz K x=XY:=by simp only[aS,aT,Ov.b.injEq,decide_eq_true_eq] at e;unfold Sz;rw[e]
theorem CH (h1:Sq K RE x=XX (XX (.ref f))) (h2:K.lookup f=XX ⟨oc,od,.func fd,sl⟩) (h:Sz K x=XX (c,P)):fd.code=.ref c:=by
 unfold Sz at h;rw[h1] at h;simp only[h2] at h;split at h
 ·rename_i c' hc;split at h
  ·split at h;cases h;exact hc;cases h
  cases h
 cases h
theorem JT (e:aS K (.bm b)=aT w (.bm b)):∃ bm ob,Sq K RE "__builtins__"=XX (XX (.ref bm))/\bm≠T6/\K.lookup bm=XX ob/\ob.cls=.type "module"/\ob.dict=XX T6/\ob.data=.plain:=by
 simp only[aS,aT,Ov.b.injEq,bmB,Rn,decide_eq_true_eq] at e;obtain ⟨⟨e1,e2⟩,e3⟩:=e;split at e3
 ·rename_i d sl l;exact ⟨b,_,e1,e2,l,rfl,congrArg XX (eq_of_beq e3),rfl⟩
 cases e3
noncomputable def tabsOk (tl:List (ZZ×Z0×Z0)):Bool:=tl.all λp=>tl.all λq=>!(p.2.2==q.2.2)||p.1==q.1
theorem wZ (hns:fn.ns=ns++[BT.bI x]) (h0:jv ns=XZ) (mem:x∈BT.dR) (hT:FH K tl) (hk:tabsOk tl=XZ) (hm:(x,c,P)∈tl) (et:aS K (.tab x c P)=aT w (.tab x c P)) (eb:aS K (.bm b)=aT w (.bm b)) :
 ∀ fd,Sq K RE x=XX (XX (.ref f))->(∃ oc od sl,K.lookup f=XX ⟨oc,od,.func fd,sl⟩)->gD K x fd fn:=λfd h1 ⟨oc,od,sl,h2⟩ y hy=>by
 obtain ⟨t1,t2⟩:=kK et;have e:y=x:=by
  have m:=List.contains_iff_mem.mp hy;rw[hns] at m;rcases List.mem_append.mp m with m|m
  ·have:=iY h0 y;rw[List.contains_iff_mem.mpr m] at this;cases this
  exact FA (by simpa using m)
 subst e;refine ⟨rfl,mem,⟨c,P,t1,CH h1 h2 t1,t2,λz hz c2 e2=>?_⟩,JT eb⟩;rcases hT.all z hz with ⟨c3,P3,m3,e3⟩|e3
 ·rw[e2] at e3;cases e3;have:=List.all_eq_true.mp (List.all_eq_true.mp hk _ m3) _ hm;simp only[beq_self_eq_true,WO,Bool.false_or] at this;exact eq_of_beq this
 rw[e2] at e3;cases e3
theorem u6 (e:K.lookup b=XX o):b∈K.map (·.1):=List.mem_map.mpr ⟨(b,o),PySem.W.mem_of_lookupK e,rfl⟩
theorem yT 
 (KX:K.In s₁.heap) (hns:s₁.heap.Ns RE mg) (hb:s₁.heap.Ns T6 mb) (hbb:∀ x:ZZ,x≠"__name__"->mb x=Vc x) (hlim:s₁.heap.NoLimit) (hg:s₁.gens=#[])
 (ha:s₁.heap.get? a=XX { cls:=.type "list",data:=.seq vs.toArray }) (hi:IntsAre vs ns) (hl:ns.length<=ZX) (hr:bG k XH)
 (hT:FH K tl) (hTs:∀ p∈tl,s₁.heap.get? p.2.2=XX (Ua #[])) (hTk:∀ p∈tl,K.lookup p.2.2=XY)
 (F:∀ base:Heap,cK P w K mg base CX0 k fa fd [x] sp) (hbind:∀ (s:Rv) (u:Z1),K.In s.heap->BindsTo s fd ⟨[u],[]⟩ [(x,u)])
 (hsp:∀ H:Hp,TB K H->LL K H a (ns.map V.int)->sp [.ref a] H (λv _=>v=.bl XZ) λ_ _ _=>False) :
 codeAny (RV P w) XH (.call (.ref fa) ⟨[.ref a],[]⟩) (λr s'=>r=.ok (.ret (.bool XZ))/\OldK s₁.heap s'.heap/\s'.os=s₁.os/\Wc s'.gens) s₁:=by
 have rv:=oU hi;have lenV:=hi.length;have tne:∀ p∈tl,p.2.2≠a:=λp hp z=>by have:=hTs p hp;rw[z,ha] at this;cases this
 let so:HO:=.frz { cls:=.type "list",data:=.seq vs.toArray } (.lst (ns.map V.int))
 let H:Hp:=λb=>if ∃ p∈tl,p.2.2=b then XX (.tbl #[]) else if b=a/\K.lookup a=XY then XX so else XY
 have Ht:∀ p∈tl,H p.2.2=XX (.tbl #[]):=λp hp=>if_pos ⟨p,hp,rfl⟩;have Hcase:∀ b u,H b=XX u->(∃ p∈tl,p.2.2=b/\u=.tbl #[])\/(b=a/\K.lookup a=XY/\u=so):=λb u e=>by
  by_cases c1:∃ p∈tl,p.2.2=b
  ·have e':XX (HO.tbl #[])=XX u:=(if_pos c1).symm.trans e;obtain ⟨p,hp,h2⟩:=c1;exact .inl ⟨p,hp,h2,(Ry e').symm⟩
  ·have e':(if b=a/\K.lookup a=XY then XX so else XY)=XX u:=(if_neg c1).symm.trans e
   by_cases c2:b=a/\K.lookup a=XY
   ·rw[if_pos c2] at e';exact .inr ⟨c2.1,c2.2,(Ry e').symm⟩
   rw[if_neg c2] at e';cases e'
 have noA:∀ {b:Z0}{o:Obj}{es:Array WZ}{ep:Nat},s₁.heap.get? b=XX o->o.data=.dict es ep->H b=XY:=λ{b o es ep} e d=>by
  cases q:H b with
  | none=>rfl
  | some u =>
   rcases Hcase b u q with ⟨p,hp,h2,_⟩|⟨h2,_⟩
   ·have z:=hTs p hp;rw[h2,e] at z;cases z;cases d
   ·rw[h2,ha] at e;cases e;have d':Data.seq vs.toArray _=Data.dict es ep:=d;cases d'
 have nsK:∀ {b:Z0}{m:ZZ->Option Z1},s₁.heap.Ns b m->(qS s₁.heap H).Ns b m:=λ{b m} ⟨o,es,ep,e,d,r⟩=>⟨o,es,ep,qT e (noA e d),d,r⟩;have hKb:K.In (qS s₁.heap H):=λb o e=>qT (KX b o e) (by
  cases q:H b with
  | none=>rfl
  | some u =>
   rcases Hcase b u q with ⟨p,hp,h2,_⟩|⟨h2,h3,_⟩
   rw[← h2,hTk p hp] at e;cases e
   ·rw[h2,h3] at e;cases e)
 have hM:Mod K mg (qS s₁.heap H):=⟨hKb,nsK hns,⟨mb,nsK hb,hbb⟩,let ⟨mc,h1,h2⟩:=hlim;⟨mc,nsK h1,h2⟩⟩;have hok:HOk P w H s₁.heap:=λb u e=>by
  rcases Hcase b u e with ⟨p,hp,h2,rfl⟩|⟨h2,_,rfl⟩
  subst h2;exact hTs p hp;subst h2;exact ⟨ha,by rw[RN];exact hl,vs,_,rv,ha⟩
 have e0:jN P w K mg (qS s₁.heap H) XH [] s₁ H:=⟨rfl,hM,λb o e=>C1 e,Nat.le_of_eq (xh _ _),trivial,λb hb=>absurd (show b∈([]:List Z0) from hb) (by simp),hok,.of_eq hg⟩;have tb:TB K H:=λz hz c Pt e=>by
  rcases hT.all z hz with ⟨c3,P3,m3,e3⟩|e3
  ·rw[e] at e3;cases e3;exact ⟨#[],Ht _ m3,trivial,λpos v q=>by cases q⟩
  rw[e] at e3;cases e3
 have hS:LL K H a (ns.map V.int):=by
  cases hk:K.lookup a with
  | some o =>
   have e:=KX a o hk;rw[ha] at e;cases e;exact .inr ⟨vs,_,hk,by rw[lenV];exact hl,rv⟩
  | none =>
   refine .inl (.inr ⟨{ cls:=.type "list",data:=.seq vs.toArray },?_⟩);have e1:H a=(if a=a/\K.lookup a=XY then XX so else XY):=if_neg λ⟨p,hp,z⟩=>tne p hp z;rw[e1,if_pos ⟨rfl,hk⟩]
 refine Uv ((F _).run XH [] s₁ H ⟨[.ref a],[]⟩ [.ref a] [.ref a] _ _ hr e0 (hbind s₁ (.ref a) KX) (.cons rfl .nil) (hsp H tb hS)) λr s' h=>?_;cases r with
 | error e=>exact Sa h
 | ok fl =>
  cases fl with
  | ret u =>
   obtain ⟨v,H',os,bare,un,hok',r',q⟩:=h;have q':v=.bl XZ:=q;subst q';obtain rfl:u=XI XZ:=r';have kp:∀ b o,s₁.heap.get? b=XX o->(s'.heap.get? b=XX o)\/∃ p∈tl,p.2.2=b/\∃ more,s'.heap.get? b=XX (Ua (#[]++more)):=λb o e=>by
    cases q:H b with
    | none=>exact .inl (un.keep b o e q (by intro z;exact absurd (show b∈([]:List Z0) from z) (by simp)) (by simp))
    | some u =>
     rcases Hcase b u q with ⟨p,hp,h2,rfl⟩|⟨h2,h3,rfl⟩
     ·obtain ⟨more,z⟩:=un.tbls b _ q;exact .inr ⟨p,hp,h2,more,hok' b _ z⟩
     ·have z2:=un.frzs b _ _ q;obtain ⟨e1,_⟩:=hok b _ q;obtain ⟨e2,_⟩:=hok' b _ z2;rw[e] at e1;cases e1;exact .inl e2
   refine ⟨rfl,⟨λb o e=>?_,λb o e=>?_⟩,os,bare⟩
   ·rcases kp b o e with z|⟨p,hp,rfl,more,z⟩
    exact .inl z
    ·have e2:=hTs p hp;rw[e] at e2;cases e2;have tA:=(UM KX (hT.hd p hp)).tab e;exact .inr (.inl ⟨tA.isCodeTable,rfl,#[],more,rfl,z⟩)
   ·rcases kp b o e with z|⟨p,hp,rfl,more,z⟩
    exact ⟨o,z⟩;exact ⟨_,z⟩
  | _=>exact Sa h
noncomputable def lu:List ZZ:=["NoMoment","NoRun","NoThing","NoText"]
theorem CJ (h:fO c=XZ):c∈lu:=by have:=List.contains_iff_mem.mp h;simp only[SX,SA,or_false] at this;simp only[lu,SX,SA,or_false];rcases this with h|h|h|h<;>simp[h]
theorem CK (h:fO cn=XZ):BT.mS c cn=(cn==c):=by
 have:=List.contains_iff_mem.mp h;simp only[SX,SA,or_false] at this;unfold BT.mS;have h1:(cn==("TapeError":ZZ))=X0:=by rcases this with rfl | rfl | rfl | rfl<;>decide
 have h2:(cn==("ValueError":ZZ))=X0:=by rcases this with rfl | rfl | rfl | rfl<;>decide
 rw[h1,h2,Vf,Vf]
theorem tO {xs:List (ZZ×Z0)} (h:xs.map (·.1)=lu) {c:ZZ} (hc:fO c=XZ):∃ C,(c,C)∈xs:=by have:=CJ hc;rw[← h] at this;obtain ⟨p,hp,rfl⟩:=List.mem_map.mp this;exact ⟨p.2,hp⟩
section
variable {K:Rm}{D:Z0}
theorem i6 (e:CZ K c C=XZ):CN K c C/\nv K C:=by unfold CZ at e;obtain ⟨e1,e2⟩:=Bool.and_eq_true_iff.mp e;exact ⟨of_decide_eq_true (p:=Sq K RE c=XX (XX (.ref C))) e1,⟨e2⟩⟩
theorem w6 (e:aS K (.exc D xs)=aT w (.exc D xs)) (hx:xs.map (·.1)=lu):Mx K D/\nv K D/\CN K "TapeError" D:=by simp only[aS,aT,Ov.b.injEq] at e;unfold Ku at e;obtain ⟨e1,e2⟩:=Bool.and_eq_true_iff.mp e;have e3:=List.all_eq_true.mp e2;refine ⟨⟨λc hc=>?_⟩,(i6 e1).2,(i6 e1).1⟩;obtain ⟨C,hm⟩:=tO hx hc;have q:=e3 _ hm;unfold GN at q;simp only[Rn,decide_eq_true_eq] at q;obtain ⟨⟨⟨⟨⟨⟨⟨⟨⟨⟨⟨q1,q2⟩,q3⟩,q4⟩,q5⟩,q6⟩,q7⟩,q8⟩,q9⟩,q10⟩,q11⟩,q12⟩:=q;refine ⟨C,(i6 q1).1,⟨q3,q4,q5,q6,q7,q8,q9,q10,λcn hcn=>?_,q11⟩,(i6 q1).2,q2⟩;obtain ⟨D',hm'⟩:=tO hx hcn;have z:=List.all_eq_true.mp q12 _ hm';have z2:=e3 _ hm';unfold GN at z2;simp only[Rn] at z2;refine ⟨D',(i6 z2.1.1.1.1.1.1.1.1.1.1.1).1,?_⟩;rw[CK hcn];exact of_decide_eq_true z
theorem tP (ec:aS K (.cls c C)=aT w (.cls c C)) (e:aS K (.me C m x qual f st)=aT w (.me C m x qual f st))
 (ck:eg (aa st) fn.ns XZ fn.body (aq st)) (sc:aO fn.ns fn.ps (aa st):=by constructor<;>first|rfl|decide +kernel) (hb:BdT x qual st fn:=by intro _ _ _ _ _ _ us hl;first|(obtain ⟨a0,a1,rfl⟩:=yR hl;rfl)|(obtain ⟨a0,rfl⟩:=FG hl;rfl)|(obtain ⟨a0,a1,a2,rfl⟩:=yS hl;rfl)|(obtain ⟨a0,a1,a2,a3,rfl⟩:=CG hl;rfl)) (tg:jv fn.ns=XZ:=by decide +kernel):sA K c m fn:=by
 have hC:=tN ec;simp only[aS,aT,Ov.fn.injEq] at e;obtain ⟨e1,e2⟩:=e;obtain ⟨fd,F,kV,doc,pm,an,cdv,ct,rfl⟩:=lq e2;have e1':meB K C m f=XZ:=by
  cases q:meB K C m f with
  | true=>rfl| false=>rw[q] at e1;cases e1
 simp only[meB,Rn,decide_eq_true_eq] at e1';exact ⟨C,f,_,x,qual,st,hC,⟨e1'.1,e1'.2,F.kp⟩,F,sc,F.binds hb,ck,iB tg⟩
theorem jk (X:K.In h) (G:h.Ns RE mg) (e:aS K (.fn x f st)=aT w (.fn x f st))
 (k:CkB x x st fn) (ck:eg (aa st) fn.ns XZ b (aq st))
 (tg:∀ fd,Sq K RE x=XX (XX (.ref f))->(∃ oc od sl,K.lookup f=XX ⟨oc,od,.func fd,sl⟩)->gD K x fd fn):Bc K mg x ⟨fn.ps,fn.ns,b⟩:=by
 simp only[aS,aT,Ov.fn.injEq] at e;obtain ⟨fd,F,kV,doc,pm,an,cdv,ct,rfl⟩:=lq e.2;refine ⟨f,_,st,Su X G (iZ e.1),F,k.sc,F.binds k.bd,ck,tg _ (iZ e.1) ?_⟩;obtain ⟨oc,od,kV,doc,pm,an,cdv,ct,osl,e1,lk,_⟩:=F.ex;exact ⟨oc,od,osl,lk⟩
theorem FI (X:K.In h) (Gh:h.Ns RE mg) (e:aS K (.exc D xs)=aT w (.exc D xs)) (hx:xs.map (·.1)=lu) (df:∀ x fn,TX (.f x)=XX fn->Bc K mg x fn) (me:∀ c m fn,TX (.m c m)=XX fn->sA K c m fn):yv K mg TX :=
 ⟨df,me,λc hc=>by obtain ⟨C,h1,_,h3,_⟩:=(w6 e hx).1.all c hc;exact ⟨C,h1,Su X Gh h1,h3⟩⟩
noncomputable def FJ:List V0->List V0
 | [.Try b _ _ _ _]=>b| _=>[]
theorem CM (X:K.In h) (Gh:h.Ns RE mg) (XT:Txt P w K mg T G) (YT:yv K mg TX) (e:aS K (.exc D xs)=aT w (.exc D xs)) (hx:xs.map (·.1)=lu)
 {k i:Nat} (et:aS K (.fn tn f st)=aT w (.fn tn f st)) (er:aS K (.fn rn fr str)=aT w (.fn rn fr str))
 (hB:aq st=[.Try (FJ (aq st)) [.ExceptHandler (XX (.Name "TapeError" p1)) (XX n) [.Return (XX (.Call (.Name rn p2) [.Name n p3] [] p5)) p6] hp] [] [] pos])
 (h6:eg (aa st) fn.ns X0 fn.body (FJ (aq st))) (hi:fn.ns[i]?=XX n) (hln:(aa st).names.lookup n=XX .local)
 (hgD:aA (aa st) "TapeError"=XZ) (hgR:aA (aa st) rn=XZ) (kr:CkB rn rn str fnr)
 (h5:CSs (aa st) fn.ns fn.body (FJ (aq st)):=by repeat' (first|rfl|constructor|decide +kernel)) (s3:aO fn.ns fn.ps (aa st):=by constructor<;>first|rfl|decide +kernel)
 (hb:BdT tn tn st fn:=by intro _ _ _ _ _ _ us hl;first|(obtain ⟨a0,a1,rfl⟩:=yR hl;rfl)|(obtain ⟨a0,a1,a2,rfl⟩:=yS hl;rfl)|(obtain ⟨a0,a1,a2,a3,rfl⟩:=CG hl;rfl))
 (tg:jv fn.ns=XZ:=by decide +kernel) (okn:aB n=XZ:=by decide +kernel) (okR:aB rn=XZ:=by decide +kernel) (tgr:jv fnr.ns=XZ:=by decide +kernel) (hur:bV fnr.ns=X0:=by decide +kernel) :
 ∃ fa fd ps,mg tn=XX (.ref fa)/\Sd K (.ref fa)=XZ/\Binds K fd ps []/\∀ base,cK P w K mg base CX0 (2*(k+1)) fa fd ps (spF P w K (ku (BT.runN T G k) (BT.dh T TX G k) (BT.dk T) G fn fnr)):=by
 obtain ⟨z1,z2,z3⟩:=w6 e hx;simp only[aS,aT,Ov.fn.injEq] at et er;obtain ⟨fd,F,kV,doc,pm,an,cdv,ct,rfl⟩:=lq et.2;obtain ⟨fdr,FR,kVr,docr,pmr,anr,cdvr,ctr,rfl⟩:=lq er.2;refine ⟨f,_,fn.ps,Su X Gh (iZ et.1),F.kp,F.binds hb,λbase=>?_⟩;exact Bj XT YT z1 F s3 hB h5 h6 (iY tg) hi hln okn hgD (by decide) (Su X Gh z3) z2 hgR okR (Su X Gh (iZ er.1)) FR.kp (FR.binds kr.bd) (Jk (k:=0) XT.blt FR kr.sc kr.ck hur (iY tgr))
end
theorem CO {l:PySem.W.OpenLaw}{n k:Nat}{q:Se}{loose:List ZZ}{XP:(ZZ->Option Z1)->Heap->Prop}{d:DefRec}{as:List Z0}{qs:List Qy}{ts:List Z0}{tl:List (ZZ×Z0×Z0)}{T:BT.FK->Option BT.Fn}{G:ZZ->Option BT.W}{fn:BT.Fn}{x tn:ZZ}{told:List BT.W->BT.HH->Option (BT.W×BT.HH)}
 (hn:l.most=XX n) (hn2:n<=ZX) (hdf:d.params.defaults=[]) (hr:bG (2*k+1+1) XH) (hps:fn.ps=[x]) (hT:T (.f d.name)=XX fn) (hts:ts=tl.map (·.2.2)) (hto:tl.all (λp=>!as.contains p.2.2)=XZ)
 (FT:∀ (w:SB) (K:Rm),(∀ q∈qs,aS K q=aT w q)->FH K tl)
 (F:∀ (P:Se) (w:SB) (mg:ZZ->Option Z1) (K:Rm) (h:Heap),K.In h->h.Ns RE mg->(∀ q∈qs,aS K q=aT w q)->Txt P w K mg T G)
 (FX:∀ (P:Se) (w:SB) (mg:ZZ->Option Z1) (K:Rm) (h:Heap),K.In h->h.Ns RE mg->(∀ q∈qs,aS K q=aT w q)->∃ fa fd ps,mg tn=XX (.ref fa)/\Sd K (.ref fa)=XZ/\Binds K fd ps []/\∀ base,cK P w K mg base CX0 (2*k) fa fd ps (spF P w K told))
 (hrun:∀ ns:List Int,ns.length<=n->∃ h',lO (kq tn told (BT.runN T G k)) G fn [.p (.lst (BT.af ns))] []=XX (.p (.bl XZ),h')) :
 PySem.W.WalkO q loose XP (sees as qs ts).says l.row.toRowW d [] (λf vs=>XJ f vs):=by
 refine Att.rG hn hdf λw s₀ s₁ mg mb fa o pm cd doc a vs ns Gr Y ho hd hcd hmg hobj hints hlen hg=>?_;obtain ⟨K,k0,k1,k2,k3⟩:=Y;have KX:=Fz k1;have X:=F l.prog w mg K s₁.heap KX Gr.T.g k2;obtain ⟨fa',fd',ps',t1,t2,t3,t4⟩:=FX l.prog w mg K s₁.heap KX Gr.T.g k2;obtain ⟨f,fd,st,h1,h2,h3,h4,h5,h6⟩:=(X.defs _ fn hT).ex;rw[hmg] at h1;cases h1;refine yT (sp:=spF l.prog w K (lO (kq tn told (BT.runN T G k)) G fn)) (x:=x) (k:=2*k+1+1) (fd:=fd) (tl:=tl) KX Gr.T.g Gr.T.b Gr.T.builtins Gr.T.nolimit hg hobj hints (Sj hlen hn2) hr (FT w K k2) (λp hp=>k3 _ (by rw[hts];exact Xq hp)) (λp hp=>?_) (λbase=>?_) (λs u hK=>?_) (λH tb hS=>Cz tb hS (hrun ns hlen))
 ·cases e:K.lookup p.2.2 with
  | none=>rfl
  | some o =>
   have m:=u6 e;rw[k0] at m;have:=List.all_eq_true.mp hto p hp;rw[List.contains_iff_mem.mpr m] at this;cases this
 ·have:=Bf (base:=base) X k h2 h3 h5 h6 t1 t2 t3 (t4 base);rw[hps] at this;exact this
 ·have:=h4 s [u] hK (by rw[hps];rfl);rw[hps] at this;exact this
end BG
end
section
namespace BL
open PySem PySem.Spec PyProof.Rows L2 BS BF BG
theorem P9:CkB "is_whole" "is_whole" (top 12) BT.fX:={}
theorem Qa:CkB "is_name" "is_name" (top 13) BT.gU:={}
theorem Qc:CkB "inner_sums" "inner_sums" (top 15) BT.cz:={}
theorem Qd:CkB "begun" "begun" (top 24) BT.kB:={}
theorem Qe:CkB "worth_in" "worth_in" (top 26) BT.fV:={}
theorem Qf:CkB "laid_out" "laid_out" (top 27) BT.fU:={}
theorem Qg:CkB "of_two" "of_two" (top 28) BT.ji:={}
theorem Qh:CkB "worth_of" "worth_of" (top 29) BT.bY:={}
theorem Qi:CkB "reckoned" "reckoned" (top 30) BT.fW:={}
theorem Qj:CkB "cell_by" "cell_by" (top 31) BT.gV:={}
theorem Qk:CkB "is_over" "is_over" (top 32) BT.fu:={}
theorem Ql:CkB "place_behind" "place_behind" (top 33) BT.cG:={}
theorem Qm:CkB "with_worth" "with_worth" (top 34) BT.dW:={}
theorem Qn:CkB "with_name" "with_name" (top 35) BT.eV:={}
theorem Qo:CkB "brought" "brought" (top 36) BT.fy:={}
theorem Qp:CkB "stepped" "stepped" (top 37) BT.gW:={}
theorem Qq:CkB "open_in" "open_in" (top 39) BT.ig:={}
theorem M5:CkB "depth" "depth" (top 40) BT.cC:={}
theorem JU:CkB "next_within" "next_within" (top 41) BT.bx:={}
theorem JV:CkB "last_within" "last_within" (top 42) BT.bz:={}
theorem M6:CkB "over" "over" (top 43) BT.fZ:={}
theorem M7:CkB "out" "out" (top 44) BT.iV:={}
theorem M8:CkB "back_over" "back_over" (top 45) BT.bD:={}
theorem M9:CkB "back_out" "back_out" (top 46) BT.bO:={}
theorem Qs:CkB "calls" "calls" (top 47) BT.kI:={}
theorem Na:CkB "open_calls" "open_calls" (top 48) BT.aN:={}
theorem Qt:CkB "_law_cell" "_law_cell" (top 53) BT.eB:={}
theorem Qu:CkB "_law_drawn" "_law_drawn" (top 54) BT.eW:={}
theorem Qv:CkB "_law_sum" "_law_sum" (top 55) BT.cR:={}
theorem Qw:CkB "_law_row" "_law_row" (top 56) BT.gY:={}
theorem Qx:CkB "_law_program" "_law_program" (top 57) BT.aW:={}
theorem Qz:CkB "_law_asked" "_law_asked" (top 58) BT.eX:={}
theorem QA:CkB "_law_worth" "_law_worth" (top 59) BT.iy:={}
theorem QB:CkB "_law_is_over" "_law_is_over" (top 60) BT.fE:={}
theorem QC:CkB "_law_write" "_law_write" (top 61) BT.iz:={}
theorem QD:CkB "_law_put" "_law_put" (top 62) BT.nK:={}
theorem QE:CkB "_law_step" "_law_step" (top 63) BT.iW:={}
theorem QF:CkB "_law_states" "_law_states" (top 64) BT.dY:={}
theorem Nb:CkB "_law_refused" "_law_refused" (top 65) BT.b7:={}
theorem QG:CkB "_law_calling" "_law_calling" (top 66) BT.bT:={}
theorem QH:CkB "law" "law" (top 68) BT.fF:={}
theorem JW:CkB "__init__" "Tape.__init__" (c7 51 0) BT.eY:={}
theorem JX:CkB "at" "Tape.at" (c7 51 1) BT.fC:={}
theorem JY:CkB "end" "Tape.end" (c7 51 2) BT.fY:={}
theorem FM:CkB "behind" "Tape.behind" (c7 51 10) BT.dD:={}
theorem FN:CkB "is_last" "Tape.is_last" (c7 51 11) BT.bS:={}
theorem FO:CkB "keep" "Tape.keep" (c7 51 12) BT.dF:={}
theorem FP:CkB "reach" "Tape.reach" (c7 51 13) BT.dX:={}
theorem FQ:CkB "has" "Tape.has" (c7 51 14) BT.bZ:={}
theorem FU:CkB "check" "Tape.check" (c7 51 15) BT.cB:={}
theorem FW:CkB "readings" "Tape.readings" (c7 51 16) BT.cg:={}
theorem FY:CkB "first_from" "Tape.first_from" (c7 51 18) BT.bQ:={}
theorem FZ:CkB "last_to" "Tape.last_to" (c7 51 19) BT.cJ:={}
theorem F3:CkB "last_between" "Tape.last_between" (c7 51 20) BT.bC:={}
noncomputable def tab:List (BT.FK×BT.Fn):=[(.f "is_whole",BT.fX),(.f "is_name",BT.gU),(.f "inner_sums",BT.cz),(.f "begun",BT.kB),(.f "worth_in",BT.fV),(.f "laid_out",BT.fU),(.f "of_two",BT.ji),(.f "worth_of",BT.bY),(.f "reckoned",BT.fW),(.f "cell_by",BT.gV),(.f "is_over",BT.fu),(.f "place_behind",BT.cG),(.f "with_worth",BT.dW),(.f "with_name",BT.eV),(.f "brought",BT.fy),(.f "stepped",BT.gW),(.f "open_in",BT.ig),(.f "depth",BT.cC),(.f "next_within",BT.bx),(.f "last_within",BT.bz),(.f "over",BT.fZ),(.f "out",BT.iV),(.f "back_over",BT.bD),(.f "back_out",BT.bO),(.f "calls",BT.kI),(.f "open_calls",BT.aN),(.f "_law_cell",BT.eB),(.f "_law_drawn",BT.eW),(.f "_law_sum",BT.cR),(.f "_law_row",BT.gY),(.f "_law_program",BT.aW),(.f "_law_asked",BT.eX),(.f "_law_worth",BT.iy),(.f "_law_is_over",BT.fE),(.f "_law_write",BT.iz),(.f "_law_put",BT.nK),(.f "_law_step",BT.iW),(.f "_law_states",BT.dY),(.f "_law_refused",BT.b7),(.f "_law_calling",BT.bT),(.f "law",BT.fF),(.m "Tape" "__init__",BT.eY),(.m "Tape" "at",BT.fC),(.m "Tape" "end",BT.fY),(.m "Tape" "behind",BT.dD),(.m "Tape" "is_last",BT.bS),(.m "Tape" "keep",BT.dF),(.m "Tape" "reach",BT.dX),(.m "Tape" "has",BT.bZ),(.m "Tape" "check",BT.cB),(.m "Tape" "readings",BT.cg),(.m "Tape" "first_from",BT.bQ),(.m "Tape" "last_to",BT.cJ),(.m "Tape" "last_between",BT.bC),(.l 9,BT.DM),(.l 10,BT.vD)]
noncomputable def glo:List (ZZ×BT.W):=[("CELL_COUNT",.p (.int 4)),("WORTH_COUNT",.p (.int 10007)),("ROW",.p (.int 0)),("NAMES",.p (.int 1)),("CELLS",.p (.int 2)),("CALLS",.p (.int 3)),("ASKED",.p (.int 4)),("SAID",.p (.int 5)),("MOST_CALLS",.p (.int 6)),("MOST_MARKS",.p (.int 8)),("LETTERS",.p (.tup ((["a","b","c","d","e","f"]:List ZZ).map BT.D.str))),("open_in",.c (.f "open_in") []),("INNER_COUNTS",.k (([("num",0),("name",0),("cell",1),("add",2),("sub",2),("mul",2),("less",2)]:List (ZZ×Int)).map λq=>(q.1,BT.D.int q.2)))]
noncomputable abbrev T:BT.FK->Option BT.Fn:=look tab
noncomputable abbrev G:ZZ->Option BT.W:=look glo
noncomputable def CP:List (BT.FK×BT.Fn):=[(.m "Tape" "check",BT.iX),(.m "Tape" "at",BT.tE),(.f "depth",BT.cC),(.f "over",BT.fZ),(.f "out",BT.iV),(.f "back_over",BT.bD),(.f "back_out",BT.bO),(.f "open_calls",BT.aN)]
noncomputable abbrev TX:BT.FK->Option BT.Fn:=look CP
theorem prg:BT.Prg T G:=⟨rfl,rfl,rfl,rfl,rfl,rfl,rfl,rfl,rfl,rfl,rfl,rfl,rfl,rfl,rfl,rfl,rfl,rfl,rfl,rfl,rfl,rfl,rfl,rfl,rfl,rfl⟩
theorem tpp:BT.TpP T G:=⟨prg,rfl,rfl,rfl,rfl,rfl,rfl,rfl,rfl,rfl,rfl⟩
theorem QI:BT.qO T TX G:=⟨⟨rfl,rfl,rfl,rfl,rfl⟩,rfl,rfl,⟨rfl,rfl,rfl,⟨_,rfl⟩,rfl,rfl⟩,⟨rfl⟩,⟨⟨rfl⟩,⟨rfl,rfl⟩⟩,⟨rfl⟩,⟨rfl,rfl,rfl,rfl,rfl,rfl⟩,⟨rfl,rfl,rfl,rfl⟩,⟨rfl,rfl,rfl⟩,⟨rfl,rfl⟩,⟨rfl,rfl,rfl,rfl,rfl,rfl⟩⟩
theorem run (ns:List Int) (h:ns.length<=1000):∃ h',lO (kq "_law_told" (BT.iA T TX G 39) (BT.runN T G 40)) G BT.fF [.p (.lst (BT.af ns))] []=XX (.p (.bl XZ),h') :=
 BT.yO (T:=T) (TX:=TX) (G:=G) (k:=22) (F:=kq "_law_told" (BT.iA T TX G 39) (BT.runN T G 40)) tpp QI ⟨λ_ _=>rfl,λy hy=>v9 hy,sC⟩ ns h
theorem Nc (w:SB) (K:Rm) (hq:∀ q∈qys,aS K q=aT w q):FH K tl:=by
 refine ⟨λz hz=>?_,λp hp=>?_⟩
 ·simp only[BT.dR,SX,SA,or_false] at hz;rcases hz with rfl|rfl|rfl|rfl|rfl|rfl|rfl|rfl|rfl|rfl|rfl|rfl|rfl|rfl|rfl
  exact .inr (bK (w:=w) (hn hq 73 rfl));exact .inr (bK (w:=w) (hn hq 74 rfl));exact .inr (bK (w:=w) (hn hq 75 rfl));exact .inr (bK (w:=w) (hn hq 76 rfl));exact .inr (bK (w:=w) (hn hq 77 rfl));exact .inr (bK (w:=w) (hn hq 78 rfl));exact .inr (bK (w:=w) (hn hq 79 rfl));exact .inr (bK (w:=w) (hn hq 80 rfl));exact .inr (bK (w:=w) (hn hq 81 rfl));exact .inl ⟨230,226,nth 0 rfl,(kK (w:=w) (hn hq 82 rfl)).1⟩;exact .inl ⟨237,233,nth 1 rfl,(kK (w:=w) (hn hq 83 rfl)).1⟩;exact .inr (bK (w:=w) (hn hq 84 rfl));exact .inr (bK (w:=w) (hn hq 85 rfl));exact .inr (bK (w:=w) (hn hq 86 rfl));exact .inr (bK (w:=w) (hn hq 87 rfl))
 ·simp only[tl,SX,SA,or_false] at hp;rcases hp with rfl|rfl
  exact (kK (w:=w) (hn hq 82 rfl)).2;exact (kK (w:=w) (hn hq 83 rfl)).2
theorem txt (P:Se) (w:SB) (mg:ZZ->Option Z1) (K:Rm) (h:Heap) (X:K.In h) (Gh:h.Ns RE mg) (hq:∀ q∈qys,aS K q=aT w q):Txt P w K mg T G:=by
 have tbf:=Nc w K hq;have all:∀ p∈tab,pJ K mg p:=by
  intro p hp;simp only[tab,SX,SA,or_false] at hp;rcases hp with rfl|rfl|rfl|rfl|rfl|rfl|rfl|rfl|rfl|rfl|rfl|rfl|rfl|rfl|rfl|rfl|rfl|rfl|rfl|rfl|rfl|rfl|rfl|rfl|rfl|rfl|rfl|rfl|rfl|rfl|rfl|rfl|rfl|rfl|rfl|rfl|rfl|rfl|rfl|rfl|rfl|rfl|rfl|rfl|rfl|rfl|rfl|rfl|rfl|rfl|rfl|rfl|rfl|rfl|rfl|rfl
  exact dd0 X Gh (hn hq 0 rfl) P9;exact dd0 X Gh (hn hq 1 rfl) Qa;exact dd0 X Gh (hn hq 2 rfl) Qc;exact dd0 X Gh (hn hq 3 rfl) Qd;exact dd0 X Gh (hn hq 4 rfl) Qe;exact dd0 X Gh (hn hq 5 rfl) Qf;exact dd0 X Gh (hn hq 6 rfl) Qg;exact dd0 X Gh (hn hq 7 rfl) Qh;exact dd0 X Gh (hn hq 8 rfl) Qi;exact dd0 X Gh (hn hq 9 rfl) Qj;exact dd0 X Gh (hn hq 10 rfl) Qk;exact dd0 X Gh (hn hq 11 rfl) Ql;exact dd0 X Gh (hn hq 12 rfl) Qm;exact dd0 X Gh (hn hq 13 rfl) Qn;exact dd0 X Gh (hn hq 14 rfl) Qo;exact dd0 X Gh (hn hq 15 rfl) Qp;exact dd0 X Gh (hn hq 16 rfl) Qq;exact dd0 X Gh (hn hq 17 rfl) M5;exact dd (u5 X Gh (hn hq 18 rfl) JU.sc JU.bd JU.ck (wZ (f:=231) (ns:=BT.bx.ns.dropLast) dk dk dk tbf dk (nth 0 rfl) (hn hq 82 rfl) (hn hq 88 rfl)));exact dd (u5 X Gh (hn hq 19 rfl) JV.sc JV.bd JV.ck (wZ (f:=238) (ns:=BT.bz.ns.dropLast) dk dk dk tbf dk (nth 1 rfl) (hn hq 83 rfl) (hn hq 88 rfl)));exact dd0 X Gh (hn hq 20 rfl) M6;exact dd0 X Gh (hn hq 21 rfl) M7;exact dd0 X Gh (hn hq 22 rfl) M8;exact dd0 X Gh (hn hq 23 rfl) M9;exact dd0 X Gh (hn hq 24 rfl) Qs;exact dd0 X Gh (hn hq 25 rfl) Na;exact dd0 X Gh (hn hq 26 rfl) Qt;exact dd0 X Gh (hn hq 27 rfl) Qu;exact dd0 X Gh (hn hq 28 rfl) Qv;exact dd0 X Gh (hn hq 29 rfl) Qw;exact dd0 X Gh (hn hq 30 rfl) Qx;exact dd0 X Gh (hn hq 31 rfl) Qz;exact dd0 X Gh (hn hq 32 rfl) QA;exact dd0 X Gh (hn hq 33 rfl) QB;exact dd0 X Gh (hn hq 34 rfl) QC;exact dd0 X Gh (hn hq 35 rfl) QD;exact dd0 X Gh (hn hq 36 rfl) QE;exact dd0 X Gh (hn hq 37 rfl) QF;exact dd0 X Gh (hn hq 38 rfl) Nb;exact dd0 X Gh (hn hq 39 rfl) QG;exact dd0 X Gh (hn hq 40 rfl) QH;exact dm0 X Gh (hn hq 90 rfl) (hn hq 91 rfl) (hn hq 92 rfl) JW;exact dm0 X Gh (hn hq 90 rfl) (hn hq 91 rfl) (hn hq 93 rfl) JX;exact dm0 X Gh (hn hq 90 rfl) (hn hq 91 rfl) (hn hq 94 rfl) JY;exact dm0 X Gh (hn hq 90 rfl) (hn hq 91 rfl) (hn hq 95 rfl) FM;exact dm0 X Gh (hn hq 90 rfl) (hn hq 91 rfl) (hn hq 96 rfl) FN;exact dm0 X Gh (hn hq 90 rfl) (hn hq 91 rfl) (hn hq 97 rfl) FO;exact dm0 X Gh (hn hq 90 rfl) (hn hq 91 rfl) (hn hq 98 rfl) FP;exact dm0 X Gh (hn hq 90 rfl) (hn hq 91 rfl) (hn hq 99 rfl) FQ;exact dm0 X Gh (hn hq 90 rfl) (hn hq 91 rfl) (hn hq 100 rfl) FU;exact dm0 X Gh (hn hq 90 rfl) (hn hq 91 rfl) (hn hq 101 rfl) FW;exact dm0 X Gh (hn hq 90 rfl) (hn hq 91 rfl) (hn hq 102 rfl) FY;exact dm0 X Gh (hn hq 90 rfl) (hn hq 91 rfl) (hn hq 103 rfl) FZ;exact dm0 X Gh (hn hq 90 rfl) (hn hq 91 rfl) (hn hq 104 rfl) F3;exact dl rfl (by decide +kernel);exact dl rfl (by decide +kernel)
 refine ⟨λx fn e=>?_,λc m fn e=>?_,λL fn e=>?_,λx z e=>?_,λx hx=>?_⟩;exact fG (Q:=λk fn=>∀ x,k=.f x->Def K mg x fn) (l:=tab) (λp hp=>(all p hp).1) e x rfl;exact fG (Q:=λk fn=>∀ c m,k=.m c m->AY K mg c m fn) (l:=tab) (λp hp=>(all p hp).2.1) e c m rfl;exact fG (Q:=λk fn=>∀ L,k=.l L->BT.mT L=XX fn/\∃ ns bt,fn=⟨ns,ns,.ret bt⟩/\∀ y,ns.contains (BT.bI y)=X0) (l:=tab) (λp hp=>(all p hp).2.2) e L rfl
 ·refine fG (Q:=λx z=>tM P w K mg x z) (l:=glo) (λp hp=>?_) e;simp only[glo,SX,SA,or_false] at hp;rcases hp with rfl|rfl|rfl|rfl|rfl|rfl|rfl|rfl|rfl|rfl|rfl|rfl|rfl
  exact cD X Gh (hn hq 41 rfl);exact cD X Gh (hn hq 42 rfl);exact cD X Gh (hn hq 43 rfl);exact cD X Gh (hn hq 44 rfl);exact cD X Gh (hn hq 45 rfl);exact cD X Gh (hn hq 46 rfl);exact cD X Gh (hn hq 47 rfl);exact cD X Gh (hn hq 48 rfl);exact cD X Gh (hn hq 49 rfl);exact cD X Gh (hn hq 50 rfl);exact CD X Gh (hn hq 51 rfl) (by decide) (by decide +kernel);exact FE X Gh (hn hq 89 rfl);exact CF X Gh (hn hq 52 rfl) (by decide) (by decide +kernel)
 ·simp only[DU,SX,SA,or_false] at hx;rcases hx with rfl|rfl|rfl|rfl|rfl|rfl|rfl|rfl|rfl|rfl|rfl|rfl|rfl|rfl|rfl|rfl|rfl|rfl|rfl|rfl
  exact none_of X Gh (hn hq 53 rfl);exact none_of X Gh (hn hq 54 rfl);exact none_of X Gh (hn hq 55 rfl);exact none_of X Gh (hn hq 56 rfl);exact none_of X Gh (hn hq 57 rfl);exact none_of X Gh (hn hq 58 rfl);exact none_of X Gh (hn hq 59 rfl);exact none_of X Gh (hn hq 60 rfl);exact none_of X Gh (hn hq 61 rfl);exact none_of X Gh (hn hq 62 rfl);exact none_of X Gh (hn hq 63 rfl);exact none_of X Gh (hn hq 64 rfl);exact none_of X Gh (hn hq 65 rfl);exact none_of X Gh (hn hq 66 rfl);exact none_of X Gh (hn hq 67 rfl);exact none_of X Gh (hn hq 68 rfl);exact none_of X Gh (hn hq 69 rfl);exact none_of X Gh (hn hq 70 rfl);exact none_of X Gh (hn hq 71 rfl);exact none_of X Gh (hn hq 72 rfl)
theorem cxT:eg (aa (top 67)) BT.gk.ns X0 BT.gk.body (FJ (aq (top 67))):=.cons ce (.ife rfl ce (.one (.ret (.call rfl (by decide +kernel) ce (.cons rfl ce (.no rfl) (.cons rfl ce (.no rfl) .nil))))) .nil) (.cons ce (.ife rfl ce (.one (.ret (.call rfl (by decide +kernel) ce (.cons rfl ce (.no rfl) (.cons rfl ce (.no rfl) .nil))))) .nil) (.cons ce (.ife rfl ce (.one (.ret (.call rfl (by decide +kernel) ce (.cons rfl ce (.no rfl) (.cons rfl ce (.no rfl) .nil))))) .nil) (.cons ce (.ife rfl ce (.one (.ret (.call rfl (by decide +kernel) ce (.cons rfl ce (.no rfl) (.cons rfl ce (.no rfl) .nil))))) .nil) (.one (.ret (.ite rfl ce (.call rfl (by decide +kernel) ce (.cons rfl ce (.no rfl) (.cons rfl ce (.no rfl) .nil))) (.call rfl (by decide +kernel) ce (.cons rfl ce (.no rfl) (.cons rfl ce (.no rfl) .nil)))))))))
theorem F5:eg (aa (c7 51 15)) BT.iX.ns XZ BT.iX.body (aq (c7 51 15)):=.one (.ife rfl ce (.one (.rai rfl rfl rfl rfl rfl (by decide +kernel) ce)) .nil)
theorem JZ:eg (aa (c7 51 1)) BT.tE.ns XZ BT.tE.body (aq (c7 51 1)):=.cons ce (.ex rfl (.meth rfl rfl (by decide) ce ce)) .bads
theorem QJ:eg (aa (top 40)) BT.cC.ns XZ BT.cC.body (aq (top 40)):=.one (.ret (.call rfl (by decide +kernel) ce (.cons rfl ce (.meth rfl rfl (by decide) ce ce) .nil)))
theorem QK:eg (aa (top 43)) BT.fZ.ns XZ BT.fZ.body (aq (top 43)):=.one (.ret (.call rfl (by decide +kernel) ce (.cons rfl ce (.no rfl) (.cons rfl ce (.no rfl) (.cons rfl ce (.call rfl (by decide +kernel) ce (.cons rfl ce (.no rfl) (.cons rfl ce (.no rfl) .nil))) .nil)))))
theorem QL:eg (aa (top 44)) BT.iV.ns XZ BT.iV.body (aq (top 44)):=.one (.ret (.call rfl (by decide +kernel) ce (.cons rfl ce (.no rfl) (.cons rfl ce (.no rfl) (.cons rfl ce (.bin (.call rfl (by decide +kernel) ce (.cons rfl ce (.no rfl) (.cons rfl ce (.no rfl) .nil)))) .nil)))))
theorem QM:eg (aa (top 45)) BT.bD.ns XZ BT.bD.body (aq (top 45)):=.one (.ret (.call rfl (by decide +kernel) ce (.cons rfl ce (.no rfl) (.cons rfl ce (.no rfl) (.cons rfl ce (.call rfl (by decide +kernel) ce (.cons rfl ce (.no rfl) (.cons rfl ce (.no rfl) .nil))) .nil)))))
theorem QN:eg (aa (top 46)) BT.bO.ns XZ BT.bO.body (aq (top 46)):=.one (.ret (.call rfl (by decide +kernel) ce (.cons rfl ce (.no rfl) (.cons rfl ce (.no rfl) (.cons rfl ce (.bin (.call rfl (by decide +kernel) ce (.cons rfl ce (.no rfl) (.cons rfl ce (.no rfl) .nil)))) .nil)))))
theorem QO:eg (aa (top 48)) BT.aN.ns XZ BT.aN.body (aq (top 48)):=.cons ce (.set rfl) (.cons ce (.set rfl) (.cons ce (.whl rfl (.call rfl (by decide +kernel) ce (.cons rfl ce (.no rfl) (.cons rfl ce (.no rfl) .nil)))) (.one (.ret (.no rfl)))))
theorem txX (w:SB) (mg:ZZ->Option Z1) (K:Rm) (h:Heap) (X:K.In h) (Gh:h.Ns RE mg) (hq:∀ q∈qys,aS K q=aT w q):yv K mg TX:=by
 have all:∀ p∈CP,(∀ x,p.1=.f x->Bc K mg x p.2)/\∀ c m,p.1=.m c m->sA K c m p.2:=by
  intro p hp;simp only[CP,SX,SA,or_false] at hp;rcases hp with rfl|rfl|rfl|rfl|rfl|rfl|rfl|rfl
  exact ⟨λx e=>(by cases e),λc m e=>by cases e;exact tP (hn hq 90 rfl) (hn hq 100 rfl) F5⟩;exact ⟨λx e=>(by cases e),λc m e=>by cases e;exact tP (hn hq 90 rfl) (hn hq 93 rfl) JZ⟩;exact ⟨λx e=>by cases e;exact jk X Gh (hn hq 17 rfl) M5 QJ (λ_ _ _=>iB dk),λc m e=>by cases e⟩;exact ⟨λx e=>by cases e;exact jk X Gh (hn hq 20 rfl) M6 QK (λ_ _ _=>iB dk),λc m e=>by cases e⟩;exact ⟨λx e=>by cases e;exact jk X Gh (hn hq 21 rfl) M7 QL (λ_ _ _=>iB dk),λc m e=>by cases e⟩;exact ⟨λx e=>by cases e;exact jk X Gh (hn hq 22 rfl) M8 QM (λ_ _ _=>iB dk),λc m e=>by cases e⟩;exact ⟨λx e=>by cases e;exact jk X Gh (hn hq 23 rfl) M9 QN (λ_ _ _=>iB dk),λc m e=>by cases e⟩;exact ⟨λx e=>by cases e;exact jk X Gh (hn hq 25 rfl) Na QO (λ_ _ _=>iB dk),λc m e=>by cases e⟩
 refine FI X Gh (hn hq 106 rfl) rfl (λx fn e=>?_) λc m fn e=>?_;exact fG (Q:=λk fn=>∀ x,k=.f x->Bc K mg x fn) (l:=CP) (λp hp=>(all p hp).1) e x rfl;exact fG (Q:=λk fn=>∀ c m,k=.m c m->sA K c m fn) (l:=CP) (λp hp=>(all p hp).2) e c m rfl
theorem tld (P:Se) (w:SB) (mg:ZZ->Option Z1) (K:Rm) (h:Heap) (X:K.In h) (Gh:h.Ns RE mg) (hq:∀ q∈qys,aS K q=aT w q) :
 ∃ fa fd ps,mg "_law_told"=XX (.ref fa)/\Sd K (.ref fa)=XZ/\Binds K fd ps []/\∀ base,cK P w K mg base CX0 (2*40) fa fd ps (spF P w K (BT.iA T TX G 39)) :=
 CM (i:=3) X Gh (txt P w mg K h X Gh hq) (txX w mg K h X Gh hq) (hn hq 106 rfl) rfl (hn hq 105 rfl) (hn hq 38 rfl) rfl cxT rfl rfl rfl rfl Nb
noncomputable abbrev lw:DefRec:=⟨"law",cE (top 68),aq (top 68),aa (top 68),Ol (top 68)⟩
theorem df:PySem.W.defOf qg "law"=XX (lw,[]):=by kernel_rfl
theorem th:pg.theDef "law"=XX (lw.params,lw.body,lw.scope):=by kernel_rfl
theorem walk:PySem.W.WalkO qg loo (PySem.W.XL qg []) (sees adr qys tas).says PySem.Challenge.rw_backtape_k30_calls.row.toRowW lw [] (λf vs=>XJ f vs) :=
 CO (l:=PySem.Challenge.rw_backtape_k30_calls) (n:=63) (k:=40) (x:="_law_script") (d:=lw) (T:=T) (G:=G) (ts:=tas) (fn:=BT.fF) rfl (by decide) rfl ⟨rfl,by decide,by decide⟩ rfl rfl (tl:=tl) rfl (by decide +kernel) Nc txt tld λns hl=>run ns (by lia)
end BL
open PySem PySem.W PyProof.Rows
set_option maxRecDepth 100000 in
set_option maxHeartbeats 0 in
theorem PySem.Challenge.cw_backtape_k30_calls_holds : PySem.Challenge.rw_backtape_k30_calls.Holds := by
 w_on;refine PySem.W.holds_law (by decide +kernel) λsaid=>?_
 refine PySem.W.holds_open (q:=BL.qg) (loose:=BL.loo) (XP:=XL BL.qg []) (YP:=(BG.sees BL.adr BL.qys BL.tas).says) (d:=BL.lw) (kwd:=[]) BL.left (BG.sees BL.adr BL.qys BL.tas).of (BG.sees BL.adr BL.qys BL.tas).keeps (λs e=>xl_of s (Bool.and_eq_true_iff.mp e).1) XL.keeps BL.df BL.th (by kernel_rfl) (λs e=>recFacts_of (Bool.and_eq_true_iff.mp e).2) rfl (by first|assumption|decide +kernel) (by decide +kernel) ⟨rfl,rfl,rfl,rfl,rfl,by decide +kernel⟩ ?hw BL.walk
 (case hw=>w_witness2)
#print axioms PySem.Challenge.cw_backtape_k30_calls_holds
end
end

import PyProof.Rows.All
import Wide.All
import OpenK.AllK
import Wide.FinOn
import PyProof.EqAt
import PyProof.EqKinds
import PyProof.TupleCall
import Open.Tree
import Wide.Once
import KE.KLam
import KE.KNestM
import KE.KIsAll
import OpenK.KMore
import KE.KSortTup
import PyProof.Rows.SetFrom
import PyProof.IsiH_list
import PyProof.Rows.Exc
import KE.KDictOf
import PySem.Syntax
import PySem.Builtin.Str.Common
import PyProof.SliceList
import PyProof.NeData
import PyProof.ExcAttrAll.ValueError
import PyProof.ZipIter
import KE.KRevIter
import KE.KItemsList
import KE.KDictSum
import PyProof.DictWalks
import KE.KPairComp
import KE.KEqDict
import PyProof.ListRange
import PyProof.EnumFor
import PyProof.EnumMake
import PyProof.EnumStmt
import PyProof.CompFree
import PyProof.PlainList
import Lean
import PySem.Challenge.RW_backtape_k41_whole_differing
set_option autoImplicit true
set_option Elab.async false
set_option linter.all false
set_option maxRecDepth 100000
set_option maxHeartbeats 8000000
set_option genSizeOf false
set_option compiler.extract_closed false
set_option bootstrap.genMatcherCode false
noncomputable section
open PySem.W renaming Frag->Rj,findIn->R6,nsIn->Sh,tabIn->Sn,emptyDict->SB,keepIn->SC,fnOf->SM,kitOne->SO,instObj->SW,mg_of->Tj,hasDictIn->Tn,tabObj->TQ,kia_one->T4,callWith_K->T5,plainGet->Uh,envX->Ut,codeHdIn->UE,methodCall_KW->UL,kla_obj->UM,lookIn->UT,codeIn->UU,plainGet_of->U5,callWith_K0->U6,mroIn->Va,plainOver->Vl,methodObj->Vm,isFn->Vr,takerIn->VG,makesIn->VH,byRow2->VO,absHeap->VY,SharedT->VZ,recOk->V0,cellsFrom_some->Wb,xlAt->Wj,codeHd_of_K->WB,specialIn->WU,wideGood->WZ,ksm_same->W0,handedIn->W1,clsGoodW->W2,openSeen->Xc,takesIn->Xi
open PySem.Heap renaming get?_push_of_some->Rk,lt_size->Rt,get?_push_size->RB,SameBut->T7,size_push->Ui,get?_update_other->UR,get?_update_self->WO
open PySem renaming Value->Rl,Shared->Rm,wpAny_bind->Ro,Expr->Rq,Addr->Rz,Program->RG,mainGlobals->RI,model->RX,starEach->R8,World->Sb,sliceBounds->Sd,compareOp->Su,Stmt->Sv,Around->Sw,Scope->Sx,mem_of_lookup->SI,binaryOp->SK,wpAny_truthy_bool->SL,wpAny_mono->SX,wpAny_Call_Name_kw->SY,FuncData->S9,wpAny_newObj_type->Tc,sysModules->Td,wpAny_holding->Tf,builtinsNs->To,wpAny_passesOwn->TU,call_meets->TV,assignEach->TX,backTo->T9,NameKind->Ub,wpAny_loadPart'->Ug,Expr->Uq,swapsWith->Uy,rawInt->Uz,codeAmong->UA,DictEntry->UC,wpAny_typeOf->UH,bootBuiltins->UI,Operator->UJ,holding->UK,sizeLine_eq->U1,keywordEach->U3,attributeBase->U4,wpAny_execs_nil->Vh,letOwnedTupleGo->Vi,importedModules->Vj,Keyword->Vn,Arguments->Vo,wpAny_load->Vp,sliceRange->Vq,Stmt->VF,Builtin->VJ,wpAny_standAt->VM,behindInMarks->VN,getItem->VX,assign->V8,Result->Wa,IsPart->Wf,wpAny_call_entry->Wh,noFill_tuple_add->Wi,bindArgs->Wn,backToKw->Wo,stored->Wt,standAt->Wu,spliced->Wv,getMethod->Ww,cLine->Wy,Within->WA,IsRangeIter->WD,wpAny_binaryOp_repeat_ref->WR,evalArgs_none->WS,bltViewBooted->WT,wpAny_getItem_list_slice->WX,wpAny_call->WY,wpAny_callSpecial?_slot->W7,wpAny_Call_method0_late->W8,seq_tuple_add->Xb,evalPart_none->Xd,compEnvC->Xe,callerA->Xf,call->Xh
open Bool renaming and_eq_true->Rn,false_ne_true->Ti,or_eq_true->TJ,not_eq_true'->Ue,eq_iff_iff->U0,not_true->Vu,not_false->Wg,or_false->Wr
open List renaming size_toArray->Rp,mem_cons_of_mem->Ru,getElem?_eq_getElem->Rv,getElem?_append_left->Rx,getElem?_eq_none->RC,mem_cons_self->RE,mem_of_getElem?->RJ,map_cons->RL,replicate->RN,length_cons->RO,length_map->RP,length_append->RT,range->RV,getElem?_map->RY,getElem?_append_right->RZ,mem_append_right->Sa,getElem?_set_ne->Se,getElem?_set_self->Sg,getD_eq_getElem?_getD->Si,filterMap_cons->Sj,append_nil->Sy,all_eq_true->SA,map_congr_left->SE,append_assoc->SG,replicate_succ->SJ,lookup_cons->SQ,singleton_append->SR,getElem?_of_mem->SZ,nil_append->Tt,map_nil->Tu,map_map->Tv,length_nil->Tw,find?_cons->Tz,flatten_cons->TN,mem_append_left->TR,lookup->TZ,getElem?_range->T3,getElem?_take_of_lt->T6,getElem?_replicate->Uc,range_succ_eq_map->Ud,length_replicate->Uj,not_mem_nil->Up,any_cons->Ur,mem_or_eq_of_mem_set->Ux,length_take->UN,reverse_singleton->UQ,of_mem_zip->UV,length_singleton->UW,length_set->UX,length_filter_le->UY,nodup_nil->Vb,filter_sublist->Vd,mem_cons->Vs,all_cons->Vt,length_range->VC,eq_nil_of_length_eq_zero->VL,mem_filter->VT,map_append->VU,length->VV,getElem?_eq_none_iff->Wd,drop_eq_getElem_cons->We,foldl->Wl,sum_cons->Wp,head_eq_of_cons_eq->Wq,find?_cons_of_neg->WC,set_set->WL,map_set->WM,filterMap_eq_map->WN,range'->W5,mem_map_of_mem->W6
open Nat renaming le_refl->Rr,ne_of_lt->RK,lt_of_lt_of_le->RU,lt_or_ge->R0,le_trans->Sq,zero_le->Sz,lt_irrefl->SS,le_of_lt->SV,le_succ->Te,ne_of_gt->TL,lt_succ_self->TY,mul_comm->T8,lt_trans->Uk,mul_div_cancel->Vw,lt_of_le_of_lt->Vx,lt_succ_of_lt->VI,div_add_mod->V5,le_of_ble_eq_true->WV,div_le_div_right->W4
open Option.some renaming inj->Ry,injEq->Us
open PySem.Str renaming ofString->RM,ofString_eq_toList->WK
open PyProof.Rows renaming callWith_type1->Sf,slot_tuple_getitem->SN,callWith_builtin1->U7,plainGoodE->Vz,plainGoodD->VA,expectedOf->VB,drecsOf->VP,IntsAre->V6,AllBare->V7,envOfC->Wx,tail_any->W9,subscriptTail->Xa
open False renaming elim->Sk
open PySem.Value renaming ref->So,int->US,isStrOf->Vk,none->V9,str->Wz,bool->Xg
open PySem.NameKind renaming free->Ss,cell->U9
open PySem.Builtin.List renaming listTooLong->SD
open Ne renaming symm->SH
open PySem.F renaming plainAttrs_list->S6,args_tuple_add_2->Uv,entry_tuple_add->UB,slot_tuple_add->UF,slot_dict_items->V1,plain_list_iadd->V2,plainAttrs_dict->V3,slot_dict_get->Wk
open Option renaming bind_some->S7,map_some->UP,getD_some->Xj,getD_none->Xk
open PySem.Builtin.Slice renaming slicePlaces->Tg,sliceAdjust->Um,sliceApplied->Vg
open PySem.Builtin.Tuple renaming tupleExact->TF,tupleTooMany->Ve,tupleItemsOf->Vf
open True renaming intro->TM
open PySem.Calls renaming spliced_cons->Ua,spliced_nil->UD,callWith_builtin->UO,Name_function_global->VW
open List.cons renaming injEq->Ul,inj->Xl
open PySem.Around renaming under_plainId->Uo,under->Ws,frames_deeper->WJ
open PySem.Builtin.Str renaming occurrences->Uu
open PySem.Builtin.ObjectAttr renaming noSuchAttribute->Uw
open ForInStep renaming yield->UG
open List.Nodup renaming sublist->UZ
open PySem.Obj renaming mapSeq->U8
open Array renaming length_toList->Vc,eq_empty_of_size_eq_zero->VE,toList->WH,getElem?_toList->WI
open PySem.PassesOwn renaming never->Vv
open PySem.Builtin.Range renaming rangeSize->Vy
open PySem.Builtin.Dict renaming updateFrom->VD
open Int renaming natCast_zero->VQ
open PySem.Heap.IsSliceOf renaming new->VR
open Classical renaming axiomOfChoice->VS
open Prod.mk renaming injEq->V4
open PyProof renaming noPylong_small->Wc
open Char renaming toNat->Wm
open PySem.IsRange renaming new->WE
open PySem.Heap.DictOf renaming new->WG
open PySem.Code renaming isFrame->WQ
open PySem.AutoSeq1 renaming idx_int->WW
open PyProof.Rows.IntsAre renaming length->W3
section
namespace L2
open PySem PySem.Spec PyProof.Rows
def fS (s:VF):Vo:=match s with
 | .FunctionDef _ a _ _ _ _ _ _ _ _=>a
 | _=>{ posonlyargs:=[],args:=[],vararg:=none,kwonlyargs:=[],kw_defaults:=[],kwarg:=none,defaults:=[] }
def dI (s:VF):List VF:=match s with
 | .FunctionDef _ _ b _ _ _ _ _ _ _=>b
 | _=>[]
def c7 (s:VF):Sx:=match s with
 | .FunctionDef _ _ _ _ _ _ sc _ _ _=>sc
 | _=>{ kind:=.function,names:=[],isGenerator:=false,isCoroutine:=false }
end L2
end
section
namespace BR
open PySem PySem.W PyProof.Rows
noncomputable def tF:List Obj->BT->Nat->Option (BT×Nat)
 | [],T,n=>some (T,n)
 | o :: r,T,n=>match ((T.ins n o).get n).isSome with
  | true=>tF r (T.ins n o) (n+1)
  | false=>none
theorem qp (life:Life):∀ {l:List Obj}{T T':BT}{n n':Nat},tF l T n=some (T',n')->(VY T' n' life).objs.toList=(VY T n life).objs.toList++l
 | [],T,T',n,n',h=>by cases h;simp
 | o :: r,T,T',n,n',h=>by
  unfold tF at h
  cases g:((T.ins n o).get n).isSome with
  | false=>rw[g] at h;cases h
  | true =>
   rw[g] at h
   rw[qp life h,absHeap_ins g]
   show ((VY T n life).objs.push o).toList++r=_
   simp
noncomputable def toT (s:Rm):Option VZ:=match tF s.heap.objs.toList .nil 0 with
 | some (T,n)=>some ⟨T,n,s.heap.life,s.gens,s.drawn,s.toks,s.os⟩
 | none=>none
theorem Dr (h:toT s=some t):t.abs=s:=by
 unfold toT at h
 cases e:tF s.heap.objs.toList .nil 0 with
 | none=>rw[e] at h;cases h
 | some r =>
  obtain ⟨T,n⟩:=r
  rw[e] at h
  cases h
  have:=qp s.heap.life e
  obtain ⟨⟨objs,life⟩,g,d,k,o⟩:=s
  show Shared.mk (VY T n life) g d k o=Shared.mk ⟨objs,life⟩ g d k o
  have e2:(VY T n life).objs.toList=objs.toList:=by
   rw[this];simp[VY,BT.list]
  have e3:(VY T n life).objs=objs:=Array.toList_inj.mp e2
  have e4:VY T n life=⟨objs,life⟩:=by
   show Heap.mk _ _=Heap.mk _ _
   exact congrArg (Heap.mk · life) e3
  rw[e4]
noncomputable def nA (tb:String->Option VJ) (p:RG) (w:Sb) (n₀:Nat) (ann:Option Rl):Nat->VZ->Thread->Option VZ
 | 0,_,_=>none
 | n+1,s,t=>match through t with
  | true=>some s
  | false=>match stepOk n₀ ann t with
   | false=>none
   | true=>match stepT (denote tb) p w s t with
    | some (s',t')=>nA tb p w n₀ ann n s' t'
    | none=>none
section
variable {tb:String->Option VJ}{p:RG}{w:Sb}{n₀:Nat}{ann:Option Rl}
theorem qt:∀ {n:Nat}{s s':VZ}{t:Thread},nA tb p w n₀ ann n s t=some s'->topRun tb p w n₀ ann n s.abs t=some s'.abs
 | 0,_,_,_,h=>by cases h
 | n+1,s,s',t,h=>by
  unfold nA at h
  unfold topRun
  cases he:through t with
  | true=>rw[he] at h;cases h;rfl
  | false =>
   rw[he] at h
   cases hk:stepOk n₀ ann t with
   | false=>rw[hk] at h;cases h
   | true =>
    rw[hk] at h
    cases hs:stepT (denote tb) p w s t with
    | none=>rw[hs] at h;cases h
    | some r=>obtain ⟨s₂,t₂⟩:=r;rw[hs] at h;dsimp only;rw[stepT_spec hs];exact qt h
end
noncomputable def nQ (tb:String->Option VJ) (p:RG) (w:Sb) (N:Nat) (s₀:Rm):Option VZ :=
 match s₀.heap.isNs RI&&s₀.gens.size==0 with
 | true=>(toT s₀).bind fun t₀=>(nA tb p w s₀.heap.objs.size (s₀.heap.nsMap RI "__annotations__") N t₀ (topStub p)).bind fun t₁ =>
  match staticsOk (Vj p.main.body) s₀.heap t₁.abs.heap&&namesBound p t₁.abs.heap&&gensDone t₁.abs&&laidKept s₀.heap t₁.abs.heap with
   | true=>some t₁
   | false=>none
 | false=>none
theorem u5 (h:nQ tb p w N s₀=some t):topFrom tb p w N s₀=some t.abs:=by
 unfold nQ at h
 unfold topFrom
 cases e:(s₀.heap.isNs RI&&s₀.gens.size==0) with
 | false=>rw[e] at h;cases h
 | true =>
  rw[e] at h
  obtain ⟨t₀,h0,h⟩:=Option.bind_eq_some_iff.mp h
  obtain ⟨t₁,h1,h⟩:=Option.bind_eq_some_iff.mp h
  have h2:=qt h1
  rw[Dr h0] at h2
  dsimp only
  rw[h2]
  show (match _ with | true=>some t₁.abs | false=>none)=_
  cases e2:(staticsOk (Vj p.main.body) s₀.heap t₁.abs.heap&&namesBound p t₁.abs.heap&&gensDone t₁.abs&&laidKept s₀.heap t₁.abs.heap) with
  | false=>rw[e2] at h;cases h
  | true=>rw[e2] at h;cases h;rfl
noncomputable def jY (tb:String->Option VJ) (p:RG) (w:Sb) (N:Nat):Option VZ:=(fencedOpening tb p w N).bind (nQ tb p w N)
theorem Ds {tb:String->Option VJ}{p:RG}{w:Sb}{N:Nat}{α:Type}{f:Rm->α}{x:α} (h:(jY tb p w N).map (fun t=>f t.abs)=some x):(openEnds tb p w N).map f=some x:=by
 obtain ⟨t,ht,e⟩:=Option.map_eq_some_iff.mp h
 obtain ⟨s₀,h0,h1⟩:=Option.bind_eq_some_iff.mp ht
 unfold openEnds
 rw[h0]
 show (topFrom tb p w N s₀).map f=some x
 rw[u5 h1]
 exact congrArg some e
theorem z5 {α β γ δ:Type}{o:Option α}{f:α->β×γ}{g:α->δ}{x:β}{y:γ}{z:δ} (h1:o.map (fun t=>(f t).1)=some x) (h2:o.map (fun t=>(f t).2)=some y) (h3:o.map g=some z):o.map (fun t=>(f t,g t))=some ((x,y),z):=by
 cases o with
 | none=>cases h2
 | some t =>
  have e1:(f t).1=x:=Ry h1
  have e2:(f t).2=y:=Ry h2
  have e3:g t=z:=Ry h3
  show some (f t,g t)=_
  rw[← e1,← e2,← e3]
theorem good (q:RG) (loose:List Str):openGood q loose=(VB q,WT,true,true,PySem.pinGoodD (VP q),Vz q (PySem.W.looseW q loose),VA q loose,WZ q,W2 q loose):=rfl
noncomputable def LA (tb:String->Option VJ) (p q:RG) (loose mods:List Str) (Xt:Rm->Bool) (g0:Bool) (N:Nat) (w:Sb):Prop :=
 (jY tb p w N).map (fun t=>(Xc q loose mods Xt g0 t.abs).1)=some (VB q)
noncomputable def LB (tb:String->Option VJ) (p q:RG) (loose mods:List Str) (Xt:Rm->Bool) (g0:Bool) (N:Nat) (w:Sb):Prop :=
 (jY tb p w N).map (fun t=>(Xc q loose mods Xt g0 t.abs).2)=some (WT,true,true,PySem.pinGoodD (VP q),Vz q (PySem.W.looseW q loose),VA q loose,WZ q,W2 q loose)
noncomputable def LO (tb:String->Option VJ) (p:RG) (N:Nat) {α:Type} (Yf:Rm->α) (Ya:Sb->α) (w:Sb):Prop:=(jY tb p w N).map (fun t=>Yf t.abs)=some (Ya w)
theorem Dt {tb:String->Option VJ}{p q:RG}{loose mods:List Str}{Xt:Rm->Bool}{g0:Bool}{N:Nat}{α:Type}{Yf:Rm->α}{Ya:Sb->α}{w:Sb} (h1:LA tb p q loose mods Xt g0 N w) (h2:LB tb p q loose mods Xt g0 N w) (h3:LO tb p N Yf Ya w) :
 (openEnds tb p w N).map (fun s=>(Xc q loose mods Xt g0 s,Yf s))=some (openGood q loose,Ya w):=by
 rw[good]
 have h:=z5 (f:=fun t:VZ=>Xc q loose mods Xt g0 t.abs) (g:=fun t:VZ=>Yf t.abs) h1 h2 h3
 exact Ds (f:=fun s=>(Xc q loose mods Xt g0 s,Yf s)) h
end BR
end
section
namespace BG
open PySem PySem.Spec PySem.Calls PyProof.Rows L2
structure FS where
 name:Str
 qual:Str
 params:Vo
 body:FuncBody
 scope:Sx
 globals:Rz
 closure:List (Str×Rz)
 defaults:Rl
 builtins:Rz
 code:Bool
noncomputable def Du (K:Rj) (f:Rz):Option FS:=match K.lookup f with
 | some ⟨_,_,.func fd,_⟩=>some ⟨fd.name,fd.qualname,fd.params,fd.body,fd.scope,fd.globals,fd.closure,fd.defaults,fd.builtins,UU K fd.code fd.qualname⟩
 | _=>none
noncomputable def wI (x qual:Str) (st:VF):FS:=⟨x,qual,fS st,.stmts (dI st),c7 st,RI,[],.none,To,true⟩
noncomputable def strOf:Rl->Option Str
 | .str x _=>some x
 | _=>none
noncomputable def intOf:Rl->Option Int
 | .int i _=>some i
 | _=>none
noncomputable def refOf:Option (Option Rl)->Option Rz
 | some (some (.ref a))=>some a
 | _=>none
inductive Qy where
 | fn (x:Str) (f:Rz) (st:VF) | int (x:Str) (n:Int) | tup (x:Str) (f:Rz) (xs:List Str) | dct (x:Str) (f:Rz) (kvs:List (Str×Int)) | no (x:Str) | cls (c:Str) (C:Rz) | me (C:Rz) (m x qual:Str) (f:Rz) (st:VF) | mk (C:Rz)
 | tab (x:Str) (c P:Rz) | bm (b:Rz) | fv (x:Str) (f:Rz) | exc (D:Rz) (xs:List (Str×Rz))
inductive Ov where
 | fn (a:Option Rz) (o:Option FS) | int (n:Option Int) | seq (a:Option Rz) (c:Option (Rl×Option Rz×Nat)) (xs:Option (List (Option Str))) | dct (a:Option Rz) (c:Option (Rl×Option Rz×Nat)) (xs:Option (List (Int×Option Str×Option Int))) | b (x:Bool)
noncomputable def shp (o:Obj):Rl×Option Rz×Nat:=(o.cls,o.dict,o.slots.size)
noncomputable def Gv (o:Obj):Option (List (Option Str)):=match o.data with
 | .seq its _=>some (its.toList.map strOf)
 | _=>none
noncomputable def Gw (o:Obj):Option (List (Int×Option Str×Option Int)):=match o.data with
 | .dict es _=>some (es.toList.map fun e=>(e.hash,strOf e.key,intOf e.val))
 | _=>none
noncomputable def attrs:List Str:=["program","asked","gap","most","kept","farthest","front","now","origins","branches","tape","named"]
noncomputable def KM (K:Rj) (c:Str) (C:Rz):Bool:=decide (Sh K RI c=some (some (.ref C)))&&Uh K C Str.empty&&Tn K C&&Vl K C&&decide (R6 K (.ref C) "__setattr__"=some (some (.builtin "object.__setattr__"))) &&
 attrs.all fun f=>decide (R6 K (.ref C) f=some none)
noncomputable def meB (K:Rj) (C:Rz) (m:Str) (f:Rz):Bool:=decide (R6 K (.ref C) m=some (some (.ref f)))&&Vr K (.ref f)
noncomputable def mkB (K:Rj) (C:Rz):Bool:=VH K C&&SC K (.ref C)
noncomputable def bmB (K:Rj) (b:Rz):Bool:=decide (Sh K RI "__builtins__"=some (some (.ref b)))&&decide (b≠To)&&(match K.lookup b with
 | some ⟨.type "module",some d,.plain,_⟩=>d==To
 | _=>false)
noncomputable def OD (K:Rj) (C D:Rz):Bool:=match K.lookup C with
 | some ⟨_,_,.cls cd,_⟩=>cd.mro.contains (.ref D)
 | _=>false
noncomputable def KN (K:Rj) (c:Str) (C:Rz):Bool:=decide (Sh K RI c=some (some (.ref C)))&&PySem.W.excIn K C [.type "ValueError",.type "Exception",.type "BaseException",.type "object"] "ValueError.__new__"
noncomputable def OE (K:Rj) (D:Rz) (xs:List (Str×Rz)) (c:Str) (C:Rz):Bool:=KN K c C&&OD K C D&&decide (R6 K (.ref C) "__getattribute__"=some (some (.builtin "BaseException.__getattribute__")))&&decide (R6 K (.ref C) "__getattr__"=some none) &&
 decide (Va K C (.type "BaseException")=some true)&&Tn K C&&decide (R6 K (.ref C) "__class__"=some (some (.builtin "object.__class__")))&&decide (WU K (.builtin "object.__class__") "__get__"=some (some (.builtin "getset_descriptor.__get__"))) &&
 decide (Xi K (.builtin "object.__class__")=some true)&&decide (Va K C (.type "object")=some true)&&decide (SO K (.ref C) (.type "ValueError")=some true)&&xs.all fun q=>decide (SO K (.ref C) (.ref q.2)=some (q.1==c))
noncomputable def OF (K:Rj) (D:Rz) (xs:List (Str×Rz)):Bool:=KN K "TapeError" D&&xs.all fun q=>OE K D xs q.1 q.2
noncomputable def eS (K:Rj):Qy->Ov
 | .fn x f _=>.fn (refOf (Sh K RI x)) (Du K f)
 | .int x _=>.int (match Sh K RI x with | some (some v)=>intOf v | _=>none)
 | .tup x f _=>.seq (refOf (Sh K RI x)) ((K.lookup f).map shp) ((K.lookup f).bind Gv)
 | .dct x f _=>.dct (refOf (Sh K RI x)) ((K.lookup f).map shp) ((K.lookup f).bind Gw)
 | .no x=>.b (decide (Sh K RI x=some none))
 | .cls c C=>.b (KM K c C)
 | .me C m _ _ f _=>.fn (if meB K C m f then some f else none) (Du K f)
 | .mk C=>.b (mkB K C)
 | .tab x c P=>.b (decide (Sn K x=some (c,P))&&UE K c P)
 | .bm b=>.b (bmB K b)
 | .fv x f=>.b (decide (Sh K RI x=some (some (.ref f)))&&SC K (.ref f))
 | .exc D xs=>.b (OF K D xs)
noncomputable def eU (w:Sb):Qy->Ov
 | .fn x f st=>.fn (some f) (some (wI x x st))
 | .int _ n=>.int (some n)
 | .tup _ f xs=>.seq (some f) (some (.type "tuple",none,0)) (some (xs.map some))
 | .dct _ f kvs=>.dct (some f) (some (.type "dict",none,0)) (some (kvs.map fun q=>(PyData.keyHash w.params q.1,some q.1,some q.2)))
 | .no _=>.b true
 | .cls _ _=>.b true
 | .me _ _ x qual f st=>.fn (some f) (some (wI x qual st))
 | .mk _=>.b true
 | .tab _ _ _=>.b true
 | .bm _=>.b true
 | .fv _ _=>.b true
 | .exc _ _=>.b true
noncomputable def KOf (as:List Rz) (h:Heap):Rj:=as.map fun a=>(a,(h.get? a).getD default)
noncomputable def sees (as:List Rz) (qs:List Qy) (ts:List Rz):PySem.W.Hook where
 α:=Bool×List Ov×List (Option Obj)
 obs:=fun s=>(as.all fun a=>(s.heap.get? a).isSome,qs.map (eS (KOf as s.heap)),ts.map s.heap.get?)
 val:=fun w=>(true,qs.map (eU w),ts.map fun _=>some (TQ #[]))
 says:=fun w h=>∃ K:Rj,K.map (·.1)=as/\(∀ p∈K,h.get? p.1=some p.2)/\(∀ q∈qs,eS K q=eU w q)/\∀ P∈ts,h.get? P=some (TQ #[])
 of:=fun w s e=>by
  have e1:=congrArg Prod.fst e
  have e2:=congrArg (fun p=>p.2.1) e
  have e3:=congrArg (fun p=>p.2.2) e
  refine ⟨KOf as s.heap,by simp[KOf,Function.comp_def],fun p hp=>?_,fun q hq=>List.map_inj_left.mp e2 q hq,fun P hP=>List.map_inj_left.mp e3 P hP⟩
  obtain ⟨a,ha,rfl⟩:=List.mem_map.mp hp
  have h1:=List.all_eq_true.mp e1 a ha
  obtain ⟨o,ho⟩:=Option.isSome_iff_exists.mp h1
  show s.heap.get? a=some ((s.heap.get? a).getD default)
  rw[ho];rfl
 keeps:=fun w h h' ⟨K,m,n,k,t⟩ hk=>⟨K,m,fun p hp=>hk _ _ (n p hp),k,fun P hP=>hk _ _ (t P hP)⟩
end BG
end
section
namespace BL
open PySem PySem.Spec PyProof.Rows L2 BG
noncomputable abbrev pg:RG:=PySem.Challenge.pw_backtape_k41_whole_differing
noncomputable def qg:RG:=PySem.W.view pg [0,2,3,4,5,6,7,8,9,11,12,13,15,16,17,18,19,20,21,22,23,24,25,26,27,28,29,30,31,32,33,34,35,36,38,39,40,41,42,43,44,45,46,48,49,51,52,54,55,56,57,58,59,60]
noncomputable abbrev loo:List Str:=["INNER_COUNTS"]
noncomputable def top (i:Nat):VF:=pg.main.body.getD i (.Pass ⟨0,0,0,0⟩)
noncomputable def KO:VF->List VF
 | .ClassDef _ _ _ b _ _ _ _ _ _ _=>b
 | _=>[]
noncomputable def iG (i j:Nat):VF:=(KO (top i)).getD j (.Pass ⟨0,0,0,0⟩)
noncomputable def OG:VF->Pos
 | .FunctionDef _ _ _ _ _ _ _ _ _ p=>p
 | _=>⟨0,0,0,0⟩
noncomputable abbrev adr:List Rz:=[3,4,22,23,29,30,36,37,43,44,50,51,94,95,101,102,108,109,115,116,122,123,129,130,136,137,143,144,150,151,157,158,164,165,171,172,178,179,185,186,192,193,199,200,206,207,213,214,220,221,227,228,234,235,241,242,248,249,253,254,267,268,274,275,281,282,335,336,342,343,349,350,356,357,363,364,370,371,377,378,391,392,408,409,419,420,426,427,433,434,440,441,445,446,450,451,455,456]
noncomputable def qys:List Qy:=[.fn "is_whole" 30 (top 6),
 .fn "is_name" 37 (top 7),
 .fn "is_cell" 44 (top 8),
 .fn "inner_sums" 51 (top 9),
 .fn "begun" 95 (top 22),
 .fn "check_thing" 102 (top 23),
 .fn "worth_in" 109 (top 24),
 .fn "laid_out" 116 (top 25),
 .fn "of_two" 123 (top 26),
 .fn "worth_of" 130 (top 27),
 .fn "reckoned" 137 (top 28),
 .fn "cell_by" 144 (top 29),
 .fn "is_over" 151 (top 30),
 .fn "place_behind" 158 (top 31),
 .fn "with_worth" 165 (top 32),
 .fn "with_name" 172 (top 33),
 .fn "with_thing" 179 (top 34),
 .fn "brought" 186 (top 35),
 .fn "stepped" 193 (top 36),
 .fn "differences" 200 (top 40),
 .fn "differing" 207 (top 41),
 .fn "first_other" 214 (top 42),
 .fn "change_at" 221 (top 43),
 .fn "led" 228 (top 44),
 .fn "led_back" 235 (top 45),
 .fn "led_on" 242 (top 46),
 .fn "worths_of" 249 (top 48),
 .fn "changes" 254 (top 49),
 .fn "_law_cell" 420 (top 54),
 .fn "_law_drawn" 427 (top 55),
 .fn "_law_sum" 434 (top 56),
 .fn "_law_row" 441 (top 57),
 .fn "_law_program" 446 (top 58),
 .fn "_law_asked" 451 (top 59),
 .fn "law" 456 (top 60),
 .int "CELL_COUNT" 4,
 .int "WORTH_COUNT" 10007,
 .int "ROW" 0,
 .int "NAMES" 1,
 .int "CELLS" 2,
 .int "CALLS" 3,
 .int "ASKED" 4,
 .int "SAID" 5,
 .int "MOST_CALLS" 6,
 .int "AHEAD" 0,
 .int "BEHIND" 1,
 .int "MOST_MARKS" 8,
 .tup "LETTERS" 22 ["a","b","c","d","e","f"],
 .dct "INNER_COUNTS" 23 [("num",0),("name",0),("cell",1),("add",2),("sub",2),("mul",2),("less",2)],
 .no "len",
 .no "abs",
 .no "int",
 .no "list",
 .no "tuple",
 .no "isinstance",
 .no "str",
 .no "bool",
 .no "range",
 .no "reversed",
 .no "enumerate",
 .no "zip",
 .no "min",
 .no "max",
 .no "sorted",
 .no "sum",
 .no "all",
 .no "any",
 .no "set",
 .no "ValueError",
 .no "dict",
 .tab "worths_of" 248 244,
 .no "last_change",
 .no "next_change",
 .no "moments_so",
 .no "last_so",
 .no "next_so",
 .no "visits",
 .no "last_visit",
 .no "when_said",
 .no "next_within",
 .no "last_within",
 .tab "first_other" 213 209,
 .no "writer_of",
 .no "judged",
 .no "remade",
 .bm 4,
 .cls "Tape" 409,
 .mk 409,
 .me 409 "__init__" "__init__" "Tape.__init__" 268 (iG 52 0),
 .me 409 "at" "at" "Tape.at" 275 (iG 52 1),
 .me 409 "end" "end" "Tape.end" 282 (iG 52 2),
 .me 409 "behind" "behind" "Tape.behind" 336 (iG 52 10),
 .me 409 "is_last" "is_last" "Tape.is_last" 343 (iG 52 11),
 .me 409 "keep" "keep" "Tape.keep" 350 (iG 52 12),
 .me 409 "reach" "reach" "Tape.reach" 357 (iG 52 13),
 .me 409 "has" "has" "Tape.has" 364 (iG 52 14),
 .me 409 "check" "check" "Tape.check" 371 (iG 52 15),
 .me 409 "readings" "readings" "Tape.readings" 378 (iG 52 16),
 .me 409 "first_from" "first_from" "Tape.first_from" 392 (iG 52 18)]
noncomputable abbrev tl:List (Str×Rz×Rz):=[("first_other",213,209),("worths_of",248,244)]
noncomputable abbrev tas:List Rz:=[209,244]
noncomputable abbrev LA:Sb->Prop:=BR.LA treeTable pg qg loo (Vj pg.main.body) (fun s=>Wj qg [] s&&V0 [] s) true 5896
theorem la0 (w:Sb):LA (w.withFollow "special-get-raises" false):=by unfold LA BR.LA;kernel_rfl
theorem la1 (w:Sb):LA (w.withFollow "special-get-raises" true):=by unfold LA BR.LA;kernel_rfl
noncomputable abbrev LB:Sb->Prop:=BR.LB treeTable pg qg loo (Vj pg.main.body) (fun s=>Wj qg [] s&&V0 [] s) true 5896
theorem lb0 (w:Sb):LB (w.withFollow "special-get-raises" false):=by unfold LB BR.LB;kernel_rfl
theorem lb1 (w:Sb):LB (w.withFollow "special-get-raises" true):=by unfold LB BR.LB;kernel_rfl
noncomputable abbrev LO:Sb->Prop:=BR.LO treeTable pg 5896 (sees adr qys tas).obs (sees adr qys tas).val
theorem lo0 (w:Sb):LO (w.withFollow "special-get-raises" false):=by unfold LO BR.LO;kernel_rfl
theorem lo1 (w:Sb):LO (w.withFollow "special-get-raises" true):=by unfold LO BR.LO;kernel_rfl
theorem left:PySem.W.LeftO pg qg loo (fun s=>Wj qg [] s&&V0 [] s) (sees adr qys tas).obs (sees adr qys tas).val 5896:=fun w=>BR.Dt (VO (P:=LA) "special-get-raises" la0 la1 w) (VO (P:=LB) "special-get-raises" lb0 lb1 w) (VO (P:=LO) "special-get-raises" lo0 lo1 w)
end BL
end
section
namespace L2
open PySem PySem.Spec PyProof.Rows
noncomputable abbrev Key:=Sum Int Str
noncomputable def nR:Key->Rl->Bool
 | .inl k,v=>Value.isInt k v
 | .inr x,v=>Vk x v
noncomputable def OH (w:Sb):Key->Int
 | .inl k=>hashInt k
 | .inr x=>hashStr w x
theorem dO:∀ {k:Key}{v:Rl},nR k v=true->(∃ i t,k=Sum.inl i/\v=US i t)\/(∃ x t,k=Sum.inr x/\v=Wz x t)
 | .inl i,v,h=>by
  obtain ⟨t,e⟩:=Value.isInt_shape (k:=i) (v:=v) h
  exact .inl ⟨i,t,rfl,e⟩
 | .inr x,v,h=>by
  obtain ⟨t,e⟩:=Value.isStrOf_shape (x:=x) (v:=v) h
  exact .inr ⟨x,t,rfl,e⟩
theorem yt (i:Int) (t:Tok):nR (.inl i) (.int i t)=true:=by simp[nR,Value.isInt]
theorem yu (x:Str) (t:Tok):nR (.inr x) (.str x t)=true:=by simp[nR,Vk]
theorem G0 (a b:Int):decide ((Sum.inl a:Key)=Sum.inl b)=(a==b):=by
 by_cases e:a=b
 ·subst e;simp
 ·have h:¬ (Sum.inl a:Key)=Sum.inl b:=fun q=>e (Sum.inl.inj q)
  rw[decide_eq_false h]
  exact (beq_eq_false_iff_ne.mpr e).symm
theorem G1 (a b:Str):decide ((Sum.inr a:Key)=Sum.inr b)=decide (a=b):=by
 by_cases e:a=b
 ·subst e;simp
 ·have h:¬ (Sum.inr a:Key)=Sum.inr b:=fun q=>e (Sum.inr.inj q)
  rw[decide_eq_false h,decide_eq_false e]
theorem G3 (a:Int) (b:Str):decide ((Sum.inl a:Key)=Sum.inr b)=false:=decide_eq_false (fun q=>nomatch q)
theorem G4 (a:Str) (b:Int):decide ((Sum.inr a:Key)=Sum.inl b)=false:=decide_eq_false (fun q=>nomatch q)
noncomputable def dg (prog:RG) (w:Sb):PySem.KeyKind prog w Key where
 is:=nR
 hash:=OH w
 inj:=fun v a b ha hb=>by
  rcases dO ha with ⟨i,t,rfl,rfl⟩ | ⟨x,t,rfl,rfl⟩
  ·rcases dO hb with ⟨j,u,rfl,e⟩ | ⟨y,u,rfl,e⟩
   ·injection e with e1 _;rw[e1]
   ·exact nomatch e
  ·rcases dO hb with ⟨j,u,rfl,e⟩ | ⟨y,u,rfl,e⟩
   ·exact nomatch e
   ·injection e with e1 _;rw[e1]
 byValue:=fun k v h=>by
  rcases dO h with ⟨i,t,rfl,rfl⟩ | ⟨x,t,rfl,rfl⟩<;>rfl
 pyHash:=fun hv h=>by
  rcases dO hv with ⟨i,t,rfl,rfl⟩ | ⟨x,t,rfl,rfl⟩
  ·exact wpAny_pyHash_int h
  ·exact wpAny_pyHash_str h
 eqBool:=fun hu hv h=>by
  rcases dO hu with ⟨i,t,rfl,rfl⟩ | ⟨x,t,rfl,rfl⟩
  ·rcases dO hv with ⟨j,u,rfl,rfl⟩ | ⟨y,u,rfl,rfl⟩
   ·rw[G0] at h;exact wpAny_eqBool_int h
   ·rw[G3] at h;exact SeqAt.EqAt.int_str i t y u _ _ _ _ h
  ·rcases dO hv with ⟨j,u,rfl,rfl⟩ | ⟨y,u,rfl,rfl⟩
   ·rw[G4] at h;exact SeqAt.EqAt.str_int x t j u _ _ _ _ h
   ·rw[G1] at h;exact wpAny_eqBool_str h
 «strs»:=fun k x t v h=>by
  rcases dO h with ⟨i,u,rfl,e⟩ | ⟨y,u,rfl,e⟩
  ·exact nomatch e
  ·injection e with e1 _
   subst e1
   cases v<;>rfl
theorem tG (prog:RG) (w:Sb) (i:Int) (t:Tok):(dg prog w).is (.inl i) (.int i t)=true:=yt i t
theorem iI (prog:RG) (w:Sb) (x:Str) (t:Tok):(dg prog w).is (.inr x) (.str x t)=true:=yu x t
end L2
namespace L2
open PySem PySem.Spec PyProof.Rows
inductive V where
 | non | bl (b:Bool) | int (i:Int) | str (x:Str) | byt (b:Array UInt8) | flt (b:UInt64) | ref (a:Rz) | ty (n:String)
 deriving DecidableEq
noncomputable def RelV:V->Rl->Prop
 | .non,u=>u=V9
 | .bl b,u=>u=Xg b
 | .int i,u=>∃ t,u=US i t
 | .str x,u=>∃ t,u=Wz x t
 | .byt b,u=>∃ t,u=Value.bytes b t
 | .flt b,u=>∃ t,u=Value.float b t
 | .ref a,u=>u=So a
 | .ty n,u=>u=Value.type n
noncomputable abbrev c9:List V->List Rl->Prop:=Paired RelV
theorem c9.length {xs:List V}{us:List Rl} (r:c9 xs us):xs.length=us.length:=Paired.length r
theorem c9.get:∀ {xs:List V}{us:List Rl}{i:Nat}{x:V},c9 xs us->xs[i]?=some x->∃ u,us[i]?=some u/\RelV x u
 | _,_,_,_,.nil,e=>by simp at e
 | _,_,0,_,.cons r _,e=>by simp at e;subst e;exact ⟨_,rfl,r⟩
 | _,_,i+1,x,.cons _ t,e=>by
  obtain ⟨u,h1,h2⟩:=c9.get (i:=i) (x:=x) t (by simpa using e)
  exact ⟨u,by simpa using h1,h2⟩
theorem c9.set {x:V}{u:Rl} (r:RelV x u):∀ {xs:List V}{us:List Rl} (i:Nat),c9 xs us->c9 (xs.set i x) (us.set i u)
 | _,_,_,.nil=>.nil
 | _,_,0,.cons _ t=>.cons r t
 | _,_,i+1,.cons q t=>.cons q (c9.set r i t)
theorem c9.append:∀ {xs ys:List V}{us ws:List Rl},c9 xs us->c9 ys ws->c9 (xs++ys) (us++ws)
 | _,_,_,_,.nil,s=>s
 | _,_,_,_,.cons r t,s=>.cons r (c9.append t s)
theorem c9.take:∀ {xs:List V}{us:List Rl} (n:Nat),c9 xs us->c9 (xs.take n) (us.take n)
 | _,_,0,_=>.nil
 | _,_,_+1,.nil=>.nil
 | _,_,n+1,.cons r t=>.cons r (c9.take n t)
theorem c9.drop:∀ {xs:List V}{us:List Rl} (n:Nat),c9 xs us->c9 (xs.drop n) (us.drop n)
 | _,_,0,r=>r
 | _,_,_+1,.nil=>.nil
 | _,_,n+1,.cons _ t=>c9.drop n t
noncomputable def lV:Option V->Option Rl->Prop
 | some v,some u=>RelV v u
 | none,none=>True
 | _,_=>False
noncomputable def KV {κ:Type}:List (κ×V)->List (κ×Rl)->Prop:=Paired fun (p:κ×V) (q:κ×Rl)=>p.1=q.1/\RelV p.2 q.2
noncomputable def kV:Key->V
 | .inl i=>.int i
 | .inr x=>.str x
inductive HO where
 | lst (xs:List V)
 | tup (xs:List V)
 | dK (kvs:List (Key×V)) | dT (kvs:List (List Key×V))
 | set (S:Int->Bool) (n:Nat)
 | ins (C dx:Rz) (fs:List (Str×V))
 | own (x:Rz)
 | xd (fs:List (Str×V))
 | met (f x:Rz)
 | rng (lo hi:Int)
 | frz (o:Obj) (u:HO)
 | tbl (ps:Array Rl)
 | ext (φ:Heap->Prop)
noncomputable abbrev Hp:=Rz->Option HO
noncomputable def upd (H:Hp) (a:Rz) (o:HO):Hp:=fun b=>if b=a then some o else H b
theorem dz {H:Hp}{a:Rz}{o:HO}:upd H a o a=some o:=by unfold upd;rw[if_pos rfl]
theorem c6 {H:Hp}{a b:Rz}{o:HO} (h:b≠a):upd H a o b=H b:=by unfold upd;rw[if_neg h]
theorem dw {H:Hp}{a b:Rz}{o:HO} (h:H a=some o) (h':H b=none):a≠b:=by
 intro e;subst e;rw[h] at h';cases h'
section
variable (P:RG) (w:Sb)
noncomputable def fN (H:Hp) (h:Heap) (a:Rz):HO->Prop
 | .lst xs=>xs.length<=sizeLine/\∃ (its:List Rl) (n:Nat),c9 xs its/\h.get? a=some { cls:=.type "list",data:=.seq its.toArray n }
 | .tup xs=>xs.length<=sizeLine/\∃ its:List Rl,c9 xs its/\IsTup h a its.toArray
 | .dK kvs=>kvs.length<=sizeLine/\(a==Td)=false/\∃ vs,KV kvs vs/\h.DictOf (dg P w) a vs
 | .dT kvs=>kvs.length<=sizeLine/\(a==Td)=false/\∃ xs:List (List Key×Rz×Rl),
  Paired (fun (p:List Key×V) (q:List Key×Rz×Rl)=>p.1=q.1/\H q.2.1=some (.tup (p.1.map kV))/\RelV p.2 q.2.2) kvs xs ∧
  ∃ o es ep,h.get? a=some o/\o.ExactDict/\o.data=.dict es ep/\es.toList=xs.map (entryOfKey (tupleKind (dg P w)))/\(xs.map (·.1)).Nodup
 | .set S n=>h.SetOf (intKind P w) a S n
 | .ins C dx fs=>H dx=some (.own a)/\fs.length<=1000/\dx≠a/\h.get? a=some (SW C dx) ∧
  ∃ mA,h.Ns1 dx mA/\(∀ f,lV (fs.lookup f) (mA f))/\WA mA (fs.map (·.1))
 | .own _=>∃ o,h.get? a=some o
 | .xd fs=>∃ mA,h.Ns1 a mA/\∀ f,lV (fs.lookup f) (mA f)
 | .rng lo hi=>∃ t u v,h.get? a=some { cls:=.type "range",data:=.fields #[.int lo t,.int hi u,.int 1 v] }
 | .frz o u=>h.get? a=some o/\fN H h a u
 | .tbl ps=>h.get? a=some { cls:=.none,data:=.fields ps }
 | .met f x=>h.get? a=some (Vm (.ref f) (.ref x))
 | .ext φ=>φ h/\(∃ o,h.get? a=some o)/\∀ h1 h2:Heap,φ h1->(∀ o,h1.get? a=some o->h2.get? a=some o)->φ h2
noncomputable def HOk (H:Hp) (h:Heap):Prop:=∀ a o,H a=some o->fN P w H h a o
end
section
variable {P:RG}{w:Sb}{H H':Hp}{h h':Heap}{a:Rz}{o:HO}
theorem fN.lt (x:fN P w H h a o):a < h.objs.size:=by
 cases o with
 | lst xs=>obtain ⟨_,_,_,_,e⟩:=x;exact Rt e
 | tup xs=>obtain ⟨_,_,_,p⟩:=x;exact p.lt
 | dK kvs=>obtain ⟨_,_,_,_,o,_,_,e,_⟩:=x;exact Rt e
 | dT kvs=>obtain ⟨_,_,_,_,o,_,_,e,_⟩:=x;exact Rt e
 | set S n=>obtain ⟨o,_,_,_,e,_⟩:=x;exact Rt e
 | ins C dx fs=>obtain ⟨_,_,_,e,_⟩:=x;exact Rt e
 | own y=>obtain ⟨_,e⟩:=x;exact Rt e
 | xd fs=>obtain ⟨_,⟨_,_,_,e,_⟩,_⟩:=x;exact Rt e
 | rng lo hi=>obtain ⟨_,_,_,e⟩:=x;exact Rt e
 | frz ob u=>obtain ⟨e,_⟩:=x;exact Rt e
 | tbl ps=>exact Rt (show h.get? a=some _ from x)
 | met f y=>exact Rt (show h.get? a=some _ from x)
 | ext φ=>obtain ⟨_,⟨_,e⟩,_⟩:=x;exact Rt e
theorem Paired.KP {α β:Type}{F G:α->β->Prop}:∀ {l₁:List α}{l₂:List β},Paired F l₁ l₂->(∀ a b,F a b->G a b)->Paired G l₁ l₂
 | _,_,.nil,_=>.nil
 | _,_,.cons r t,f=>.cons (f _ _ r) (Paired.KP t f)
theorem fN.stay (x:fN P w H h a o) (k:∀ b u,(b=a\/H b=some (.own a))->h.get? b=some u->h'.get? b=some u)
 (ho:∀ b,H b=some (.own a)->H' b=some (.own a)) (ht:∀ b xs,H b=some (.tup xs)->H' b=some (.tup xs)):fN P w H' h' a o:=by
 induction o with
 | lst xs=>obtain ⟨z,its,n,r,e⟩:=x;exact ⟨z,its,n,r,k _ _ (.inl rfl) e⟩
 | tup xs=>obtain ⟨z,its,r,ob,e,c⟩:=x;exact ⟨z,its,r,ob,k _ _ (.inl rfl) e,c⟩
 | dK kvs=>obtain ⟨z,y,vs,r,ob,es,ep,e,c⟩:=x;exact ⟨z,y,vs,r,ob,es,ep,k _ _ (.inl rfl) e,c⟩
 | dT kvs =>
  obtain ⟨z,y,xs,r,ob,es,ep,e,c⟩:=x
  exact ⟨z,y,xs,Paired.KP r fun p q z=>⟨z.1,ht _ _ z.2.1,z.2.2⟩,ob,es,ep,k _ _ (.inl rfl) e,c⟩
 | set S n=>obtain ⟨ob,es,ep,t,e,c⟩:=x;exact ⟨ob,es,ep,t,k _ _ (.inl rfl) e,c⟩
 | ins C dx fs =>
  obtain ⟨d,z,ne,e,mA,⟨od,es,ep,e2,c⟩,r⟩:=x
  exact ⟨ho _ d,z,ne,k _ _ (.inl rfl) e,mA,⟨od,es,ep,k _ _ (.inr d) e2,c⟩,r⟩
 | own y=>obtain ⟨ob,e⟩:=x;exact ⟨ob,k _ _ (.inl rfl) e⟩
 | xd fs=>obtain ⟨mA,⟨od,es,ep,e,c⟩,r⟩:=x;exact ⟨mA,⟨od,es,ep,k _ _ (.inl rfl) e,c⟩,r⟩
 | rng lo hi=>obtain ⟨t,u,v,e⟩:=x;exact ⟨t,u,v,k _ _ (.inl rfl) e⟩
 | frz ob u ih=>obtain ⟨e,q⟩:=x;exact ⟨k _ _ (.inl rfl) e,ih q⟩
 | tbl ps =>
  have e:h.get? a=some { cls:=.none,data:=.fields ps }:=x
  show h'.get? a=some { cls:=.none,data:=.fields ps }
  exact k a _ (.inl rfl) e
 | met f y =>
  have e:h.get? a=some (Vm (.ref f) (.ref y)):=x
  show h'.get? a=some (Vm (.ref f) (.ref y))
  exact k a _ (.inl rfl) e
 | ext φ=>obtain ⟨p,⟨o,e⟩,st⟩:=x;exact ⟨st _ _ p fun o q=>k _ _ (.inl rfl) q,⟨o,k _ _ (.inl rfl) e⟩,st⟩
theorem HOk.lt (x:HOk P w H h) (e:H a=some o):a < h.objs.size:=(x a o e).lt
theorem HOk.fresh (x:HOk P w H h) (e:h.objs.size<=a):H a=none:=by
 cases q:H a with
 | none=>rfl
 | some u=>exact absurd (RU (x.lt q) e) (SS _)
theorem HOk.kept (x:HOk P w H h) (k:∀ b u,h.get? b=some u->h'.get? b=some u):HOk P w H h':=fun a o e =>
 (x a o e).stay (fun b u _ q=>k b u q) (fun _ q=>q) fun _ _ q=>q
theorem HOk.laid (x:HOk P w H h) (k:∀ b u,h.get? b=some u->h'.get? b=some u) (hp:h.objs.size<=a) (new:fN P w (upd H a o) h' a o):HOk P w (upd H a o) h':=fun b u e=>by
 have hn:=x.fresh hp
 by_cases hb:b=a
 ·subst hb;rw[dz] at e;cases e;exact new
 ·rw[c6 hb] at e
  exact (x b u e).stay (fun c v _ q=>k c v q) (fun c q=>by rw[c6 (dw q hn)];exact q) fun c xs q=>by rw[c6 (dw q hn)];exact q
end
noncomputable def Rd (H:Hp) (a:Rz) (u:HO):Prop:=H a=some u\/∃ o,H a=some (.frz o u)
theorem Rd.ok {P:RG}{w:Sb}{H:Hp}{h:Heap}{a:Rz}{u:HO} (r:Rd H a u) (x:HOk P w H h):fN P w H h a u:=by
 rcases r with r | ⟨o,r⟩
 ·exact x a u r
 ·obtain ⟨_,q⟩:=x a _ r
  exact q
noncomputable def Mut:Option HO->Prop
 | some (.lst _)=>True
 | some (.dK _)=>True
 | some (.dT _)=>True
 | some (.set _ _)=>True
 | some (.ins _ _ _)=>True
 | some (.ext _)=>True
 | _=>False
section
variable {P:RG}{w:Sb}{H:Hp}{h h':Heap}{x e:Rz}{o':HO}
theorem HOk.write (ok:HOk P w H h) (mu:Mut (H x)) (he:e=x\/H e=some (.own x)) (k:∀ b u,b≠e->h.get? b=some u->h'.get? b=some u) (heo:∃ u,h'.get? e=some u)
 (new:fN P w (upd H x o') h' x o'):HOk P w (upd H x o') h':=fun b u q=>by
 have nown:∀ c y,H c=some (.own y)->c≠x:=fun c y r z=>by subst z;rw[r] at mu;exact mu
 have ntup:∀ c xs,H c=some (.tup xs)->c≠x:=fun c xs r z=>by subst z;rw[r] at mu;exact mu
 by_cases hb:b=x
 ·subst hb;rw[dz] at q;cases q;exact new
 ·rw[c6 hb] at q
  by_cases hbe:b=e
  ·have q':H b=some (.own x):=by
    rcases he with z | z
    ·exact absurd (hbe.trans z) hb
    ·rw[hbe];exact z
   rw[q] at q';cases q'
   obtain ⟨v,hv⟩:=heo
   exact ⟨v,by rw[hbe];exact hv⟩
  ·refine (ok b u q).stay (fun c v hc r=>k c v ?_ r) (fun c r=>by rw[c6 (nown c b r)];exact r) fun c xs r=>by rw[c6 (ntup c xs r)];exact r
   rcases hc with rfl | hc
   ·exact hbe
   ·rintro rfl
    rcases he with z | z
    ·exact nown c b hc z
    ·rw[hc] at z;cases z;exact hb rfl
end
structure Un (fs ex:List Rz) (H H':Hp) (h h':Heap):Prop where
 keep:∀ b o,h.get? b=some o->H b=none->b∉fs->b∉ex->h'.get? b=some o
 slot:∀ b o,h.get? b=some o->H b=none->b∈fs->b∉ex->∃ sl,h'.get? b=some { o with slots:=sl }
 free:∀ b o,h.get? b=some o->H b=none->b∉ex->H' b=none
 there:∀ b o,h.get? b=some o->b∉ex->∃ o',h'.get? b=some o'
 tups:∀ b xs,H b=some (.tup xs)->H' b=some (.tup xs)
 frzs:∀ b o u,H b=some (.frz o u)->H' b=some (.frz o u)
 tbls:∀ b ps,H b=some (.tbl ps)->∃ more,H' b=some (.tbl (ps++more))
section
variable {fs fs' ex ex':List Rz}{H H1 H2:Hp}{h h1 h2 h':Heap}{a x e:Rz}{o:HO}
theorem Un.any (u:Un fs ex H H1 h h1) {b:Rz}{ob:Obj} (q:h.get? b=some ob) (n:H b=none) (hx:b∉ex):∃ sl,h1.get? b=some { ob with slots:=sl }:=by
 by_cases hb:b∈fs
 ·exact u.slot b ob q n hb hx
 ·exact ⟨ob.slots,u.keep b ob q n hb hx⟩
theorem Un.kept (k:∀ b u,h.get? b=some u->h'.get? b=some u):Un fs ex H H h h' :=
 ⟨fun b ob q _ _ _=>k b ob q,fun b ob q _ _ _=>⟨ob.slots,k b ob q⟩,fun _ _ _ n _=>n,fun b ob q _=>⟨ob,k b ob q⟩,fun _ _ q=>q,fun _ _ _ q=>q,fun _ ps q=>⟨#[],by rw[q];simp⟩⟩
theorem Un.refl:Un fs ex H H h h:=Un.kept fun _ _ q=>q
theorem Un.laid (k:∀ b u,h.get? b=some u->h'.get? b=some u) (hp:h.objs.size<=a) (hn:H a=none):Un fs ex H (upd H a o) h h' where
 keep:=fun b u q _ _ _=>k b u q
 slot:=fun b u q _ _ _=>⟨u.slots,k b u q⟩
 free:=fun b u q n _=>by rw[c6 (RK (RU (Rt q) hp))];exact n
 there:=fun b u q _=>⟨u,k b u q⟩
 tups:=fun b xs q=>by rw[c6 (dw q hn)];exact q
 frzs:=fun b u xs q=>by rw[c6 (dw q hn)];exact q
 tbls:=fun b ps q=>⟨#[],by rw[c6 (dw q hn),q];simp⟩
theorem Un.write (mu:Mut (H x)) (he:e=x\/H e=some (.own x)) (k:∀ b u,b≠e->h.get? b=some u->h'.get? b=some u) (heo:∃ u,h'.get? e=some u):Un fs ex H (upd H x o) h h':=by
 have hx:∀ b,H b=none->b≠x:=fun b n z=>by subst z;rw[n] at mu;exact mu
 have hb:∀ b,H b=none->b≠e:=fun b n z=>by
  subst z
  rcases he with r | r
  ·exact hx b n r
  ·rw[n] at r;cases r
 have hm:∀ b u,H b=some u->¬ Mut (some u)->b≠x:=fun b u q nm z=>by subst z;rw[q] at mu;exact nm mu
 refine ⟨fun b u q n _ _=>k b u (hb b n) q,fun b u q n _ _=>⟨u.slots,k b u (hb b n) q⟩,fun b u q n _=>by rw[c6 (hx b n)];exact n,fun b u q _=>?_,
  fun b xs q=>by rw[c6 (hm b _ q fun z=>z)];exact q,fun b u xs q=>by rw[c6 (hm b _ q fun z=>z)];exact q,fun b ps q=>⟨#[],by rw[c6 (hm b _ q fun z=>z),q];simp⟩⟩
 by_cases hbe:b=e
 ·subst hbe;exact heo
 ·exact ⟨u,k b u hbe q⟩
end
noncomputable def trk (h:Heap) (H:Hp):List Rz:=(RV h.objs.size).filter fun a=>(H a).isSome
noncomputable def tH (h:Heap) (H:Hp):Heap:=PySem.W.hideAll h (trk h H)
theorem yv (h:Heap) (H:Hp):(tH h H).objs.size=h.objs.size:=PySem.W.hideAll_size _ _
theorem tK {h:Heap}{H:Hp}{b:Rz}{o:Obj} (e:h.get? b=some o) (n:H b=none):(tH h H).get? b=some o :=
 PySem.W.hideAll_get _ e fun hm=>by
  have q:(H b).isSome=true:=(List.mem_filter.mp hm).2
  rw[n] at q;simp at q
theorem Dv {h:Heap}{H:Hp}{b:Rz}{o:Obj} (e:(tH h H).get? b=some o):h.get? b=some o/\H b=none:=by
 have e':h.get? b=some o:=PySem.W.of_hideAll (trk h H) e
 refine ⟨e',?_⟩
 cases q:H b with
 | none=>rfl
 | some x =>
  have hm:b∈trk h H:=List.mem_filter.mpr ⟨List.mem_range.mpr (Rt e'),by simp[q]⟩
  have z:(tH h H).get? b=none:=PySem.W.hideAll_none (trk h H) hm
  rw[z] at e;cases e
noncomputable def Dw (g h:Heap) (L:Rz):List (Rz×Obj):=(RV h.objs.size).filterMap fun a=>if a=L\/(g.get? a).isSome=true then none else (h.get? a).map fun o=>(a,o)
noncomputable def rest (g h:Heap) (L d:Rz):List (Rz×Obj):=(Dw g h L).filter fun p=>decide (p.1≠d)
end L2
namespace L2
open PySem PySem.Spec PyProof.Rows
structure Mod (K:Rj) (mg:Str->Option Rl) (base:Heap):Prop where
 kin:K.In base
 glob:base.Ns RI mg
 blt:∃ mb,base.Ns To mb/\∀ x:Str,x≠"__name__"->mb x=UI x
 nolimit:base.NoLimit
structure Cx where
 prog:RG
 w:Sb
 K:Rj
 mg:Str->Option Rl
 base:Heap
 A:Sw
 N:List Str
 s₀:Rm
 H₀:Hp
 env:Env
 outer:List Env
 stack:List Env
 ex:List Rz
 fn:Str->Bool
 calm:Bool
 pn:List (Rz×Obj)
 xe:Rl->Rm->Prop
noncomputable def frs (l:List Env):List Rz:=l.filterMap (·.frame)
noncomputable abbrev Cx.fs (X:Cx):List Rz:=frs X.outer
noncomputable def Vis (sc:Sx) (x:Str):Prop:=sc.names.lookup x=some .local\/sc.names.lookup x=some .cell\/sc.names.lookup x=some .free
noncomputable def Loc (sc:Sx) (x:Str):Prop:=sc.names.lookup x=some .local\/sc.names.lookup x=some .cell
noncomputable def Look (env:Env) (h:Heap) (m:Str->Option Rl) (x:Str) (u:Rl):Prop :=
 (env.kindOf x=some .local/\m x=some u)\/((env.kindOf x=some .cell\/env.kindOf x=some .free)/\∃ c,env.cells.lookup x=some c/\h.IsCell c (some u))
structure Cx.Ok (X:Cx):Prop where
 mod:Mod X.K X.mg X.base
 kind:X.env.scope.kind=.function
 glob:X.env.globals=RI
 blt:X.env.builtins=To
 above:X.s₀.heap.objs.size<=X.env.locals
 inj:∀ x y c,X.env.cells.lookup x=some c->X.env.cells.lookup y=some c->x=y
 has:∀ x,(X.env.kindOf x=some .cell\/X.env.kindOf x=some .free)->∃ c,X.env.cells.lookup x=some c
 cab:∀ x c,X.fn x=true->X.env.cells.lookup x=some c->X.s₀.heap.objs.size<=c
 hd:X.calm=true->X.A.handled=none
 frames:X.A.frames=some X.stack
 stk:X.stack=X.outer\/(X.stack=X.env :: X.outer/\X.env.frame=some X.env.locals)
 exf:∀ b∈X.ex,b≠X.env.locals/\∀ x c,X.env.cells.lookup x=some c->c≠b
 bs:∀ b o,X.base.get? b=some o->X.s₀.heap.get? b=some o/\X.H₀ b=none
 bsz:X.base.objs.size<=X.s₀.heap.objs.size
 noex:∀ b o,X.base.get? b=some o->b∉X.ex
 exfs:∀ b∈X.ex,b∉X.fs
 kE:X.s₀.heap.FunFrames X.base X.outer
 frf:∀ b∈X.fs,X.H₀ b=none
structure Inv (X:Cx) (pins:List (Rz×Obj)) (σ:List (Option V)) (H:Hp) (s:Rm):Prop where
 ok:X.Ok
 os:s.os=X.s₀.os
 bare:V7 s.gens
 base:Un X.fs X.ex X.H₀ H X.s₀.heap s.heap
 loc:∃ m,s.heap.Ns X.env.locals m/\∀ (i:Nat) (x:Str) (v:V),X.N[i]?=some x->σ[i]?=some (some v)->Vis X.env.scope x->∃ u,RelV v u/\Look X.env s.heap m x u
 cell:∀ x c,X.env.cells.lookup x=some c->∃ v,s.heap.IsCell c v
 free:H X.env.locals=none
 freeC:∀ x c,X.env.cells.lookup x=some c->H c=none
 pin:∀ p∈X.pn++pins,s.heap.get? p.1=some p.2/\H p.1=none/\p.1≠X.env.locals/\p.1∉X.fs/\∀ v,p.2.data≠.cell v
 hok:HOk X.prog X.w H s.heap
 len:σ.length=X.N.length
section
variable {X:Cx}{pins:List (Rz×Obj)}{σ:List (Option V)}{H H':Hp}{s:Rm}{h':Heap}
theorem Cx.Ok.OI (ok:X.Ok) {b:Rz}{o:Obj} (e:X.base.get? b=some o):b∉X.fs:=fun hb=>by
 have:=(ok.kE.mem hb).1
 rw[e] at this;cases this
theorem Inv.bs (I:Inv X pins σ H s):∀ b o,X.base.get? b=some o->s.heap.get? b=some o/\H b=none:=fun b o e =>
 ⟨I.base.keep b o (I.ok.bs b o e).1 (I.ok.bs b o e).2 (I.ok.OI e) (I.ok.noex b o e),I.base.free b o (I.ok.bs b o e).1 (I.ok.bs b o e).2 (I.ok.noex b o e)⟩
theorem Inv.bk (I:Inv X pins σ H s):∀ b o,X.base.get? b=some o->s.heap.get? b=some o:=fun b o e=>(I.bs b o e).1
theorem Inv.mod (I:Inv X pins σ H s):Mod X.K X.mg X.base:=I.ok.mod
theorem Inv.kIn (I:Inv X pins σ H s):X.K.In s.heap:=I.ok.mod.kin.keeps I.bk
theorem Inv.lt (I:Inv X pins σ H s):X.env.locals < s.heap.objs.size:=let ⟨_,hn,_⟩:=I.loc;hn.lt
theorem Inv.sz (I:Inv X pins σ H s):X.s₀.heap.objs.size<=s.heap.objs.size:=Sq I.ok.above (SV I.lt)
theorem Inv.OJ (I:Inv X pins σ H s) {a:Rz} (h:s.heap.objs.size<=a):a∉X.fs:=fun hb=>by
 obtain ⟨_,o,ho,_⟩:=I.ok.kE.mem hb
 exact absurd (RU (Rt ho) (Sq I.sz h)) (SS _)
theorem Inv.cne (I:Inv X pins σ H s):∀ x c,X.env.cells.lookup x=some c->c≠X.env.locals:=fun x c e z=>by
 obtain ⟨v,o,ho,hd⟩:=I.cell x c e
 obtain ⟨m,⟨o',es,ep,ho',hd',_⟩,_⟩:=I.loc
 rw[z,ho'] at ho;cases ho;rw[hd'] at hd;cases hd
theorem Inv.kE (I:Inv X pins σ H s):s.heap.FunFrames X.base X.outer:=by
 have all:∀ (l:List Env),(∀ b∈frs l,b∈X.fs)->X.s₀.heap.FunFrames X.base l->s.heap.FunFrames X.base l:=by
  intro l
  induction l with
  | nil=>intro _ _;trivial
  | cons env r ih =>
   intro hs hl
   obtain ⟨hk,⟨L,o,hf,hn,ho,hd⟩,hr⟩:=hl
   have hL:L∈X.fs:=hs L (by unfold frs;rw[Sj,hf];exact RE)
   obtain ⟨sl,e⟩:=I.base.slot L o ho (I.ok.frf L hL) hL fun z=>I.ok.exfs L z hL
   exact ⟨hk,⟨L,_,hf,hn,e,hd⟩,ih (fun b hb=>hs b (by unfold frs;rw[Sj,hf];exact Ru _ hb)) hr⟩
 exact all X.outer (fun _ hb=>hb) I.ok.kE
theorem Inv.stack (I:Inv X pins σ H s):s.heap.FunFrames X.base X.stack:=by
 rcases I.ok.stk with e | ⟨e,hf⟩
 ·rw[e];exact I.kE
 ·rw[e]
  obtain ⟨m,hn,_⟩:=I.loc
  refine .cons (by rw[I.ok.kind];decide) hf hn ?_ I.kE
  exact Heap.get?_none_of_le (Sq I.ok.bsz I.ok.above)
theorem Inv.nS (I:Inv X pins σ H s):∀ b∈frs X.stack,b∈X.env.locals :: X.fs:=fun b hb=>by
 rcases I.ok.stk with e | ⟨e,hf⟩
 ·rw[e] at hb;exact Ru _ hb
 ·rw[e] at hb
  unfold frs at hb
  rw[Sj,hf] at hb
  exact hb
theorem Inv.qW (I:Inv X pins σ H s):∀ b∈frs X.stack,H b=none:=fun b hb=>by
 rcases List.mem_cons.mp (I.nS b hb) with e | hb
 ·rw[e];exact I.free
 ·obtain ⟨_,o,ho,_⟩:=I.ok.kE.mem hb
  exact I.base.free b o ho (I.ok.frf b hb) fun z=>I.ok.exfs b z hb
theorem Inv.step {g':Array GenState}{t':Nat}{d':Drawn}{ch:List Rz} (I:Inv X pins σ H s)
 (hch:∀ b∈ch,(b∈X.ex\/X.s₀.heap.objs.size<=b)/\b≠X.env.locals/\(∀ x c,X.env.cells.lookup x=some c->c≠b)/\∀ p∈X.pn++pins,p.1≠b)
 (keep:∀ b o,b≠X.env.locals->b∉X.fs->b∉ch->s.heap.get? b=some o->H b=none->h'.get? b=some o)
 (slot:∀ b o,b≠X.env.locals->b∈X.fs->b∉ch->s.heap.get? b=some o->H b=none->∃ sl,h'.get? b=some { o with slots:=sl }) (free:∀ b o,b∉ch->s.heap.get? b=some o->H b=none->H' b=none)
 (there:∀ b o,b∉ch->s.heap.get? b=some o->∃ o',h'.get? b=some o')
 (tups:∀ b xs,H b=some (.tup xs)->H' b=some (.tup xs)) (frzs:∀ b o u,H b=some (.frz o u)->H' b=some (.frz o u)) (tbls:∀ b ps,H b=some (.tbl ps)->∃ more,H' b=some (.tbl (ps++more)))
 (ns:∀ m,s.heap.Ns X.env.locals m->h'.Ns X.env.locals m) (hok:HOk X.prog X.w H' h') (hg:V7 g') :
 Inv X pins σ H' { s with heap:=h',gens:=g',drawn:=d',toks:=t' }:=by
 have neL:∀ b o,X.s₀.heap.get? b=some o->b≠X.env.locals:=fun b o e=>RK (RU (Rt e) I.ok.above)
 have neC:∀ b o,X.s₀.heap.get? b=some o->b∉X.ex->b∉ch:=fun b o e hx hb=>by
  rcases (hch b hb).1 with z | z
  ·exact hx z
  ·exact absurd (RU (Rt e) z) (SS _)
 have cellK:∀ x c,X.env.cells.lookup x=some c->∀ v,s.heap.IsCell c v->h'.IsCell c v:=fun x c e v ⟨o,ho,hd⟩=>by
  have nch:c∉ch:=fun z=>(hch c z).2.2.1 x c e rfl
  by_cases hc:c∈X.fs
  ·obtain ⟨sl,q⟩:=slot c o (I.cne x c e) hc nch ho (I.freeC x c e)
   exact ⟨_,q,hd⟩
  ·exact ⟨o,keep c o (I.cne x c e) hc nch ho (I.freeC x c e),hd⟩
 refine ⟨I.ok,I.os,hg,⟨fun b o e n hb hx=>?_,fun b o e n hb hx=>?_,fun b o e n hx=>?_,fun b o e hx=>?_,fun b xs e=>tups b xs (I.base.tups b xs e),fun b o xs e=>frzs b o xs (I.base.frzs b o xs e),fun b ps e=>?_⟩,?_,fun x c e=>?_,?_,fun x c e=>?_,fun p hp=>?_,hok,I.len⟩
 ·exact keep b o (neL b o e) hb (neC b o e hx) (I.base.keep b o e n hb hx) (I.base.free b o e n hx)
 ·obtain ⟨sl,e1⟩:=I.base.slot b o e n hb hx
  obtain ⟨sl',e2⟩:=slot b _ (neL b o e) hb (neC b o e hx) e1 (I.base.free b o e n hx)
  exact ⟨sl',e2⟩
 ·obtain ⟨o',e1⟩:=I.base.there b o e hx
  exact free b o' (neC b o e hx) e1 (I.base.free b o e n hx)
 ·obtain ⟨o',e1⟩:=I.base.there b o e hx
  exact there b o' (neC b o e hx) e1
 ·obtain ⟨m1,e1⟩:=I.base.tbls b ps e
  obtain ⟨m2,e2⟩:=tbls b _ e1
  exact ⟨m1++m2,by rw[e2,Array.append_assoc]⟩
 ·obtain ⟨m,hn,hl⟩:=I.loc
  refine ⟨m,ns m hn,fun i x v e1 e2 e3=>?_⟩
  obtain ⟨u,r,l⟩:=hl i x v e1 e2 e3
  refine ⟨u,r,?_⟩
  rcases l with l | ⟨k,c,e,z⟩
  ·exact .inl l
  ·exact .inr ⟨k,c,e,cellK x c e _ z⟩
 ·obtain ⟨v,z⟩:=I.cell x c e
  exact ⟨v,cellK x c e v z⟩
 ·obtain ⟨m,⟨o,_,_,ho,_⟩,_⟩:=I.loc
  exact free _ o (fun z=>(hch _ z).2.1 rfl) ho I.free
 ·obtain ⟨v,o,ho,hd⟩:=I.cell x c e
  exact free c o (fun z=>(hch c z).2.2.1 x c e rfl) ho (I.freeC x c e)
 ·obtain ⟨e,n,ne,nf,d⟩:=I.pin p hp
  have nch:p.1∉ch:=fun z=>(hch p.1 z).2.2.2 p hp rfl
  exact ⟨keep p.1 p.2 ne nf nch e n,free p.1 p.2 nch e n,ne,nf,d⟩
theorem Inv.un {t':Nat} (I:Inv X pins σ H s) (u:Un X.fs [] H H' s.heap h') (hok:HOk X.prog X.w H' h'):Inv X pins σ H' { s with heap:=h',toks:=t' }:=by
 obtain ⟨m,⟨o,es,ep,ho,r⟩,_⟩:=id I.loc
 obtain ⟨sl,hL⟩:=u.any ho I.free (by simp)
 exact I.step (g':=s.gens) (d':=s.drawn) (ch:=[]) (fun _ z=>nomatch z) (fun b o _ hb _ e n=>u.keep b o e n hb (by simp)) (fun b o _ hb _ e n=>u.slot b o e n hb (by simp)) (fun b o _ e n=>u.free b o e n (by simp)) (fun b o _ e=>u.there b o e (by simp)) u.tups u.frzs u.tbls (fun m' hm=>by
  obtain ⟨o',es',ep',ho',r'⟩:=hm
  rw[ho] at ho';cases ho'
  exact ⟨_,es',ep',hL,r'⟩) hok I.bare
theorem Inv.call {g':Array GenState}{t':Nat}{d':Drawn}{ch:List Rz} (I:Inv X pins σ H s) (u:Un (frs X.stack) ch H H' s.heap h') (hok:HOk X.prog X.w H' h') (hg:V7 g')
 (hch:∀ b∈ch,(b∈X.ex\/X.s₀.heap.objs.size<=b)/\b≠X.env.locals/\(∀ x c,X.env.cells.lookup x=some c->c≠b)/\∀ p∈X.pn++pins,p.1≠b) :
 Inv X pins σ H' { s with heap:=h',gens:=g',drawn:=d',toks:=t' }:=by
 obtain ⟨m,⟨o,es,ep,ho,r⟩,_⟩:=id I.loc
 obtain ⟨sl,hL⟩:=u.any ho I.free fun z=>(hch _ z).2.1 rfl
 exact I.step (ch:=ch) hch (fun b o hL hb hc e n=>u.keep b o e n (fun z=>(List.mem_cons.mp (I.nS b z)).elim hL hb) hc) (fun b o _ _ hc e n=>u.any e n hc) (fun b o hc e n=>u.free b o e n hc) (fun b o hc e=>u.there b o e hc) u.tups u.frzs u.tbls (fun m' hm=>by
  obtain ⟨o',es',ep',ho',r'⟩:=hm
  rw[ho] at ho';cases ho'
  exact ⟨_,es',ep',hL,r'⟩) hok hg
theorem Inv.turned {t':Nat}{it:Rz} (I:Inv X pins σ H s) (k:∀ b o,b≠it->s.heap.get? b=some o->h'.get? b=some o) (hn:H it=none) (hL:it≠X.env.locals)
 (h1:it∈X.ex\/X.s₀.heap.objs.size<=it) (h2:∀ x c,X.env.cells.lookup x=some c->c≠it) (h3:∀ p∈X.pn++pins,p.1≠it):Inv X pins σ H { s with heap:=h',toks:=t' }:=by
 have nit:∀ b u,H b=some u->b≠it:=fun b u e z=>by rw[z,hn] at e;cases e
 refine I.step (g':=s.gens) (d':=s.drawn) (ch:=[it]) (fun b hb=>?_) (fun b o _ _ hc e _=>k b o (fun z=>hc (by simp[z])) e) (fun b o _ _ hc e _=>⟨o.slots,k b o (fun z=>hc (by simp[z])) e⟩) (fun _ _ _ _ n=>n)
  (fun b o hc e=>⟨o,k b o (fun z=>hc (by simp[z])) e⟩) (fun _ _ e=>e) (fun _ _ _ e=>e) (fun b ps e=>⟨#[],by rw[e];simp⟩) (fun m hm=>?_) (fun b u e=>?_) I.bare
 ·have e:b=it:=by simpa using hb
  subst e
  exact ⟨h1,hL,h2,h3⟩
 ·obtain ⟨o,es,ep,ho,r⟩:=hm
  exact ⟨o,es,ep,k _ o (SH hL) ho,r⟩
 ·refine (I.hok b u e).stay (fun c v hc q=>k c v ?_ q) (fun _ q=>q) fun _ _ q=>q
  rcases hc with z | z
  ·rw[z];exact nit b u e
  ·exact nit c _ z
theorem Inv.tok (I:Inv X pins σ H s) (t:Nat):Inv X pins σ H { s with toks:=t }:=I.un (h':=s.heap) (t':=t) Un.refl I.hok
theorem Inv.kept {t':Nat} (I:Inv X pins σ H s) (k:∀ b u,s.heap.get? b=some u->h'.get? b=some u):Inv X pins σ H { s with heap:=h',toks:=t' }:=I.un (Un.kept k) (I.hok.kept k)
theorem Inv.laid {a:Rz}{o:HO}{t':Nat} (I:Inv X pins σ H s) (k:∀ b u,s.heap.get? b=some u->h'.get? b=some u) (hp:s.heap.objs.size<=a) (new:fN X.prog X.w (upd H a o) h' a o) :
 Inv X pins σ (upd H a o) { s with heap:=h',toks:=t' }:=I.un (Un.laid k hp (I.hok.fresh hp)) (I.hok.laid k hp new)
theorem Inv.write {x e:Rz}{o:HO}{t':Nat} (I:Inv X pins σ H s) (mu:Mut (H x)) (he:e=x\/H e=some (.own x)) (k:∀ b u,b≠e->s.heap.get? b=some u->h'.get? b=some u) (heo:∃ u,h'.get? e=some u)
 (new:fN X.prog X.w (upd H x o) h' x o):Inv X pins σ (upd H x o) { s with heap:=h',toks:=t' }:=I.un (Un.write mu he k heo) (I.hok.write mu he k heo new)
theorem Inv.nB {pins':List (Rz×Obj)} (I:Inv X pins σ H s) (h:∀ p∈pins',s.heap.get? p.1=some p.2/\H p.1=none/\p.1≠X.env.locals/\p.1∉X.fs/\∀ v,p.2.data≠.cell v):Inv X pins' σ H s :=
 ⟨I.ok,I.os,I.bare,I.base,I.loc,I.cell,I.free,I.freeC,fun p hp=>(List.mem_append.mp hp).elim (fun z=>I.pin p (TR _ z)) (h p),I.hok,I.len⟩
theorem tL {N:List Str} (hN:N.Nodup) {i j:Nat}{x:Str} (a:N[i]?=some x) (b:N[j]?=some x):i=j:=by
 obtain ⟨h1,e1⟩:=List.getElem?_eq_some_iff.mp a
 obtain ⟨h2,e2⟩:=List.getElem?_eq_some_iff.mp b
 exact (List.getElem_inj hN).mp (e1.trans e2.symm)
theorem qu {M:Model}{A:Sw}{E:Rl->Rm->Prop}{i:Nat}{x:Str}{v:V}{u:Rl}{Q:Unit->Rm->Prop} (I:Inv X pins σ H s) (hN:X.N.Nodup) (hi:X.N[i]?=some x) (hx:Loc X.env.scope x) (r:RelV v u)
 (h:∀ s',Inv X pins (σ.set i (some v)) H s'->(∃ a,T7 a s.heap s'.heap/\(a=X.env.locals\/X.env.cells.lookup x=some a))->Q () s') (hf:X.fn x=true\/X.env.scope.names.lookup x=some .local:=by first | exact .inl rfl | exact .inr rfl | assumption):wpAny M A (storeName X.env x u) Q E s:=by
 obtain ⟨m,hn,hl⟩:=id I.loc
 have hcls:(X.env.scope.kind==.class||(X.env.scope.kind==.module&&X.env.locals != X.env.globals))=false:=by rw[I.ok.kind];rfl
 have hiσ:i < σ.length:=by rw[I.len];exact (List.getElem?_eq_some_iff.mp hi).1
 have cne:=I.cne
 have tracked:∀ {a:Rz}{h':Heap},(∃ o,s.heap.get? a=some o/\H a=none)->T7 a s.heap h'->HOk X.prog X.w H h':=fun {a h'} ha hs b ob e=>by
  obtain ⟨_,_,hfree⟩:=ha
  refine (I.hok b ob e).stay (fun c w' hc q=>(hs.2 c ?_).trans q) (fun _ q=>q) fun _ _ q=>q
  rintro rfl
  rcases hc with rfl | hc
  ·rw[hfree] at e;cases e
  ·rw[hfree] at hc;cases hc
 rcases hx with hk | hk
 ·refine wpAny_storeName_local hk hn (fun h' hn' hs=>?_) hcls
  obtain ⟨oL,_,_,hoL,_⟩:=id hn
  refine h _ ⟨I.ok,I.os,I.bare,⟨fun b o e n hb hx=>?_,fun b o e n hb hx=>?_,I.base.free,fun b o e hx=>?_,I.base.tups,I.base.frzs,I.base.tbls⟩,⟨_,hn',fun j y v' e1 e2 e3=>?_⟩,fun y c e=>?_,I.free,I.freeC,fun p hp=>?_,tracked ⟨oL,hoL,I.free⟩ hs,by simpa using I.len⟩ ⟨_,hs,.inl rfl⟩
  ·exact (hs.2 b (RK (RU (Rt e) I.ok.above))).trans (I.base.keep b o e n hb hx)
  ·obtain ⟨sl,e1⟩:=I.base.slot b o e n hb hx
   exact ⟨sl,(hs.2 b (RK (RU (Rt e) I.ok.above))).trans e1⟩
  ·obtain ⟨o',e1⟩:=I.base.there b o e hx
   exact ⟨o',(hs.2 b (RK (RU (Rt e) I.ok.above))).trans e1⟩
  ·by_cases hj:j=i
   ·subst hj
    rw[hi] at e1;cases e1
    rw[Sg hiσ] at e2
    cases e2
    exact ⟨u,r,.inl ⟨hk,by simp⟩⟩
   ·rw[Se (SH hj)] at e2
    obtain ⟨u',r',q⟩:=hl j y v' e1 e2 e3
    refine ⟨u',r',?_⟩
    rcases q with ⟨k,e⟩ | ⟨k,c,e,z⟩
    ·refine .inl ⟨k,?_⟩
     have:y≠x:=fun e=>hj (tL hN e1 (e ▸ hi))
     simp[this,e]
    ·exact .inr ⟨k,c,e,z.sameBut hs (cne y c e)⟩
  ·obtain ⟨w',z⟩:=I.cell y c e
   exact ⟨w',z.sameBut hs (cne y c e)⟩
  ·obtain ⟨e,n,ne,nf,d⟩:=I.pin p hp
   exact ⟨(hs.2 p.1 ne).trans e,n,ne,nf,d⟩
 ·have hfn:X.fn x=true:=by
   rcases hf with z | z
   ·exact z
   ·rw[z] at hk;cases hk
  obtain ⟨c,hc⟩:=I.ok.has x (.inl hk)
  obtain ⟨w',z⟩:=I.cell x c hc
  refine wpAny_storeName_cell I.ok.kind hk hc z (fun h' hc' hs=>?_)
  obtain ⟨oc,hoc,hocd⟩:=id z
  refine h { s with heap:=h' } ⟨I.ok,I.os,I.bare,⟨fun b o e n hb hx=>?_,fun b o e n hb hx=>?_,I.base.free,fun b o e hx=>?_,I.base.tups,I.base.frzs,I.base.tbls⟩,⟨m,hn.sameBut hs (SH (cne x c hc)),fun j y v' e1 e2 e3=>?_⟩,fun y c' e=>?_,I.free,I.freeC,fun p hp=>?_,tracked ⟨oc,hoc,I.freeC x c hc⟩ hs,by simpa using I.len⟩ ⟨c,hs,.inr hc⟩
  ·exact (hs.2 b (RK (RU (Rt e) (I.ok.cab x c hfn hc)))).trans (I.base.keep b o e n hb hx)
  ·obtain ⟨sl,e1⟩:=I.base.slot b o e n hb hx
   exact ⟨sl,(hs.2 b (RK (RU (Rt e) (I.ok.cab x c hfn hc)))).trans e1⟩
  ·obtain ⟨o',e1⟩:=I.base.there b o e hx
   exact ⟨o',(hs.2 b (RK (RU (Rt e) (I.ok.cab x c hfn hc)))).trans e1⟩
  ·by_cases hj:j=i
   ·subst hj
    rw[hi] at e1;cases e1
    rw[Sg hiσ] at e2
    cases e2
    exact ⟨u,r,.inr ⟨.inl hk,c,hc,hc'⟩⟩
   ·rw[Se (SH hj)] at e2
    obtain ⟨u',r',q⟩:=hl j y v' e1 e2 e3
    refine ⟨u',r',?_⟩
    rcases q with q | ⟨k,c',e,z'⟩
    ·exact .inl q
    ·refine .inr ⟨k,c',e,z'.sameBut hs ?_⟩
     rintro rfl
     exact hj (tL hN e1 (I.ok.inj _ _ _ e hc ▸ hi))
  ·by_cases hcc:c'=c
   ·subst hcc;exact ⟨_,hc'⟩
   ·obtain ⟨w2,z2⟩:=I.cell y c' e
    exact ⟨w2,z2.sameBut hs hcc⟩
  ·obtain ⟨e,n,ne,nf,d⟩:=I.pin p hp
   refine ⟨(hs.2 p.1 ?_).trans e,n,ne,nf,d⟩
   intro q
   rw[q,hoc] at e
   have q':oc=p.2:=Ry e
   exact d w' (by rw[← q'];exact hocd)
theorem nT {M:Model}{A:Sw}{E:Rl->Rm->Prop}{i:Nat}{x:Str}{v:V}{u:Rl}{Q:Unit->Rm->Prop} (I:Inv X pins σ H s) (hN:X.N.Nodup) (hi:X.N[i]?=some x) (hx:Loc X.env.scope x) (r:RelV v u)
 (h:∀ s',Inv X pins (σ.set i (some v)) H s'->Q () s') (hf:X.fn x=true\/X.env.scope.names.lookup x=some .local:=by first | exact .inl rfl | exact .inr rfl | assumption):wpAny M A (storeName X.env x u) Q E s :=
 qu I hN hi hx r (fun s' I' _=>h s' I') hf
theorem Inv.KQ {s':Rm}{ch:List Rz} (I:Inv X pins σ H s) (ho:s'.os=s.os) (u:Un (frs X.stack) ch H H' s.heap s'.heap) (hok:HOk X.prog X.w H' s'.heap) (hg:V7 s'.gens)
 (hch:∀ b∈ch,(b∈X.ex\/X.s₀.heap.objs.size<=b)/\b≠X.env.locals/\(∀ x c,X.env.cells.lookup x=some c->c≠b)/\∀ p∈X.pn++pins,p.1≠b):Inv X pins σ H' s':=by
 obtain ⟨h',g',d',t',o'⟩:=s'
 have e:o'=s.os:=ho
 subst e
 exact I.call (g':=g') (t':=t') (d':=d') u hok hg hch
end
noncomputable abbrev XK:=Rl->Option Rz->Hp->Prop
noncomputable abbrev St:=List (Option V)
noncomputable abbrev VK:=V->Hp->Prop
noncomputable abbrev TE:=St->Hp->VK->Prop
noncomputable abbrev TT:=St->Hp->(Bool->Hp->Prop)->Prop
noncomputable abbrev TA:=St->Hp->(List V->Hp->Prop)->Prop
structure Ends where
 nx:St->Hp->Prop
 rt:VK
 bk:St->Hp->Prop:=fun _ _=>False
 ct:St->Hp->Prop:=fun _ _=>False
noncomputable abbrev TS:=Ends->St->Hp->Prop
inductive EP (X:Cx) (pins:List (Rz×Obj)) (σ:St) (Q:VK) (u:Rl) (s':Rm):Prop where
 | mk (v:V) (H':Hp) (I:Inv X pins σ H' s') (r:RelV v u) (q:Q v H'):EP X pins σ Q u s'
inductive TP (X:Cx) (pins:List (Rz×Obj)) (σ:St) (Q:Bool->Hp->Prop) (b:Bool) (s':Rm):Prop where
 | mk (H':Hp) (I:Inv X pins σ H' s') (q:Q b H'):TP X pins σ Q b s'
inductive AP (X:Cx) (pins:List (Rz×Obj)) (σ:St) (Q:List V->Hp->Prop) (us:List Rl) (s':Rm):Prop where
 | mk (vs:List V) (H':Hp) (I:Inv X pins σ H' s') (r:c9 vs us) (q:Q vs H'):AP X pins σ Q us s'
noncomputable def SP (X:Cx) (pins:List (Rz×Obj)) (D:Ends) (f:Flow) (s':Rm):Prop :=
 match f with
 | .next=>∃ σ' H',Inv X pins σ' H' s'/\D.nx σ' H'
 | .brk=>∃ σ' H',Inv X pins σ' H' s'/\D.bk σ' H'
 | .cont=>∃ σ' H',Inv X pins σ' H' s'/\D.ct σ' H'
 | .ret u=>∃ v σ' H',Inv X pins σ' H' s'/\RelV v u/\D.rt v H'
noncomputable def PE (X:Cx) (e:Uq) (t:TE):Prop :=
 ∀ (pins:List (Rz×Obj)) (s:Rm) (σ:St) (H:Hp) (Q:VK),Inv X pins σ H s->t σ H Q->wpAny (RX X.prog X.w) X.A (eval e X.env) (EP X pins σ Q) X.xe s
noncomputable def PT (X:Cx) (e:Uq) (t:TT):Prop :=
 ∀ (pins:List (Rz×Obj)) (s:Rm) (σ:St) (H:Hp) (Q:Bool->Hp->Prop),Inv X pins σ H s->t σ H Q->wpAny (RX X.prog X.w) X.A (isTrue e X.env (eval e X.env)) (TP X pins σ Q) X.xe s
noncomputable def PW (X:Cx) (e:Uq) (t:TT):Prop :=
 ∀ (whole:Sem Rl) (pins:List (Rz×Obj)) (s:Rm) (σ:St) (H:Hp) (Q:Bool->Hp->Prop),Inv X pins σ H s->t σ H Q->wpAny (RX X.prog X.w) X.A (isTrue e X.env whole) (TP X pins σ Q) X.xe s
theorem PW.pt {X:Cx}{e:Uq}{t:TT} (h:PW X e t):PT X e t:=h _
noncomputable def PA (X:Cx) (es:List Uq) (t:TA):Prop :=
 ∀ (pos:Pos) (pins:List (Rz×Obj)) (s:Rm) (σ:St) (H:Hp) (Q:List V->Hp->Prop),Inv X pins σ H s->t σ H Q->wpAny (RX X.prog X.w) X.A (Wv (T9 pos (R8 es X.env))) (AP X pins σ Q) X.xe s
noncomputable def PS (X:Cx) (st:VF) (t:TS):Prop :=
 ∀ (pins:List (Rz×Obj)) (s:Rm) (σ:St) (H:Hp) (D:Ends),Inv X pins σ H s->t D σ H->wpAny (RX X.prog X.w) X.A (exec st X.env) (SP X pins D) X.xe s
noncomputable def PSs (X:Cx) (st:List VF) (t:TS):Prop :=
 ∀ (pins:List (Rz×Obj)) (s:Rm) (σ:St) (H:Hp) (D:Ends),Inv X pins σ H s->t D σ H->wpAny (RX X.prog X.w) X.A (execs st X.env) (SP X pins D) X.xe s
theorem thn {α:Type}{t:Sem α}{Q Q':α->Rm->Prop}{M:Model}{A:Sw}{E:Rl->Rm->Prop}{s:Rm} (h:wpAny M A t Q E s) (hQ:∀ a s,Q a s->Q' a s):wpAny M A t Q' E s:=SX h hQ fun _ _ x=>x
end L2
namespace L2
open PySem PySem.Spec PyProof.Rows
section
variable {X:Cx}
theorem bin {a b:Uq}{ta tb:TE} (ha:PE X a ta) (hb:PE X b tb) {pins:List (Rz×Obj)}{s:Rm}{σ:St}{H:Hp}{R:V->V->Hp->Prop} (I:Inv X pins σ H s) (h:ta σ H fun x H1=>tb σ H1 fun y H2=>R x y H2)
 {α:Type}{Q:α->Rm->Prop}{f:Rl->Rl->Sem α}
 (hf:∀ v u s2 x y H2,Inv X pins σ H2 s2->RelV x v->RelV y u->R x y H2->wpAny (RX X.prog X.w) X.A (f v u) Q X.xe s2) :
 wpAny (RX X.prog X.w) X.A (eval a X.env) (fun v s₁=>wpAny (RX X.prog X.w) X.A (eval b X.env) (fun u s₂=>wpAny (RX X.prog X.w) X.A (f v u) Q X.xe s₂) X.xe s₁) X.xe s:=by
 refine thn (ha pins s σ H _ I h) fun v s1 zq=>?_
 obtain ⟨x,H1,I1,r1,q1⟩:=zq
 refine thn (hb pins s1 σ H1 _ I1 q1) fun u s2 zq=>?_
 obtain ⟨y,H2,I2,r2,q2⟩:=zq
 exact hf v u s2 x y H2 I2 r1 r2 q2
noncomputable def OL (i:Nat):TE:=fun σ H Q=>∃ v,σ[i]?=some (some v)/\Q v H
noncomputable def tC (v:V):TE:=fun _ H Q=>Q v H
theorem z6 {i:Nat}{x:Str}{pos:Pos} (hN:X.N[i]?=some x) (hv:Vis X.env.scope x) (hd:(x==("__debug__":Str))=false:=by decide) (hcd:(x==("__classdict__":Str))=false:=by decide):PE X (.Name x pos) (OL i):=by
 intro pins s σ H Q I h
 obtain ⟨v,e,h⟩:=h
 obtain ⟨m,hn,hl⟩:=I.loc
 obtain ⟨u,r,l⟩:=hl i x v hN e hv
 have fin:EP X pins σ Q u s:=⟨v,H,I,r,h⟩
 rcases l with ⟨hk,hm⟩ | ⟨hk,c,hc,hcell⟩
 ·exact wpAny_Name (wpAny_loadName_local I.ok.kind hk hn hm fin) hd
 ·rcases hk with hk | hk
  ·exact wpAny_Name (wpAny_loadName_cell I.ok.kind hk hc hcell fin) hd
  ·exact wpAny_Name (wpAny_loadName_free I.ok.kind hk hc hcell fin hcd) hd
theorem u6 {i j pos}:PE X (.Constant (.int i) j pos) (tC (.int i)):=fun _ _ _ H _ I h=>wpAny_Constant_int ⟨.int i,H,I.tok _,⟨_,rfl⟩,h⟩
theorem KR {b j pos}:PE X (.Constant (.bool b) j pos) (tC (.bl b)):=fun _ _ _ H _ I h=>Constant_bool ⟨.bl b,H,I,rfl,h⟩
theorem G5 {j pos}:PE X (.Constant .none j pos) (tC .non):=fun _ _ _ H _ I h=>Constant_none ⟨.non,H,I,rfl,h⟩
theorem G6 {x j pos}:PE X (.Constant (.str x) j pos) (tC (.str x)):=fun _ _ _ H _ I h=>Calls.Constant_str ⟨.str x,H,I.tok _,⟨_,rfl⟩,h⟩
noncomputable def Gl (X:Cx) (x:Str):Prop:=X.env.kindOf x=some .globalImplicit
theorem kT {E:Rl->Rm->Prop}{pins:List (Rz×Obj)}{s:Rm}{σ:St}{H:Hp}{x:Str}{u:Rl}{pos:Pos}{Q:Rl->Rm->Prop} (I:Inv X pins σ H s) (hg:Gl X x) (hm:X.mg x=some u) (h:Q u s)
 (hd:(x==("__debug__":Str))=false:=by decide):wpAny (RX X.prog X.w) X.A (eval (.Name x pos) X.env) Q E s :=
 VW I.ok.kind hg (Calls.loadGlobal_global (by rw[I.ok.glob];exact I.mod.glob.keeps I.bk) hm h) hd
theorem gS {E:Rl->Rm->Prop}{pins:List (Rz×Obj)}{s:Rm}{σ:St}{H:Hp}{x:Str}{u:Rl}{pos:Pos}{Q:Rl->Rm->Prop} (I:Inv X pins σ H s) (hg:Gl X x) (hm:X.mg x=none) (hv:UI x=some u) (h:Q u s)
 (hn:x≠"__name__":=by decide) (hd:(x==("__debug__":Str))=false:=by decide):wpAny (RX X.prog X.w) X.A (eval (.Name x pos) X.env) Q E s:=by
 obtain ⟨mb,h1,h2⟩:=I.mod.blt
 exact VW I.ok.kind hg (Calls.loadGlobal_builtin (by rw[I.ok.glob];exact I.mod.glob.keeps I.bk) hm (by rw[I.ok.blt];exact h1.keeps I.bk) ((h2 x hn).trans hv) h) hd
theorem wJ {x:Str}{v:V}{u:Rl}{pos:Pos} (hg:Gl X x) (hm:X.mg x=some u) (r:RelV v u) (hd:(x==("__debug__":Str))=false:=by decide):PE X (.Name x pos) (tC v) :=
 fun _ _ _ H _ I h=>kT I hg hm ⟨v,H,I,r,h⟩ hd
theorem kU {x:Str}{v:V}{u:Rl}{pos:Pos} (hg:Gl X x) (hm:X.mg x=none) (hv:UI x=some u) (r:RelV v u) (hn:x≠"__name__":=by decide) (hd:(x==("__debug__":Str))=false:=by decide):PE X (.Name x pos) (tC v) :=
 fun _ _ _ H _ I h=>gS I hg hm hv ⟨v,H,I,r,h⟩ hn hd
variable {a b:Uq}{ta tb:TE}{pos:Pos}
noncomputable def tB (t:TE):TT:=fun σ H Q=>t σ H fun x H1=>∃ c,x=.bl c/\Q c H1
theorem G7 {e:Uq}{t:TE} (h:PE X e t) (he:∀ whole,isTrue e X.env whole=(do let v ← whole;Wu e.pos;UK [v] (truthy v)):=by intro _;rfl):PT X e (tB t):=by
 intro pins s σ H Q I hw
 refine isTrue_plain (thn (h pins s σ H _ I hw) fun v s1 ⟨x,H1,I1,r1,q1⟩=>?_) (he _)
 obtain ⟨d,rfl,q⟩:=q1
 cases r1
 exact SL ⟨H1,I1,q⟩
variable {tA tB':TT}{rest:List Uq}
noncomputable def KS (t u:TT):TT:=fun σ H Q=>t σ H fun c H1=>if c=true then u σ H1 Q else Q false H1
noncomputable def tOr (t u:TT):TT:=fun σ H Q=>t σ H fun c H1=>if c=true then Q true H1 else u σ H1 Q
noncomputable def KU (t:TT):TT:=fun σ H Q=>t σ H fun c H1=>Q (!c) H1
theorem Dy (ha:PT X a tA):PW X (.BoolOp .And [a] pos) tA:=by
 intro wh pins s σ H Q I h
 refine isTrue_and (thn (ha pins s σ H Q I h) fun c s1 e=>?_)
 cases c with
 | true=>exact isTrue_and_nil e
 | false=>exact e
theorem G8 (ha:PT X a tA):PW X (.BoolOp .Or [a] pos) tA:=by
 intro wh pins s σ H Q I h
 refine isTrue_or (thn (ha pins s σ H Q I h) fun c s1 e=>?_)
 cases c with
 | false=>exact isTrue_or_nil e
 | true=>exact e
theorem z8 (ha:PT X a tA) (hb:PW X (.BoolOp .And (b :: rest) pos) tB'):PW X (.BoolOp .And (a :: b :: rest) pos) (KS tA tB'):=by
 intro wh pins s σ H Q I h
 refine isTrue_and (thn (ha pins s σ H _ I h) fun c s1 zq=>?_)
 obtain ⟨H1,I1,q1⟩:=zq
 cases c with
 | true=>exact hb wh pins s1 σ H1 Q I1 q1
 | false=>exact ⟨H1,I1,q1⟩
theorem Gx (ha:PT X a tA) (hb:PW X (.BoolOp .Or (b :: rest) pos) tB'):PW X (.BoolOp .Or (a :: b :: rest) pos) (tOr tA tB'):=by
 intro wh pins s σ H Q I h
 refine isTrue_or (thn (ha pins s σ H _ I h) fun c s1 zq=>?_)
 obtain ⟨H1,I1,q1⟩:=zq
 cases c with
 | true=>exact ⟨H1,I1,q1⟩
 | false=>exact hb wh pins s1 σ H1 Q I1 q1
theorem G9 (ha:PT X a tA):PT X (.UnaryOp .Not a pos) (KU tA):=by
 intro pins s σ H Q I h
 exact isTrue_not (thn (ha pins s σ H (fun c H1=>Q (!c) H1) I h) fun c s' z=>by obtain ⟨H1,I1,q⟩:=z;exact ⟨H1,I1,q⟩)
noncomputable def Gy (ta tb:TE):TE:=fun σ H Q=>ta σ H fun x H1=>∃ c,x=.bl c/\if c=true then tb σ H1 Q else Q (.bl false) H1
noncomputable def KW (ta tb:TE):TE:=fun σ H Q=>ta σ H fun x H1=>∃ c,x=.bl c/\if c=true then Q (.bl true) H1 else tb σ H1 Q
noncomputable def Gz (ta:TE):TE:=fun σ H Q=>ta σ H fun x H1=>∃ c,x=.bl c/\Q (.bl (!c)) H1
theorem z9 {op}{t:TE} (h:PE X a t):PE X (.BoolOp op [a] pos) t:=fun pins s σ H Q I hw=>BoolOp_one (h pins s σ H Q I hw)
theorem Aa (ha:PE X a ta) (hb:PE X (.BoolOp .And (b :: rest) pos) tb):PE X (.BoolOp .And (a :: b :: rest) pos) (Gy ta tb):=by
 intro pins s σ H Q I h
 refine BoolOp_and (thn (ha pins s σ H _ I h) fun v s1 zq=>?_)
 obtain ⟨x,H1,I1,r1,q1⟩:=zq
 obtain ⟨c,rfl,q1⟩:=q1
 cases r1
 refine SL ?_
 cases c with
 | true=>exact hb pins s1 σ H1 Q I1 q1
 | false=>exact ⟨.bl false,H1,I1,rfl,q1⟩
theorem GA (ha:PE X a ta) (hb:PE X (.BoolOp .Or (b :: rest) pos) tb):PE X (.BoolOp .Or (a :: b :: rest) pos) (KW ta tb):=by
 intro pins s σ H Q I h
 refine BoolOp_or (thn (ha pins s σ H _ I h) fun v s1 zq=>?_)
 obtain ⟨x,H1,I1,r1,q1⟩:=zq
 obtain ⟨c,rfl,q1⟩:=q1
 cases r1
 refine SL ?_
 cases c with
 | false=>exact hb pins s1 σ H1 Q I1 q1
 | true=>exact ⟨.bl true,H1,I1,rfl,q1⟩
theorem Hf (ha:PE X a ta):PE X (.UnaryOp .Not a pos) (Gz ta):=by
 intro pins s σ H Q I h
 refine UnaryOp_ (thn (ha pins s σ H _ I h) fun v s1 zq=>?_)
 obtain ⟨x,H1,I1,r1,q1⟩:=zq
 obtain ⟨c,rfl,q1⟩:=q1
 cases r1
 exact not_of (SL ⟨.bl (!c),H1,I1,rfl,q1⟩)
noncomputable def tIf (t:TT) (ta tb:TE):TE:=fun σ H Q=>t σ H fun c H1=>if c=true then ta σ H1 Q else tb σ H1 Q
theorem Ab {c:Uq} (hc:PT X c tA) (ha:PE X a ta) (hb:PE X b tb):PE X (.IfExp c a b pos) (tIf tA ta tb):=by
 intro pins s σ H Q I h
 refine wpAny_IfExp (thn (hc pins s σ H _ I h) fun d s1 zq=>?_)
 obtain ⟨H1,I1,q1⟩:=zq
 cases d with
 | true=>exact ha pins s1 σ H1 Q I1 q1
 | false=>exact hb pins s1 σ H1 Q I1 q1
end
end L2
namespace L2
open PySem PySem.Spec PyProof.Rows
noncomputable def SqL (K:Rj) (H:Hp) (a:Rz) (xs:List V):Prop :=
 Rd H a (.lst xs) ∨
  ∃ (o:Obj) (its:Array Rl) (n:Nat),K.lookup a=some o/\o.cls=.type "list"/\o.dict=none/\o.data=.seq its n/\its.size<=sizeLine/\c9 xs its.toList
noncomputable def SqT (K:Rj) (H:Hp) (a:Rz) (xs:List V):Prop :=
 Rd H a (.tup xs) ∨
  ∃ (o:Obj) (its:Array Rl) (n:Nat),K.lookup a=some o/\o.cls=.type "tuple"/\o.data=.seq its n/\its.size<=sizeLine/\c9 xs its.toList
noncomputable def OM:Rl->Option V
 | .none=>some .non
 | .bool b=>some (.bl b)
 | .int i _=>some (.int i)
 | .str x _=>some (.str x)
 | .bytes b _=>some (.byt b)
 | .float b _=>some (.flt b)
 | .ref a=>some (.ref a)
 | .type n=>some (.ty n)
 | _=>none
theorem RelV.abs {x:V}{u:Rl} (r:RelV x u):OM u=some x:=by
 cases x with
 | non=>cases r;rfl
 | bl _=>cases r;rfl
 | int _=>obtain ⟨t,rfl⟩:=r;rfl
 | str _=>obtain ⟨t,rfl⟩:=r;rfl
 | byt _=>obtain ⟨t,rfl⟩:=r;rfl
 | flt _=>obtain ⟨t,rfl⟩:=r;rfl
 | ref _=>cases r;rfl
 | ty _=>cases r;rfl
theorem RelV.inj {x y:V}{u:Rl} (r:RelV x u) (q:RelV y u):x=y:=Ry (r.abs.symm.trans q.abs)
theorem c9.inj:∀ {xs ys:List V}{us:List Rl},c9 xs us->c9 ys us->xs=ys
 | _,_,_,.nil,.nil=>rfl
 | _,_,_,.cons r t,.cons r' t'=>by rw[r.inj r',c9.inj t t']
section
variable {X:Cx}{pins:List (Rz×Obj)}{σ:St}{H:Hp}{s:Rm}{a:Rz}{xs ys:List V}
theorem Inv.list (I:Inv X pins σ H s) (h:SqL X.K H a xs):∃ its:List Rl,c9 xs its/\PlainL s.heap a its.toArray/\xs.length<=sizeLine:=by
 rcases h with h | ⟨o,its,n,hk,hc,hd,hs,hz,r⟩
 ·obtain ⟨z,its,n,r,e⟩:=h.ok I.hok
  exact ⟨its,r,⟨_,n,e,rfl,rfl,rfl⟩,z⟩
 ·refine ⟨its.toList,r,⟨o,n,I.kIn a o hk,hc,hd,by simpa using hs⟩,?_⟩
  have e:=r.length
  simp only[Vc] at e
  lia
theorem Inv.tuple (I:Inv X pins σ H s) (h:SqT X.K H a xs):∃ its:List Rl,c9 xs its/\IsTup s.heap a its.toArray/\xs.length<=sizeLine:=by
 rcases h with h | ⟨o,its,n,hk,hc,hs,hz,r⟩
 ·obtain ⟨z,its,r,p⟩:=h.ok I.hok
  exact ⟨its,r,p,z⟩
 ·refine ⟨its.toList,r,⟨o,I.kIn a o hk,hc,n,by simpa using hs⟩,?_⟩
  have e:=r.length
  simp only[Vc] at e
  lia
theorem Inv.tM (I:Inv X pins σ H s) (h:SqL X.K H a xs) (h':SqL X.K H a ys):xs=ys:=by
 obtain ⟨its,r,⟨o,n,e,_,_,d⟩,_⟩:=I.list h
 obtain ⟨its',r',⟨o',n',e',_,_,d'⟩,_⟩:=I.list h'
 rw[e] at e';cases e'
 rw[d] at d'
 injection d' with d1 _
 have:its=its':=by simpa using congrArg WH d1
 subst this
 exact r.inj r'
theorem Inv.yw (I:Inv X pins σ H s) (h:SqT X.K H a xs) (h':SqT X.K H a ys):xs=ys:=by
 obtain ⟨its,r,⟨o,e,_,n,d⟩,_⟩:=I.tuple h
 obtain ⟨its',r',⟨o',e',_,n',d'⟩,_⟩:=I.tuple h'
 rw[e] at e';cases e'
 rw[d] at d'
 injection d' with d1 _
 have:its=its':=by simpa using congrArg WH d1
 subst this
 exact r.inj r'
end
noncomputable abbrev Cx.pT (X:Cx) (E:Rl->Rm->Prop):Cx:={ X with xe:=E }
noncomputable abbrev Cx.nox (X:Cx):Cx:=X.pT fun _ _=>False
theorem Cx.Ok.pT {X:Cx} (ok:X.Ok) (E:Rl->Rm->Prop):(X.pT E).Ok :=
 ⟨ok.mod,ok.kind,ok.glob,ok.blt,ok.above,ok.inj,ok.has,ok.cab,ok.hd,ok.frames,ok.stk,ok.exf,ok.bs,ok.bsz,ok.noex,ok.exfs,ok.kE,ok.frf⟩
theorem Cx.Ok.jD {X:Cx}{E:Rl->Rm->Prop} (ok:(X.pT E).Ok):X.Ok :=
 ⟨ok.mod,ok.kind,ok.glob,ok.blt,ok.above,ok.inj,ok.has,ok.cab,ok.hd,ok.frames,ok.stk,ok.exf,ok.bs,ok.bsz,ok.noex,ok.exfs,ok.kE,ok.frf⟩
section
variable {X:Cx}{pins:List (Rz×Obj)}{σ:St}{H:Hp}{s:Rm}{E:Rl->Rm->Prop}
theorem Inv.pT (I:Inv X pins σ H s) (E:Rl->Rm->Prop):Inv (X.pT E) pins σ H s:=⟨I.ok.pT E,I.os,I.bare,I.base,I.loc,I.cell,I.free,I.freeC,I.pin,I.hok,I.len⟩
theorem Inv.jD (I:Inv (X.pT E) pins σ H s):Inv X pins σ H s:=⟨I.ok.jD,I.os,I.bare,I.base,I.loc,I.cell,I.free,I.freeC,I.pin,I.hok,I.len⟩
theorem SP.jD {D:Ends}{f:Flow}{s':Rm} (h:SP (X.pT E) pins D f s'):SP X pins D f s':=by
 cases f with
 | next=>obtain ⟨σ',H',I,q⟩:=h;exact ⟨σ',H',I.jD,q⟩
 | brk=>obtain ⟨σ',H',I,q⟩:=h;exact ⟨σ',H',I.jD,q⟩
 | cont=>obtain ⟨σ',H',I,q⟩:=h;exact ⟨σ',H',I.jD,q⟩
 | ret u=>obtain ⟨v,σ',H',I,r,q⟩:=h;exact ⟨v,σ',H',I.jD,r,q⟩
theorem PSs.nox {st:List VF}{t:TS} (h:PSs X.nox st t):PSs X st t:=fun pins s σ H D I hw =>
 SX (h pins s σ H D (I.pT _) hw) (fun _ _ q=>q.jD) fun _ _ z=>Sk z
end
section
variable {X:Cx}{st:VF}{rest:List VF}{t u:TS}{e:Uq}{te:TE}{pos:Pos}
noncomputable def KY:TS:=fun D σ H=>D.nx σ H
noncomputable def KZ (t u:TS):TS:=fun D σ H=>t { D with nx:=u D } σ H
theorem Dz:PSs X [] KY:=fun _ _ σ H _ I h=>Vh ⟨σ,H,I,h⟩
theorem tN (h1:PS X st t) (h2:PSs X rest u):PSs X (st :: rest) (KZ t u):=by
 intro pins s σ H D I h
 refine wpAny_execs_cons (thn (h1 pins s σ H { D with nx:=u D } I h) fun f s1 q=>?_)
 cases f with
 | next =>
  obtain ⟨σ',H',I',q⟩:=q
  exact h2 pins s1 σ' H' D I' q
 | ret v=>exact q
 | brk=>exact q
 | cont=>exact q
theorem wK (h1:PS X st t):PSs X [st] t:=by
 intro pins s σ H D I h
 refine wpAny_execs_cons (thn (h1 pins s σ H D I h) fun f s1 q=>?_)
 cases f with
 | next=>exact Vh q
 | ret v=>exact q
 | brk=>exact q
 | cont=>exact q
noncomputable def Hg:TS:=fun D σ H=>D.bk σ H
noncomputable def K0:TS:=fun D σ H=>D.ct σ H
theorem Ac:PS X (.Break pos) Hg:=fun _ _ σ H _ I h=>wpAny_Break ⟨σ,H,I,h⟩
theorem tO:PS X (.Continue pos) K0:=fun _ _ σ H _ I h=>wpAny_Continue ⟨σ,H,I,h⟩
theorem Inv.quiet {pins:List (Rz×Obj)}{σ:St}{H:Hp}{s:Rm} (I:Inv X pins σ H s):interactive X.env=false:=by simp[interactive,I.ok.kind]
noncomputable def K1 (te:TE):TS:=fun D σ H=>te σ H fun _ H1=>D.nx σ H1
theorem DA (he:PE X e te) (hs:Uy e none pos.line X.env=pure false:=by rfl):PS X (.Expr e pos) (K1 te):=by
 intro pins s σ H D I h
 exact wpAny_Expr_any (thn (he pins s σ H _ I h) fun v s1 ⟨x,H1,I1,r1,q1⟩=>⟨σ,H1,I1,q1⟩) I.quiet hs
noncomputable def ON (te:TE):TS:=fun D σ H=>te σ H D.rt
theorem Ad (he:PE X e te):PS X (.Return (some e) pos) (ON te):=by
 intro pins s σ H D I h
 exact wpAny_Return_some (thn (he pins s σ H _ I h) fun v s1 ⟨x,H1,I1,r1,q1⟩=>⟨x,σ,H1,I1,r1,q1⟩)
noncomputable def OO (c:TT) (t u:TS):TS:=fun D σ H=>c σ H fun b H1=>if b=true then t D σ H1 else u D σ H1
theorem K2 {c:Uq}{a b:List VF}{tc:TT} (hc:PT X c tc) (ha:PSs X a t) (hb:PSs X b u):PS X (.If c a b pos) (OO tc t u):=by
 intro pins s σ H D I h
 refine wpAny_If (thn (hc pins s σ H _ I h) fun d s1 zq=>?_)
 obtain ⟨H1,I1,q1⟩:=zq
 cases d with
 | true=>exact ha pins s1 σ H1 D I1 q1
 | false=>exact hb pins s1 σ H1 D I1 q1
end
noncomputable abbrev TG:=V->St->Hp->(St->Hp->Prop)->Prop
noncomputable abbrev TGs:=List V->St->Hp->(St->Hp->Prop)->Prop
noncomputable def PG (X:Cx) (target:Uq) (t:TG):Prop :=
 ∀ (pins:List (Rz×Obj)) (s:Rm) (σ:St) (H:Hp) (v:V) (u:Rl) (Q:St->Hp->Prop),Inv X pins σ H s->RelV v u->t v σ H Q →
  wpAny (RX X.prog X.w) X.A (V8 target X.env u) (fun _ s'=>∃ σ' H',Inv X pins σ' H' s'/\Q σ' H') X.xe s
noncomputable def PGs (X:Cx) (ts:List Uq) (t:TGs):Prop :=
 ∀ (pins:List (Rz×Obj)) (s:Rm) (σ:St) (H:Hp) (vs:List V) (us:List Rl) (Q:St->Hp->Prop),Inv X pins σ H s->c9 vs us->t vs σ H Q →
  wpAny (RX X.prog X.w) X.A (assignInOrder ((TX ts X.env).map (·.2)) us) (fun _ s'=>∃ σ' H',Inv X pins σ' H' s'/\Q σ' H') X.xe s
noncomputable abbrev Hh:=V->V->V->Hp->(Hp->Prop)->Prop
noncomputable def Hi (X:Cx) (t:Hh):Prop :=
 ∀ (pins:List (Rz×Obj)) (s:Rm) (σ:St) (H:Hp) (o i v:V) (ov iv u:Rl) (Q:Hp->Prop),Inv X pins σ H s->RelV o ov->RelV i iv->RelV v u->t o i v H Q →
  wpAny (RX X.prog X.w) X.A (setItem ov iv u) (fun _ s'=>∃ H',Inv X pins σ H' s'/\Q H') X.xe s
noncomputable abbrev TIp:=V->V->Hp->VK->Prop
noncomputable def PIp (X:Cx) (op:UJ) (t:TIp):Prop :=
 ∀ (pins:List (Rz×Obj)) (s:Rm) (σ:St) (H:Hp) (x y:V) (v u:Rl) (Q:VK),Inv X pins σ H s->RelV x v->RelV y u->t x y H Q →
  wpAny (RX X.prog X.w) X.A (inplaceOp op v u) (EP X pins σ Q) X.xe s
section
variable {X:Cx}{pos:Pos}
noncomputable def wL (i:Nat):TG:=fun v σ H Q=>Q (σ.set i (some v)) H
theorem wM {i:Nat}{x:Str} (hN:X.N.Nodup) (hi:X.N[i]?=some x) (hx:Loc X.env.scope x) (hf:X.fn x=true\/X.env.scope.names.lookup x=some .local:=by first | exact .inl rfl | exact .inr rfl | assumption):PG X (.Name x pos) (wL i):=by
 intro pins s σ H v u Q I r h
 exact wpAny_assign_Name (nT I hN hi hx r (fun s' I'=>⟨_,H,I',h⟩) hf)
noncomputable def K3:TGs:=fun vs σ H Q=>vs=[]/\Q σ H
noncomputable def K4 (t:TG) (u:TGs):TGs:=fun vs σ H Q=>∃ v r,vs=v :: r/\t v σ H fun σ' H'=>u r σ' H' Q
theorem DB:PGs X [] K3:=by
 intro pins s σ H vs us Q I r h
 obtain ⟨e,h⟩:=h
 subst e
 cases r
 exact assignInOrder_nil ⟨σ,H,I,h⟩
theorem Ae {e:Uq}{es:List Uq}{t:TG}{u:TGs} (h1:PG X e t) (h2:PGs X es u)
 (hs:(TX (e :: es) X.env).map (·.2)=V8 e X.env :: (TX es X.env).map (·.2):=by rfl):PGs X (e :: es) (K4 t u):=by
 intro pins s σ H vs us Q I r h
 obtain ⟨v,vr,e1,h⟩:=h
 subst e1
 cases r with
 | cons r rr =>
  rw[hs]
  refine assignInOrder_cons (thn (h1 pins s σ H _ _ _ I r h) fun _ s1 zq=>?_)
  obtain ⟨σ1,H1,I1,q1⟩:=zq
  exact h2 pins s1 σ1 H1 _ _ Q I1 rr q1
noncomputable def OP (K:Rj) (n:Nat) (t:TGs):TG:=fun v σ H Q=>∃ a xs,v=.ref a/\SqT K H a xs/\xs.length=n/\t xs σ H Q
theorem Hj {es:List Uq}{k:Nat}{t:TGs}{n:Nat} (hc:X.calm=true) (h:PGs X es t)
 (hn:(TX es X.env).length=n:=by rfl) (hst:(TX es X.env).findIdx? (·.1)=none:=by rfl):PG X (.Tuple es k pos) (OP X.K n t):=by
 intro pins s σ H v u Q I r hw
 obtain ⟨a,xs,e1,hq,hl,hw⟩:=hw
 subst e1
 cases r
 obtain ⟨its,rv,ht,hz⟩:=I.tuple hq
 refine assign_Tuple_tuple (I.ok.hd hc) ht (by simp[hn,← hl,rv.length]) hst fun h' hx=>?_
 have I1:Inv X pins σ H { s with heap:=h' }:=I.kept (t':=s.toks) fun b o e=>hx b o (RK (Rt e)) e
 exact h pins _ σ H xs _ Q I1 (by simpa using rv) hw
noncomputable def Hl (to ti:TE) (t:Hh):TG:=fun v σ H Q=>to σ H fun o H1=>ti σ H1 fun i H2=>t o i v H2 fun H3=>Q σ H3
theorem Af {o i:Uq}{to ti:TE}{t:Hh} (ho:PE X o to) (hi:PE X i ti) (hs:Hi X t)
 (ha:∀ v,V8 (.Subscript o i pos) X.env v=(do
  let ov ← UK [v] (eval o X.env)
  let iv ← UK [v,ov] (eval i X.env)
  Wu pos
  UK [v,ov,iv] (setItem ov iv v)
  release [v,ov,iv] []):=by intro _;rfl):PG X (.Subscript o i pos) (Hl to ti t):=by
 intro pins s σ H v u Q I r h
 rw[ha]
 refine Ro (Tf (thn (ho pins s σ H _ I h) fun ov s1 zq=>?_))
 obtain ⟨x,H1,I1,r1,q1⟩:=zq
 refine Ro (Tf (thn (hi pins s1 σ H1 _ I1 q1) fun iv s2 zq=>?_))
 obtain ⟨y,H2,I2,r2,q2⟩:=zq
 refine Ro (VM (Ro (Tf (thn (hs pins s2 σ H2 x y v ov iv u _ I2 r1 r2 r q2) fun _ s3 zq=>?_))))
 obtain ⟨H3,I3,q3⟩:=zq
 exact wpAny_release ⟨σ,H3,I3,q3⟩
noncomputable def yx (te:TE) (g:TG):TS:=fun D σ H=>te σ H fun x H1=>g x σ H1 D.nx
theorem u9 {tg e:Uq}{te:TE}{g:TG} (he:PE X e te) (hg:PG X tg g) (hs:swapsWithSole [tg] e pos.line X.env=pure false:=by rfl) (hw:swappedStores [tg] e X.env=pure none:=by rfl)
 (h1:(TX [tg] X.env).map (·.2)=[V8 tg X.env]:=by rfl):PS X (.Assign [tg] e pos) (yx te g):=by
 intro pins s σ H D I h
 refine wpAny_Assign_stores (thn (he pins s σ H _ I h) fun v s1 ⟨x,H1,I1,r1,q1⟩=>?_) hs hw
 rw[h1]
 exact thn (hg pins s1 σ H1 x v _ I1 r1 q1) fun _ s2 q=>q
theorem vc {i:Nat}{x:Str}{e:Uq}{te:TE}{pos':Pos} (hN:X.N.Nodup) (hi:X.N[i]?=some x) (hx:Loc X.env.scope x) (he:PE X e te) (hs:Uy e (some (.Name x pos')) pos.line X.env=pure false:=by rfl) (hf:X.fn x=true\/X.env.scope.names.lookup x=some .local:=by first | exact .inl rfl | exact .inr rfl | assumption) :
 PS X (.Assign [.Name x pos'] e pos) (yx te (wL i)):=by
 intro pins s σ H D I h
 refine wpAny_Assign_Name (thn (he pins s σ H _ I h) fun v s1 ⟨y,H1,I1,r1,q1⟩=>?_) hs
 exact nT I1 hN hi hx r1 (fun s2 I2=>⟨_,H1,I2,q1⟩) hf
noncomputable def K5 (i:Nat) (te:TE) (ti:TIp):TS:=fun D σ H=>∃ x,σ[i]?=some (some x)/\te σ H fun y H1=>ti x y H1 fun z H2=>D.nx (σ.set i (some z)) H2
theorem Ho {i:Nat}{x:Str}{e:Uq}{te:TE}{op:UJ}{ti:TIp}{pos':Pos} (hN:X.N.Nodup) (hi:X.N[i]?=some x) (hx:Loc X.env.scope x) (he:PE X e te) (ho:PIp X op ti) (hf:X.fn x=true\/X.env.scope.names.lookup x=some .local:=by first | exact .inl rfl | exact .inr rfl | assumption) :
 PS X (.AugAssign (.Name x pos') op e pos) (K5 i te ti):=by
 intro pins s σ H D I h
 obtain ⟨v,e1,h⟩:=h
 obtain ⟨m,hn,hl⟩:=I.loc
 have vis:Vis X.env.scope x:=by rcases hx with k | k;exact .inl k;exact .inr (.inl k)
 obtain ⟨u,r,l⟩:=hl i x v hi e1 vis
 refine wpAny_AugAssign_Name ?_
 have go:wpAny (RX X.prog X.w) X.A (eval e X.env) (fun w s₂=>wpAny (RX X.prog X.w) X.A (inplaceOp op u w) (fun r s₃=>wpAny (RX X.prog X.w) X.A (storeName X.env x r) (fun _=>SP X pins D .next) X.xe s₃) X.xe s₂) X.xe s:=by
  refine thn (he pins s σ H _ I h) fun w s1 zq=>?_
  obtain ⟨y,H1,I1,r1,q1⟩:=zq
  refine thn (ho pins s1 σ H1 v y u w _ I1 r r1 q1) fun z s2 zq=>?_
  obtain ⟨zv,H2,I2,r2,q2⟩:=zq
  exact nT I2 hN hi hx r2 (fun s3 I3=>⟨_,H2,I3,q2⟩) hf
 rcases l with ⟨hk,hm⟩ | ⟨hk,c,hc,hcell⟩
 ·exact wpAny_loadName_local I.ok.kind hk hn hm go
 ·rcases hk with hk | hk
  ·exact wpAny_loadName_cell I.ok.kind hk hc hcell go
  ·rcases hx with k | k
   ·have:X.env.scope.names.lookup x=some .free:=hk
    rw[k] at this;cases this
   ·have:X.env.scope.names.lookup x=some .free:=hk
    rw[k] at this;cases this
end
section
variable {X:Cx}{pos:Pos}
noncomputable def Ag (c:TT) (tb:TS):TS:=fun D σ H=>∃ W:Nat->St->Hp->Prop,(∃ m,W m σ H)/\∀ m σ H,W m σ H →
 c σ H fun b H1=>if b=true then ∃ N:St->Hp->Prop,(∀ σ' H',N σ' H'->∃ m',m' < m/\W m' σ' H')/\tb { D with nx:=N,ct:=N,bk:=D.nx } σ H1 else D.nx σ H1
theorem Ah {c:Uq}{body:List VF}{tc:TT}{tb:TS} (hp:PassesOwn (RX X.prog X.w) X.A X.env X.xe) (hc:PT X c tc) (hb:PSs X body tb):PS X (.While c body [] pos) (Ag tc tb):=by
 intro pins s σ H D I h
 obtain ⟨W,⟨m0,w0⟩,turn⟩:=h
 refine wpAny_While (codeAny_whileLoop (fun n s'=>∃ σ' H',Inv X pins σ' H' s'/\W n σ' H') ?_ m0 ⟨σ,H,I,w0⟩)
 rintro n s1 ⟨σ1,H1,I1,w1⟩
 refine TU hp (thn (hc pins s1 σ1 H1 _ I1 (turn n σ1 H1 w1)) fun b s2 zq=>?_)
 obtain ⟨H2,I2,q2⟩:=zq
 cases b with
 | true =>
  obtain ⟨N,hN,q2⟩:=q2
  rw[if_pos rfl]
  refine TU hp (thn (hb pins s2 σ1 H2 _ I2 q2) fun f s3 q3=>?_)
  cases f with
  | next =>
   obtain ⟨σ3,H3,I3,n3⟩:=q3
   obtain ⟨m',hm,w3⟩:=hN σ3 H3 n3
   exact ⟨m',hm,σ3,H3,I3,w3⟩
  | cont =>
   obtain ⟨σ3,H3,I3,n3⟩:=q3
   obtain ⟨m',hm,w3⟩:=hN σ3 H3 n3
   exact ⟨m',hm,σ3,H3,I3,w3⟩
  | brk=>exact q3
  | ret v=>exact q3
 | false =>
  rw[if_neg Ti]
  exact Vh ⟨σ1,H2,I2,q2⟩
end
structure It where
 go:Nat->Hp->Prop
 yld:Nat->Hp->V->Hp->Prop
 stop:Nat->Hp->Prop
noncomputable def pU (X:Cx) (pins:List (Rz×Obj)) (H:Hp) (b:Rz):Prop :=
 H b=none/\b≠X.env.locals/\b∉X.fs/\(b∈X.ex\/X.s₀.heap.objs.size<=b)/\(∀ x c,X.env.cells.lookup x=some c->c≠b)/\∀ p∈X.pn++pins,p.1≠b
theorem Inv.vd {X:Cx}{pins:List (Rz×Obj)}{σ:St}{H H':Hp}{s:Rm}{b:Rz} (I:Inv X pins σ H s) (hb:s.heap.objs.size<=b) (hn:H' b=none):pU X pins H' b:=by
 refine ⟨hn,TL (RU I.lt hb),I.OJ hb,.inr (Sq I.sz hb),fun x c e z=>?_,fun p hp z=>?_⟩
 ·obtain ⟨v,q⟩:=I.cell x c e
  exact absurd (RU q.lt (by rw[z];exact hb)) (SS _)
 ·exact absurd (RU (Rt (I.pin p hp).1) (by rw[z];exact hb)) (SS _)
structure Turn (P:RG) (w:Sb) (K:Rj) (tg:Uq) (J:It) (fp:List Rz) (it:Rz) (tn:Nat->Heap->Prop):Prop where
 mem:it∈fp
 obj:∀ i h,tn i h->∀ b∈fp,∃ o,h.get? b=some o/\∀ v,o.data≠.cell v
 keep:∀ i h h',tn i h->(∀ b∈fp,∀ o,h.get? b=some o->h'.get? b=some o)->tn i h'
 item:∀ (X:Cx),X.prog=P->X.w=w->X.K=K->X.calm=true->∀ (i:Nat) (pins:List (Rz×Obj)) (s:Rm) (σ:St) (H:Hp) (E:Rl->Rm->Prop),Inv X pins σ H s->(∀ b∈fp,pU X pins H b)->tn i s.heap->J.go i H →
  wpAny (RX P w) X.A (pyNext (.ref it)) (fun r s1=>∃ u,r=some u ∧
   wpAny (RX P w) X.A (Vi tg (.ref it) u) (fun _ s2=>∃ x H',Inv X pins σ H' s2/\RelV x u/\J.yld i H x H'/\tn (i+1) s2.heap/\∀ b∈fp,H' b=none) E s1) E s
 done:∀ (X:Cx),X.prog=P->X.w=w->X.K=K->X.calm=true->∀ (i:Nat) (pins:List (Rz×Obj)) (s:Rm) (σ:St) (H:Hp) (E:Rl->Rm->Prop),Inv X pins σ H s->(∀ b∈fp,pU X pins H b)->tn i s.heap->J.stop i H →
  wpAny (RX P w) X.A (pyNext (.ref it)) (fun r s1=>r=none/\Inv X pins σ H s1) E s
 self:∀ (A:Sw) (i:Nat) (s:Rm) (Q:Rl->Rm->Prop) (E:Rl->Rm->Prop),tn i s.heap->Q (.ref it) s->wpAny (RX P w) A (pyIter (.ref it)) Q E s
noncomputable abbrev TI:=St->Hp->(It->Hp->Prop)->Prop
noncomputable def PIE (X:Cx) (pins:List (Rz×Obj)) (σ:St) (tg:Uq) (R:It->Hp->Prop) (itv:Rl) (s2:Rm):Prop :=
 ∃ (it:Rz) (fp:List Rz) (tn:Nat->Heap->Prop) (J:It) (H':Hp),itv=.ref it/\Inv X pins σ H' s2/\Turn X.prog X.w X.K tg J fp it tn/\tn 0 s2.heap/\(∀ b∈fp,pU X pins H' b)/\R J H'
noncomputable def PI (X:Cx) (tg iter:Uq) (wi:TI):Prop :=
 ∀ (pins:List (Rz×Obj)) (s:Rm) (σ:St) (H:Hp) (R:It->Hp->Prop),Inv X pins σ H s->wi σ H R →
  wpAny (RX X.prog X.w) X.A (eval iter X.env) (fun v s1=>wpAny (RX X.prog X.w) X.A (pyIter v) (PIE X pins σ tg R) X.xe s1) X.xe s
theorem qv {M:Model}{A:Sw}{E:Rl->Rm->Prop}{s:Rm}{tg:Uq}{it:Rz}{u:Rl}{o:Obj}{n:String}{vs:Array Rl}{Q:Unit->Rm->Prop} (ho:s.heap.get? it=some o) (hc:o.cls=.type n) (hd:o.data=.fields vs)
 (hn:["enumerate","zip","dict_itemiterator","dict_reverseitemiterator","odict_iterator","itertools.zip_longest","itertools.pairwise"].contains n=false) (hQ:Q () s):wpAny M A (Vi tg (.ref it) u) Q E s:=by
 unfold Vi
 cases tg<;>first
  | exact wpAny_pure hQ
  | (cases u<;>first
   | exact wpAny_pure hQ
   | (refine Ro (Vp ho ?_)
      rw[hc,hd]
      show wpAny M A (if (["enumerate","zip","dict_itemiterator","dict_reverseitemiterator","odict_iterator","itertools.zip_longest","itertools.pairwise"].contains n&&vs[0]?==some (Uz _))=true then _ else _) Q E s
      rw[if_neg (by intro h;rw[hn,Bool.false_and] at h;cases h)]
      exact wpAny_pure hQ))
noncomputable def Itl (K:Rj) (a:Rz):It :=
 ⟨fun i H=>∃ xs x,SqL K H a xs/\xs[i]?=some x,fun i H x H'=>H'=H/\∀ xs,SqL K H a xs->xs[i]?=some x,fun i H=>∃ xs,SqL K H a xs/\xs.length<=i⟩
noncomputable def Itt (K:Rj) (a:Rz):It :=
 ⟨fun i H=>∃ xs x,SqT K H a xs/\xs[i]?=some x,fun i H x H'=>H'=H/\∀ xs,SqT K H a xs->xs[i]?=some x,fun i H=>∃ xs,SqT K H a xs/\xs.length<=i⟩
noncomputable def Itr (lo:Int) (n:Nat):It:=⟨fun i _=>i < n,fun i H x H'=>H'=H/\x=.int (lo+i),fun i _=>n<=i⟩
theorem yy {P:RG}{w:Sb}{K:Rj}{tg:Uq} (a it:Rz):Turn P w K tg (Itl K a) [it] it (fun i h=>h.IsListIter it a i) where
 mem:=by simp
 obj:=fun i h st b hb=>by
  have e:b=it:=by simpa using hb
  subst e
  obtain ⟨o,e,c,d⟩:=st
  exact ⟨o,e,fun v z=>by rw[d] at z;cases z⟩
 keep:=fun i h h' st k=>st.at fun o e=>k it (by simp) o e
 item:=by
  intro X hP hw hK hc i pins s σ H E I hf st hg
  subst hP hw hK
  obtain ⟨xs,x,hq,hx⟩:=hg
  obtain ⟨its,rv,p,hz⟩:=I.list hq
  obtain ⟨u,hu,ru⟩:=rv.get hx
  obtain ⟨f0,f1,f2,f3,f4,f5⟩:=hf it (by simp)
  refine wpAny_pyNext_list_item st p.isList (x:=u) (by simpa using hu) fun h' st' sb=>?_
  have I1:Inv X pins σ H { s with heap:=h' }:=I.turned (t':=s.toks) (fun b o hb e=>(sb.2 b hb).trans e) f0 f1 f3 f4 f5
  obtain ⟨o,e,c,d⟩:=id st'
  exact ⟨u,rfl,qv (s:={ s with heap:=h' }) e c d (by decide) ⟨x,H,I1,ru,⟨rfl,fun ys hy=>by rw[I.tM hy hq];exact hx⟩,st',fun b hb=>(hf b hb).1⟩⟩
 done:=by
  intro X hP hw hK hc i pins s σ H E I hf st hg
  subst hP hw hK
  obtain ⟨xs,hq,hx⟩:=hg
  obtain ⟨its,rv,p,hz⟩:=I.list hq
  obtain ⟨f0,f1,f2,f3,f4,f5⟩:=hf it (by simp)
  have hl:=rv.length
  exact wpAny_pyNext_list_end (I.ok.hd hc) st p.isList (by simp;lia) fun h' eb=>⟨rfl,I.turned (t':=s.toks) (fun b o hb e=>eb b o hb e) f0 f1 f3 f4 f5⟩
 self:=fun _ _ _ _ _ st h=>wpAny_pyIter_listiter st h
theorem ve {P:RG}{w:Sb}{K:Rj}{tg:Uq} (a it:Rz):Turn P w K tg (Itt K a) [it] it (fun i h=>h.IsTupleIter it a i) where
 mem:=by simp
 obj:=fun i h st b hb=>by
  have e:b=it:=by simpa using hb
  subst e
  obtain ⟨o,e,c,d⟩:=st
  exact ⟨o,e,fun v z=>by rw[d] at z;cases z⟩
 keep:=fun i h h' st k=>st.at fun o e=>k it (by simp) o e
 item:=by
  intro X hP hw hK hc i pins s σ H E I hf st hg
  subst hP hw hK
  obtain ⟨xs,x,hq,hx⟩:=hg
  obtain ⟨its,rv,p,hz⟩:=I.tuple hq
  obtain ⟨u,hu,ru⟩:=rv.get hx
  obtain ⟨f0,f1,f2,f3,f4,f5⟩:=hf it (by simp)
  refine wpAny_pyNext_tuple_item st (show s.heap.IsTuple a its.toArray from p) (x:=u) (by simpa using hu) fun h' st' sb=>?_
  have I1:Inv X pins σ H { s with heap:=h' }:=I.turned (t':=s.toks) (fun b o hb e=>(sb.2 b hb).trans e) f0 f1 f3 f4 f5
  obtain ⟨o,e,c,d⟩:=id st'
  exact ⟨u,rfl,qv (s:={ s with heap:=h' }) e c d (by decide) ⟨x,H,I1,ru,⟨rfl,fun ys hy=>by rw[I.yw hy hq];exact hx⟩,st',fun b hb=>(hf b hb).1⟩⟩
 done:=by
  intro X hP hw hK hc i pins s σ H E I hf st hg
  subst hP hw hK
  obtain ⟨xs,hq,hx⟩:=hg
  obtain ⟨its,rv,p,hz⟩:=I.tuple hq
  obtain ⟨f0,f1,f2,f3,f4,f5⟩:=hf it (by simp)
  have hl:=rv.length
  exact wpAny_pyNext_tuple_end (I.ok.hd hc) st (show s.heap.IsTuple a its.toArray from p) (by simp;lia) fun h' eb=>⟨rfl,I.turned (t':=s.toks) (fun b o hb e=>eb b o hb e) f0 f1 f3 f4 f5⟩
 self:=fun _ _ _ _ _ st h=>wpAny_pyIter_tupleiter st h
theorem vf {P:RG}{w:Sb}{K:Rj}{tg:Uq} (it:Rz) (lo:Int) (n:Nat):Turn P w K tg (Itr lo n) [it] it (fun i h=>WD h it (lo+(i:Nat)*1) ((n:Int) - (i:Nat)) 1) where
 mem:=by simp
 obj:=fun i h st b hb=>by
  have e:b=it:=by simpa using hb
  subst e
  exact ⟨_,st,fun v z=>by
   have z':Data.fields _=Data.cell v:=z
   cases z'⟩
 keep:=fun i h h' st k=>k it (by simp) _ st
 item:=by
  intro X hP hw hK hc i pins s σ H E I hf st hg
  subst hP hw hK
  obtain ⟨f0,f1,f2,f3,f4,f5⟩:=hf it (by simp)
  have W:=Walks.range (prog:=X.prog) (w:=X.w) (I.ok.hd hc) it lo 1 n
  refine W.item i s _ _ hg st fun v h' tk hv st' kk=>?_
  obtain ⟨t,rfl⟩:=hv
  have I1:Inv X pins σ H { s with heap:=h',toks:=tk }:=I.turned (fun b o hb e=>kk b o (by simpa using hb) e) f0 f1 f3 f4 f5
  refine ⟨_,rfl,qv (s:={ s with heap:=h',toks:=tk }) (n:="range_iterator") st' rfl rfl (by decide) ⟨.int (lo+i),H,I1,⟨t,?_⟩,⟨rfl,rfl⟩,st',fun b hb=>(hf b hb).1⟩⟩
  rw[Int.mul_one]
 done:=by
  intro X hP hw hK hc i pins s σ H E I hf st hg
  subst hP hw hK
  obtain ⟨f0,f1,f2,f3,f4,f5⟩:=hf it (by simp)
  exact wpAny_pyNext_range_end (I.ok.hd hc) st (by have:n<=i:=hg;lia) fun h' eb=>⟨rfl,I.turned (t':=s.toks) (fun b o hb e=>eb b o hb e) f0 f1 f3 f4 f5⟩
 self:=fun _ _ _ _ _ st h=>wpAny_pyIter_rangeiter st h
end L2
namespace L2
open PySem PySem.Spec PyProof.Rows
section
variable {X:Cx}{tg:Uq}
noncomputable def K6 (K:Rj) (tl:TE):TI:=fun σ H R=>tl σ H fun x H1=>∃ a,x=.ref a/\(∃ xs,SqL K H1 a xs)/\R (Itl K a) H1
noncomputable def OQ (K:Rj) (tl:TE):TI:=fun σ H R=>tl σ H fun x H1=>∃ a,x=.ref a/\(∃ xs,SqT K H1 a xs)/\R (Itt K a) H1
theorem wN {l:Uq}{tl:TE} (hl:PE X l tl):PI X tg l (K6 X.K tl):=by
 intro pins s σ H R I h
 refine thn (hl pins s σ H _ I h) fun v s1 zq=>?_
 obtain ⟨x,H1,I1,r1,q1⟩:=zq
 obtain ⟨a,e,⟨xs,hq⟩,q⟩:=q1
 subst e
 cases r1
 obtain ⟨its,rv,p,hz⟩:=I1.list hq
 refine wpAny_pyIter_list p.isList ?_
 refine ⟨s1.heap.objs.size,[s1.heap.objs.size],_,_,H1,rfl,I1.kept (t':=s1.toks) fun b o e=>Rk _ e,yy a _,⟨_,RB _ rfl,rfl,rfl⟩,fun b hb=>?_,q⟩
 have e:b=s1.heap.objs.size:=by simpa using hb
 subst e
 exact I1.vd (Rr _) (I1.hok.fresh (Rr _))
theorem Hq {l:Uq}{tl:TE} (hl:PE X l tl):PI X tg l (OQ X.K tl):=by
 intro pins s σ H R I h
 refine thn (hl pins s σ H _ I h) fun v s1 zq=>?_
 obtain ⟨x,H1,I1,r1,q1⟩:=zq
 obtain ⟨a,e,⟨xs,hq⟩,q⟩:=q1
 subst e
 cases r1
 obtain ⟨its,rv,p,hz⟩:=I1.tuple hq
 refine wpAny_pyIter_tuple (show s1.heap.IsTuple a its.toArray from p) ?_
 refine ⟨s1.heap.objs.size,[s1.heap.objs.size],_,_,H1,rfl,I1.kept (t':=s1.toks) fun b o e=>Rk _ e,ve a _,⟨_,RB _ rfl,rfl,rfl⟩,fun b hb=>?_,q⟩
 have e:b=s1.heap.objs.size:=by simpa using hb
 subst e
 exact I1.vd (Rr _) (I1.hok.fresh (Rr _))
theorem tP {pins:List (Rz×Obj)}{σ:St}{H:Hp}{s:Rm}{R:It->Hp->Prop}{E:Rl->Rm->Prop}{lo hi:Int}{t u v:Tok}{tk:Nat} (I:Inv X pins σ H s) (h1:-(2 ^ 62)<=lo) (h2:lo < 2 ^ 62) (h3:-(2 ^ 62)<=hi) (h4:hi < 2 ^ 62)
 (q:R (Itr lo (hi - lo).toNat) H):wpAny (RX X.prog X.w) X.A (pyIter (.ref s.heap.objs.size)) (PIE X pins σ tg R) E { s with heap:=s.heap.push { cls:=.type "range",data:=.fields #[.int lo t,.int hi u,.int 1 v] },toks:=tk }:=by
 refine wpAny_pyIter_range (WE ..) (small_one h1 h2 h3 h4) ?_
 have I1:Inv X pins σ H { s with heap:=s.heap.push { cls:=.type "range",data:=.fields #[.int lo t,.int hi u,.int 1 v] },toks:=tk }:=I.kept fun b o e=>Rk _ e
 refine ⟨(s.heap.push { cls:=.type "range",data:=.fields #[.int lo t,.int hi u,.int 1 v] }).objs.size,[(s.heap.push { cls:=.type "range",data:=.fields #[.int lo t,.int hi u,.int 1 v] }).objs.size],_,_,H,rfl,
  I1.kept (t':=tk) fun b o e=>Rk _ e,vf _ lo (hi - lo).toNat,?_,fun b hb=>?_,q⟩
 ·have e1:lo+((0:Nat):Int)*1=lo:=by simp
  have e2:(((hi - lo).toNat:Nat):Int) - ((0:Nat):Int)=Vy lo hi 1:=by rw[rangeSize_one];split<;>lia
  show WD _ _ (lo+((0:Nat):Int)*1) ((((hi - lo).toNat:Nat):Int) - ((0:Nat):Int)) 1
  rw[e1,e2]
  exact RB _ rfl
 ·have e:b=(s.heap.push { cls:=.type "range",data:=.fields #[.int lo t,.int hi u,.int 1 v] }).objs.size:=by simpa using hb
  subst e
  exact I1.vd (Rr _) (I1.hok.fresh (Rr _))
noncomputable def K7 (ta:TA):TI:=fun σ H R=>ta σ H fun vs H1=>∃ j:Int,vs=[.int j]/\-(2 ^ 62)<=j/\j < 2 ^ 62/\R (Itr 0 j.toNat) H1
noncomputable def K8 (ta:TA):TI:=fun σ H R=>ta σ H fun vs H1=>∃ i j:Int,vs=[.int i,.int j]/\(-(2 ^ 62)<=i/\i < 2 ^ 62/\-(2 ^ 62)<=j/\j < 2 ^ 62)/\R (Itr i (j - i).toNat) H1
theorem yz {a:Uq}{ta:TA}{p pos:Pos} (hg:Gl X "range") (hm:X.mg "range"=none) (ha:PA X [a] ta) (hs:R8 [a] X.env=[(false,eval a X.env)]:=by rfl):PI X tg (.Call (.Name "range" p) [a] [] pos) (K7 ta):=by
 intro pins s σ H R I h
 refine Call_ (gS I hg hm boot_range (Sf (thn (ha pos pins s σ H _ I h) fun us s1 ⟨vs,H1,I1,r1,q1⟩=>?_) hs rfl))
 obtain ⟨j,e,q1,q2,q⟩:=q1
 subst e
 cases r1 with
 | cons r rr =>
  cases rr
  obtain ⟨t,rfl⟩:=r
  exact call_range_1 (tP I1 (by lia) (by lia) q1 q2 (by simpa using q))
theorem yC {a b:Uq}{ta:TA}{p pos:Pos} (hg:Gl X "range") (hm:X.mg "range"=none) (ha:PA X [a,b] ta) (hs:R8 [a,b] X.env=[(false,eval a X.env),(false,eval b X.env)]:=by rfl) (hs2:R8 [b] X.env=[(false,eval b X.env)]:=by rfl) :
 PI X tg (.Call (.Name "range" p) [a,b] [] pos) (K8 ta):=by
 intro pins s σ H R I h
 refine Call_ (gS I hg hm boot_range (Sf (thn (ha pos pins s σ H _ I h) fun us s1 ⟨vs,H1,I1,r1,q1⟩=>?_) (by rw[hs,hs2]) (by rw[hs2];rfl)))
 obtain ⟨i,j,e,⟨q1,q2,q3,q4⟩,q⟩:=q1
 subst e
 cases r1 with
 | cons r rr =>
  cases rr with
  | cons r' rr =>
   cases rr
   obtain ⟨t,rfl⟩:=r
   obtain ⟨t',rfl⟩:=r'
   exact call_range_2 (tP I1 q1 q2 q3 q4 q)
noncomputable def K9 (wi:TI) (g:TG) (tb:TS):TS:=fun D σ H=>wi σ H fun J H1=>∃ W:Nat->Nat->St->Hp->Prop,(∃ m,W 0 m σ H1)/\∀ i m σ H,W i m σ H →
 (J.stop i H/\D.nx σ H)\/(J.go i H/\∃ N:St->Hp->Prop,(∀ σ' H',N σ' H'->∃ m',m' < m/\W (i+1) m' σ' H')/\∀ x H',J.yld i H x H'->g x σ H' fun σ2 H2=>tb { D with nx:=N,ct:=N,bk:=D.nx } σ2 H2)
noncomputable def lW (fp:List Rz) (h:Heap):List (Rz×Obj):=fp.filterMap fun b=>(h.get? b).map fun o=>(b,o)
theorem jd {fp:List Rz}{h:Heap}{b:Rz}{o:Obj} (hb:b∈fp) (e:h.get? b=some o):(b,o)∈lW fp h:=List.mem_filterMap.mpr ⟨b,hb,by rw[e];rfl⟩
theorem yD {fp:List Rz}{h:Heap}{p:Rz×Obj} (hp:p∈lW fp h):p.1∈fp/\h.get? p.1=some p.2:=by
 obtain ⟨b,hb,e⟩:=List.mem_filterMap.mp hp
 cases q:h.get? b with
 | none=>rw[q] at e;cases e
 | some o =>
  rw[q] at e
  have e':(b,o)=p:=Ry e
  subst e'
  exact ⟨hb,q⟩
theorem Inv.pinned {pins:List (Rz×Obj)}{σ:St}{H:Hp}{s:Rm}{fp:List Rz} (I:Inv X pins σ H s) (hf:∀ b∈fp,pU X pins H b) (ho:∀ b∈fp,∃ o,s.heap.get? b=some o/\∀ v,o.data≠.cell v):Inv X (pins++lW fp s.heap) σ H s :=
 I.nB fun p hp=>(List.mem_append.mp hp).elim (fun z=>I.pin p (Sa _ z)) fun z=>by
  obtain ⟨hb,e⟩:=yD z
  obtain ⟨f0,f1,f2,_⟩:=hf p.1 hb
  obtain ⟨o,e',d⟩:=ho p.1 hb
  rw[e] at e';cases e'
  exact ⟨e,f0,f1,f2,d⟩
theorem Inv.kW {pins pl:List (Rz×Obj)}{σ:St}{H:Hp}{s:Rm} (I:Inv X (pins++pl) σ H s):Inv X pins σ H s:=I.nB fun p hp=>I.pin p (Sa _ (TR _ hp))
theorem Hr {iter:Uq}{body:List VF}{wi:TI}{g:TG}{tb:TS}{pos:Pos} (hp:PassesOwn (RX X.prog X.w) X.A X.env X.xe) (hc:X.calm=true) (hi:PI X tg iter wi) (hg:PG X tg g) (hb:PSs X body tb)
 (hs:∀ x,foldedSetIterable iter X.env x=pure x:=by intro _;rfl):PS X (.For tg iter body [] pos) (K9 wi g tb):=by
 intro pins s σ H D I h
 refine wpAny_For (thn (hi pins s σ H _ I h) fun v s1 h1=>thn h1 fun itv s2 h2=>?_) hs
 obtain ⟨it,fp,tn,J,H2,e,I2,T,st2,f2,W,⟨m0,w0⟩,turn⟩:=h2
 subst e
 have stat:∀ {H':Hp},(∀ b∈fp,H' b=none)->∀ b∈fp,pU X pins H' b:=fun hn b hb=>⟨hn b hb,(f2 b hb).2⟩
 refine codeAny_forLoop_any (fun n s'=>∃ i σ' H',Inv X pins σ' H' s'/\tn i s'.heap/\(∀ b∈fp,H' b=none)/\W i n σ' H') ?_ m0 ⟨0,σ,H2,I2,st2,fun b hb=>(f2 b hb).1,w0⟩
 rintro n s3 ⟨i,σ3,H3,I3,st3,fr3,w3⟩
 rcases turn i n σ3 H3 w3 with ⟨stop,qn⟩ | ⟨go,N,hN,step⟩
 ·refine TU hp (thn (T.done X rfl rfl rfl hc i pins s3 σ3 H3 X.xe I3 (stat fr3) st3 stop) fun r s4 zq=>?_)
  obtain ⟨hr,I4⟩:=zq
  subst hr
  exact Vh ⟨σ3,H3,I4,qn⟩
 ·refine TU hp (thn (T.item X rfl rfl rfl hc i pins s3 σ3 H3 X.xe I3 (stat fr3) st3 go) fun r s4 zq=>?_)
  obtain ⟨u,hr,h4⟩:=zq
  subst hr
  refine TU hp (thn h4 fun _ s5 zq=>?_)
  obtain ⟨x,H5,I5,r5,y5,st5,fr5⟩:=zq
  have I5':=I5.pinned (stat fr5) (T.obj _ _ st5)
  refine TU hp (thn (hg _ s5 σ3 H5 x u _ I5' r5 (step x H5 y5)) fun _ s6 zq=>?_)
  obtain ⟨σ6,H6,I6,q6⟩:=zq
  refine TU hp (thn (hb _ s6 σ6 H6 _ I6 q6) fun f s7 q7=>?_)
  have again:∀ {σ7:St}{H7:Hp},Inv X (pins++lW fp s5.heap) σ7 H7 s7->N σ7 H7->∃ m,m < n/\∃ i σ' H',Inv X pins σ' H' s7/\tn i s7.heap/\(∀ b∈fp,H' b=none)/\W i m σ' H':=fun {σ7 H7} I7 n7=>by
   obtain ⟨m',hm,w7⟩:=hN σ7 H7 n7
   refine ⟨m',hm,i+1,σ7,H7,I7.kW,T.keep _ _ _ st5 fun b hb o e=>(I7.pin (b,o) (Sa _ (Sa _ (jd hb e)))).1,fun b hb=>?_,w7⟩
   obtain ⟨o,e,d⟩:=T.obj _ _ st5 b hb
   exact (I7.pin (b,o) (Sa _ (Sa _ (jd hb e)))).2.1
  cases f with
  | next=>obtain ⟨σ7,H7,I7,n7⟩:=q7;exact again I7 n7
  | cont=>obtain ⟨σ7,H7,I7,n7⟩:=q7;exact again I7 n7
  | brk=>obtain ⟨σ7,H7,I7,q7⟩:=q7;exact ⟨σ7,H7,I7.kW,q7⟩
  | ret v=>obtain ⟨x7,σ7,H7,I7,r7,q7⟩:=q7;exact ⟨x7,σ7,H7,I7.kW,r7,q7⟩
end
end L2
namespace L2
open PySem PySem.Spec PyProof.Rows
noncomputable abbrev R2:=V->V->Hp->VK->Prop
noncomputable def OpR (X:Cx) (f:Rl->Rl->Sem Rl) (r:R2):Prop :=
 ∀ (pins:List (Rz×Obj)) (s:Rm) (σ:St) (H:Hp) (x y:V) (v u:Rl) (Q:VK),Inv X pins σ H s->RelV x v->RelV y u->r x y H Q →
  wpAny (RX X.prog X.w) X.A (f v u) (EP X pins σ Q) X.xe s
noncomputable def UnR (X:Cx) (f:Rl->Sem Rl) (r:V->Hp->VK->Prop):Prop :=
 ∀ (pins:List (Rz×Obj)) (s:Rm) (σ:St) (H:Hp) (x:V) (v:Rl) (Q:VK),Inv X pins σ H s->RelV x v->r x H Q →
  wpAny (RX X.prog X.w) X.A (f v) (EP X pins σ Q) X.xe s
noncomputable def fO (X:Cx) (f:Rl) (r:List V->Hp->VK->Prop):Prop :=
 ∀ (pins:List (Rz×Obj)) (s:Rm) (σ:St) (H:Hp) (xs:List V) (us:List Rl) (Q:VK),Inv X pins σ H s->c9 xs us->r xs H Q →
  wpAny (RX X.prog X.w) X.A (call f us) (EP X pins σ Q) X.xe s
noncomputable def tOp (r:R2) (ta tb:TE):TE:=fun σ H Q=>ta σ H fun x H1=>tb σ H1 fun y H2=>r x y H2 Q
noncomputable def tUn (r:V->Hp->VK->Prop) (ta:TE):TE:=fun σ H Q=>ta σ H fun x H1=>r x H1 Q
noncomputable def rI (C:Int->Int->Prop) (g:Int->Int->V):R2:=fun x y H Q=>∃ i j,x=.int i/\y=.int j/\C i j/\Q (g i j) H
noncomputable def rI0 (g:Int->Int->V):R2:=fun x y H Q=>∃ i j,x=.int i/\y=.int j/\Q (g i j) H
noncomputable def rU (g:Int->V):V->Hp->VK->Prop:=fun x H Q=>∃ i,x=.int i/\Q (g i) H
section
variable {X:Cx}{a b c:Uq}{ta tb tc:TE}{pos:Pos}
theorem Hs (ha:PE X a ta) (hb:PE X b tb) {pins:List (Rz×Obj)}{s:Rm}{σ:St}{H:Hp}{R:V->V->Hp->Prop} (I:Inv X pins σ H s)
 (h:ta σ H fun x H1=>tb σ H1 fun y H2=>R x y H2) {Q:Rl->Rm->Prop}{f:Rl->Rl->Sem Rl}
 (hf:∀ v u s2 x y H2,Inv X pins σ H2 s2->RelV x v->RelV y u->R x y H2->wpAny (RX X.prog X.w) X.A (f v u) Q X.xe s2) :
 wpAny (RX X.prog X.w) X.A (eval a X.env) (fun v s₁=>wpAny (RX X.prog X.w) X.A (eval b X.env) (fun u s₂=>wpAny (RX X.prog X.w) X.A (f v u) Q X.xe s₂) X.xe s₁) X.xe s:=by
 refine thn (ha pins s σ H _ I h) fun v s1 zq=>?_
 obtain ⟨x,H1,I1,r1,q1⟩:=zq
 refine thn (hb pins s1 σ H1 _ I1 q1) fun u s2 zq=>?_
 obtain ⟨y,H2,I2,r2,q2⟩:=zq
 exact hf v u s2 x y H2 I2 r1 r2 q2
theorem La {op:UJ}{r:R2} (ho:OpR X (SK op) r) (ha:PE X a ta) (hb:PE X b tb):PE X (.BinOp a op b pos) (tOp r ta tb):=by
 intro pins s σ H Q I h
 exact wpAny_BinOp (Hs ha hb I h fun v u s2 x y H2 I2 rx ry q=>ho pins s2 σ H2 x y v u Q I2 rx ry q)
theorem GB {op:UnaryOp}{r:V->Hp->VK->Prop} (ho:UnR X (unaryOp op) r) (ha:PE X a ta):PE X (.UnaryOp op a pos) (tUn r ta):=by
 intro pins s σ H Q I h
 exact UnaryOp_ (thn (ha pins s σ H _ I h) fun v s1 ⟨x,H1,I1,r1,q1⟩=>ho pins s1 σ H1 x v Q I1 r1 q1)
theorem opI {f:Rl->Rl->Sem Rl}{C:Int->Int->Prop}{g:Int->Int->Int}
 (rule:∀ (i j:Int) (t u:Tok) (s:Rm) (Q:Rl->Rm->Prop) (E:Rl->Rm->Prop),C i j->Q (.int (g i j) s.toks) { s with toks:=s.toks+1 }->wpAny (RX X.prog X.w) X.A (f (.int i t) (.int j u)) Q E s) :
 OpR X f (rI C fun i j=>.int (g i j)):=by
 intro pins s σ H x y v u Q I rx ry h
 obtain ⟨i,j,rfl,rfl,hc,q⟩:=h
 obtain ⟨t,rfl⟩:=rx
 obtain ⟨t',rfl⟩:=ry
 exact rule i j t t' s _ _ hc ⟨.int (g i j),H,I.tok _,⟨_,rfl⟩,q⟩
theorem Lb {f:Rl->Rl->Sem Rl}{g:Int->Int->Int}
 (rule:∀ (i j:Int) (t u:Tok) (s:Rm) (Q:Rl->Rm->Prop) (E:Rl->Rm->Prop),Q (.int (g i j) s.toks) { s with toks:=s.toks+1 }->wpAny (RX X.prog X.w) X.A (f (.int i t) (.int j u)) Q E s) :
 OpR X f (rI0 fun i j=>.int (g i j)):=by
 intro pins s σ H x y v u Q I rx ry h
 obtain ⟨i,j,rfl,rfl,q⟩:=h
 obtain ⟨t,rfl⟩:=rx
 obtain ⟨t',rfl⟩:=ry
 exact rule i j t t' s _ _ ⟨.int (g i j),H,I.tok _,⟨_,rfl⟩,q⟩
theorem DC {f:Rl->Rl->Sem Rl}{g:Int->Int->Bool}
 (rule:∀ (i j:Int) (t u:Tok) (s:Rm) (Q:Rl->Rm->Prop) (E:Rl->Rm->Prop),Q (.bool (g i j)) s->wpAny (RX X.prog X.w) X.A (f (.int i t) (.int j u)) Q E s) :
 OpR X f (rI0 fun i j=>.bl (g i j)):=by
 intro pins s σ H x y v u Q I rx ry h
 obtain ⟨i,j,rfl,rfl,q⟩:=h
 obtain ⟨t,rfl⟩:=rx
 obtain ⟨t',rfl⟩:=ry
 exact rule i j t t' s _ _ ⟨.bl (g i j),H,I,rfl,q⟩
noncomputable def OR (i j:Int):Prop:=0 < j/\j < 1073741824
noncomputable def OS (i j:Int):Prop:=0<=j/\j<=1000000/\i.natAbs < 2 ^ 64
noncomputable def DE (i j:Int):Prop:=(-(2 ^ 64) < i/\i < 2 ^ 64)\/(-(2 ^ 64) < j/\j < 2 ^ 64)
theorem DE.ok {i j:Int} (h:DE i j):IntMulOk i j:=by
 rcases h with ⟨h1,h2⟩ | ⟨h1,h2⟩
 ·exact .of_left (intBits_le_64 h1 h2)
 ·exact .of_right (intBits_le_64 h1 h2)
theorem Hu:OpR X (SK .Add) (rI0 fun i j=>.int (i+j)):=Lb fun _ _ _ _ _ _ _ q=>add_int q
theorem Hv:OpR X (SK .Sub) (rI0 fun i j=>.int (i - j)):=Lb fun _ _ _ _ _ _ _ q=>sub_int q
theorem Hw:OpR X (SK .Mult) (rI DE fun i j=>.int (i*j)):=opI fun _ _ _ _ _ _ _ hc q=>mul_int q hc.ok
theorem DF:OpR X (SK .FloorDiv) (rI OR fun i j=>.int (i / j)):=opI fun i j _ _ _ _ _ hc q=>by
 have h1:(0:Int) < j:=hc.1
 have h2:j < 1073741824:=hc.2
 exact floordiv_int (by lia) (by rw[Int.fdiv_eq_ediv_of_nonneg i (by lia)];exact q) (.inl (Wc (by lia)))
theorem Hx:OpR X (SK .Mod) (rI (fun _ j=>0 < j) fun i j=>.int (i % j)):=opI fun i j _ _ _ _ _ hc q=>by
 have h1:(0:Int) < j:=hc
 exact mod_int' (by lia) (by rw[Int.fmod_eq_emod_of_nonneg i (by lia)];exact q)
theorem Hy:OpR X (SK .Pow) (rI OS fun i j=>.int (i ^ j.toNat)):=opI fun _ _ _ _ _ _ _ hc q=>pow_int_small hc.1 hc.2.1 hc.2.2 q
theorem unI {f:Rl->Sem Rl}{g:Int->Int}
 (rule:∀ (i:Int) (t:Tok) (s:Rm) (Q:Rl->Rm->Prop) (E:Rl->Rm->Prop),Q (.int (g i) s.toks) { s with toks:=s.toks+1 }->wpAny (RX X.prog X.w) X.A (f (.int i t)) Q E s) :
 UnR X f (rU fun i=>.int (g i)):=by
 intro pins s σ H x v Q I rx h
 obtain ⟨i,rfl,q⟩:=h
 obtain ⟨t,rfl⟩:=rx
 exact rule i t s _ _ ⟨.int (g i),H,I.tok _,⟨_,rfl⟩,q⟩
theorem Ai:UnR X (unaryOp .USub) (rU fun i=>.int (-i)):=unI fun _ _ _ _ _ q=>neg_int q
end
section
variable {X:Cx}{a b c:Uq}{ta tb tc:TE}{pos:Pos}
theorem Aj {pins:List (Rz×Obj)}{σ:St}{H:Hp}{s:Rm}{Q:VK}{k k':Bool} (I:Inv X pins σ H s) (q:Q (.bl k) H) (e:k=k'):EP X pins σ Q (.bool k') s:=by
 subst e
 exact ⟨.bl k,H,I,rfl,q⟩
theorem Lc:OpR X (Su .Lt) (rI0 fun i j=>.bl (decide (i < j))):=DC fun _ _ _ _ _ _ _ q=>lt_int q
theorem Ld:OpR X (Su .LtE) (rI0 fun i j=>.bl (decide (i<=j))):=DC fun _ _ _ _ _ _ _ q=>le_int q
theorem Lf:OpR X (Su .Gt) (rI0 fun i j=>.bl (decide (j < i))):=DC fun _ _ _ _ _ _ _ q=>gt_int q
theorem Lg:OpR X (Su .GtE) (rI0 fun i j=>.bl (decide (j<=i))):=DC fun _ _ _ _ _ _ _ q=>ge_int q
theorem Hz:OpR X (Su .Is) (fun x y H Q=>y=.non/\Q (.bl (decide (x=.non))) H):=by
 intro pins s σ H x y v u Q I rx ry h
 obtain ⟨rfl,q⟩:=h
 cases ry
 refine is_none_gen (Aj I q ?_)
 cases x<;>first
  | (cases rx;rfl)
  | (obtain ⟨t,rfl⟩:=rx;rfl)
theorem DG:OpR X (Su .IsNot) (fun x y H Q=>y=.non/\Q (.bl (!decide (x=.non))) H):=by
 intro pins s σ H x y v u Q I rx ry h
 obtain ⟨rfl,q⟩:=h
 cases ry
 refine isnot_none_gen (Aj I q ?_)
 cases x<;>first
  | (cases rx;rfl)
  | (obtain ⟨t,rfl⟩:=rx;rfl)
theorem wO {op:CmpOp}{r:R2} (ho:OpR X (Su op) r) (ha:PE X a ta) (hb:PE X b tb) (hm:VN op b=false):PE X (.Compare a [op] [b] pos) (tOp r ta tb):=by
 intro pins s σ H Q I h
 exact wpAny_Compare1 (Hs ha hb I h fun v u s2 x y H2 I2 rx ry q=>ho pins s2 σ H2 x y v u Q I2 rx ry q) hm
noncomputable def Ak (t:TE):TT:=fun σ H Q=>t σ H fun x H'=>∃ k,x=.bl k/\Q k H'
theorem wQ {op:CmpOp}{r:R2} (ho:OpR X (Su op) r) (ha:PE X a ta) (hb:PE X b tb) (hm:VN op b=false):PT X (.Compare a [op] [b] pos) (Ak (tOp r ta tb)):=by
 intro pins s σ H Q I h
 refine wpAny_isTrue_Compare1 (thn (ha pins s σ H _ I h) fun v s1 ⟨x,H1,I1,r1,q1⟩=>thn (hb pins s1 σ H1 _ I1 q1) fun u s2 ⟨y,H2,I2,r2,q2⟩ =>
  thn (ho pins s2 σ H2 x y v u _ I2 r1 r2 q2) fun c s3 ⟨z,H3,I3,r3,k,e,q3⟩=>?_) hm
 subst e
 cases r3
 exact SL ⟨H3,I3,q3⟩
noncomputable def vg (r r':R2) (ta tb tc:TE):TE:=fun σ H Q=>ta σ H fun x H1=>tb σ H1 fun y H2=>r x y H2 fun z H3=>∃ k,z=.bl k ∧
 (if k=true then tc σ H3 fun w' H4=>r' y w' H4 Q else Q (.bl false) H3)
theorem Al {op op':CmpOp}{r r':R2} (ho:OpR X (Su op) r) (ho':OpR X (Su op') r') (ha:PE X a ta) (hb:PE X b tb) (hc:PE X c tc)
 (hm:lastMarks [op,op'] [b,c]=false:=by with_unfolding_all rfl):PE X (.Compare a [op,op'] [b,c] pos) (vg r r' ta tb tc):=by
 intro pins s σ H Q I h
 refine Compare_chain (thn (ha pins s σ H _ I h) fun v s1 ⟨x,H1,I1,r1,q1⟩=>chain_link (thn (hb pins s1 σ H1 _ I1 q1) fun u s2 ⟨y,H2,I2,r2,q2⟩ =>
  thn (ho pins s2 σ H2 x y v u _ I2 r1 r2 q2) fun d s3 ⟨z,H3,I3,r3,k,e,q3⟩=>?_)) hm
 subst e
 cases r3
 refine SL ?_
 cases k with
 | false=>exact ite_ff ⟨.bl false,H3,I3,rfl,q3⟩
 | true=>exact ite_tt (chain_last (thn (hc pins s3 σ H3 _ I3 q3) fun w' s4 ⟨z',H4,I4,r4,q4⟩=>ho' pins s4 σ H4 y z' u w' Q I4 r2 r4 q4))
theorem Am {op op':CmpOp}{r r':R2} (ho:OpR X (Su op) r) (ho':OpR X (Su op') r') (ha:PE X a ta) (hb:PE X b tb) (hc:PE X c tc)
 (hm:lastMarks [op,op'] [b,c]=false:=by with_unfolding_all rfl):PT X (.Compare a [op,op'] [b,c] pos) (Ak (vg r r' ta tb tc)):=by
 intro pins s σ H Q I h
 refine isTrue_chain (thn (ha pins s σ H _ I h) fun v s1 ⟨x,H1,I1,r1,q1⟩=>test_link (thn (hb pins s1 σ H1 _ I1 q1) fun u s2 ⟨y,H2,I2,r2,q2⟩ =>
  thn (ho pins s2 σ H2 x y v u _ I2 r1 r2 q2) fun d s3 ⟨z,H3,I3,r3,k,e,q3⟩=>?_)) hm
 subst e
 cases r3
 refine SL ?_
 cases k with
 | false =>
  obtain ⟨k',e',q'⟩:=q3
  cases e'
  exact ite_ff ⟨H3,I3,q'⟩
 | true =>
  refine ite_tt (test_last (thn (hc pins s3 σ H3 _ I3 q3) fun w' s4 ⟨z',H4,I4,r4,q4⟩=>thn (ho' pins s4 σ H4 y z' u w' _ I4 r2 r4 q4) fun d' s5 zq=>?_))
  obtain ⟨z2,H5,I5,r5,k2,e2,q5⟩:=zq
  subst e2
  cases r5
  exact SL ⟨H5,I5,q5⟩
theorem lX:(sizeLine:Nat) < 2 ^ 63:=by rw[U1];decide
theorem vh:OpR X (SK .Add) (fun x y H Q=>∃ i j,x=.str i/\y=.str j/\i.length+j.length<=sizeLine/\Q (.str (i++j)) H):=by
 intro pins s σ H x y v u Q I rx ry h
 obtain ⟨i,j,rfl,rfl,hz,q⟩:=h
 obtain ⟨t,rfl⟩:=rx
 obtain ⟨t',rfl⟩:=ry
 exact add_str (fun t' tk=>⟨.str (i++j),H,I.tok _,⟨_,rfl⟩,q⟩) hz
theorem vals1 {x:V}{us:List Rl} (r:c9 [x] us):∃ u,us=[u]/\RelV x u:=by
 cases r with
 | cons r1 r2=>cases r2;exact ⟨_,rfl,r1⟩
theorem vals2 {x y:V}{us:List Rl} (r:c9 [x,y] us):∃ u w',us=[u,w']/\RelV x u/\RelV y w':=by
 cases r with
 | cons r1 r2 =>
  cases r2 with
  | cons r3 r4=>cases r4;exact ⟨_,_,rfl,r1,r3⟩
theorem An:fO X (.builtin "abs") (fun xs H Q=>∃ i,xs=[.int i]/\Q (.int (if i < 0 then -i else i)) H):=by
 intro pins s σ H xs us Q I r h
 obtain ⟨i,rfl,q⟩:=h
 obtain ⟨u,rfl,t,rfl⟩:=vals1 r
 exact call_abs_int fun u tk=>⟨.int (if i < 0 then -i else i),H,I.tok _,⟨_,rfl⟩,q⟩
theorem yE (hc:X.calm=true):fO X (.builtin "max") (fun xs H Q=>∃ i j,xs=[.int i,.int j]/\Q (.int (if j > i then j else i)) H):=by
 intro pins s σ H xs us Q I r h
 obtain ⟨i,j,rfl,q⟩:=h
 obtain ⟨u,w',rfl,⟨t,rfl⟩,⟨t',rfl⟩⟩:=vals2 r
 refine max_two_ints (I.ok.hd hc) fun h' tk k=>⟨_,H,I.kept k,?_,q⟩
 by_cases hj:j > i
 ·rw[if_pos hj,if_pos hj];exact ⟨_,rfl⟩
 ·rw[if_neg hj,if_neg hj];exact ⟨_,rfl⟩
theorem yF (hc:X.calm=true):fO X (.builtin "min") (fun xs H Q=>∃ i j,xs=[.int i,.int j]/\Q (.int (if j < i then j else i)) H):=by
 intro pins s σ H xs us Q I r h
 obtain ⟨i,j,rfl,q⟩:=h
 obtain ⟨u,w',rfl,⟨t,rfl⟩,⟨t',rfl⟩⟩:=vals2 r
 refine min_two_ints (I.ok.hd hc) fun h' tk k=>⟨_,H,I.kept k,?_,q⟩
 by_cases hj:j < i
 ·rw[if_pos hj,if_pos hj];exact ⟨_,rfl⟩
 ·rw[if_neg hj,if_neg hj];exact ⟨_,rfl⟩
theorem qw:fO X (.type "int") (fun xs H Q=>(∃ i,xs=[.int i]/\Q (.int i) H)\/∃ k,xs=[.bl k]/\Q (.int (if k then 1 else 0)) H):=by
 intro pins s σ H xs us Q I r h
 rcases h with ⟨i,rfl,q⟩ | ⟨k,rfl,q⟩
 ·obtain ⟨u,rfl,t,rfl⟩:=vals1 r
  exact call_int_int ⟨.int i,H,I,⟨_,rfl⟩,q⟩
 ·obtain ⟨u,rfl,r1⟩:=vals1 r
  cases r1
  exact call_int_bool ⟨.int (if k then 1 else 0),H,I.tok _,⟨_,rfl⟩,q⟩
end
end L2
namespace L2
open PySem PySem.Spec PyProof.Rows
structure vj (h:Heap) (x dx C:Rz) (mA:Str->Option Rl):Prop where
 obj:h.get? x=some (SW C dx)
 ns:h.Ns1 dx mA
 ne:dx≠x
theorem yG {h:Heap}{dx:Rz}{mA:Str->Option Rl} (n:h.Ns1 dx mA):∃ od,h.get? dx=some od/\∀ name,UT name od=some (mA name):=by
 obtain ⟨o,es,ep,ho,hd,hk,_,hm⟩:=n
 refine ⟨o,ho,fun name=>?_⟩
 have e:=hm name
 unfold nsFind findBy at e
 rw[← Array.find?_toList] at e
 unfold UT
 rw[hd]
 dsimp only
 split
 ·rename_i y q
  rw[q] at e
  exact congrArg some e
 ·rename_i q
  rw[q] at e
  have a:es.toList.any (·.refKey)=false:=by
   rw[List.any_eq_false]
   intro y hy
   obtain ⟨z,t,hkey⟩:=hk y (Array.mem_toList_iff.mp hy)
   simp[DictEntry.refKey,hkey]
  have a':¬ es.toList.any (·.refKey)=true:=by rw[a];exact Ti
  rw[if_neg a']
  exact congrArg some e
theorem vj.look {h:Heap}{x dx C:Rz}{mA:Str->Option Rl} (I:vj h x dx C mA):∃ od,PySem.W.InstAt h x (SW C dx) C (some od)/\∀ name,UT name od=some (mA name) :=
 let ⟨od,ho,hl⟩:=yG I.ns
 ⟨od,⟨I.obj,rfl,rfl,ho⟩,hl⟩
section
variable {prog:RG}{w:Sb}{A:Sw}{E:Rl->Rm->Prop}{s:Rm}{K:Rj}{x dx C f:Rz}{mA:Str->Option Rl}{name:Str}{v:Rl}
theorem get_map {expr:Bool}{Q:Rl->Rm->Prop} (X:K.In s.heap) (I:vj s.heap x dx C mA) (hg:Uh K C name=true) (hh:Tn K C=true)
 (ha:R6 K (.ref C) name=some none) (hv:mA name=some v) (hv':W1 v=true) (h:Q v { s with toks:=s.toks+1 }) :
 wpAny (RX prog w) A (getAttr (.ref x) name expr) Q E s:=by
 obtain ⟨od,J,hl⟩:=I.look
 exact PySem.W.get_value X J (U5 hg).1 (PySem.W.findObj_own hh ha rfl (by rw[hl,hv])) hv' h
theorem Ao {pl:Sem Bool}{Q:Rl×List Rl->Rm->Prop} (X:K.In s.heap) (I:vj s.heap x dx C mA) (hg:Uh K C name=true)
 (hf:R6 K (.ref C) name=some (some (.ref f))) (ht:Vr K (.ref f)=true) (hv:mA name=none) (h:Q (.ref f,[.ref x]) s) :
 wpAny (RX prog w) A (Ww (.ref x) name pl) Q E s:=by
 obtain ⟨od,J,hl⟩:=I.look
 exact PySem.W.method_fn X J (U5 hg).1 (U5 hg).2 hf (beq_iff_eq.mp ht) (by show (UT name od).map (·.isSome)=some false;rw[hl,hv];rfl) h
theorem DH {ns:List Str}{Q:Unit->Rm->Prop} (X:K.In s.heap) (I:vj s.heap x dx C mA)
 (hs:R6 K (.ref C) "__setattr__"=some (some (.builtin "object.__setattr__"))) (hp:Vl K C=true) (ht:VG K C name=some none) (hh:Tn K C=true)
 (hw:WA mA ns) (hsz:ns.length<=sizeLine)
 (h:∀ h',vj h' x dx C (fun y=>if y=name then some v else mA y)->T7 dx s.heap h'->Q () { s with heap:=h',toks:=s.toks+2 }) :
 wpAny (RX prog w) A (setAttr (.ref x) name v) Q E s:=by
 obtain ⟨od,J,hl⟩:=I.look
 refine PySem.W.set_plain X J hs (PySem.W.osa_open (s:={ s with toks:=s.toks+1 }) (r:=none) X J hp ht fun b=>?_)
 obtain ⟨cd,hc,hd'⟩:=PySem.W.any_some hh
 have hx:s.heap.get? x=some ⟨.ref C,some dx,.plain,#[]⟩:=I.obj
 refine Ro (wpAny_pure (Ro (Ro (wpAny_loadPart hx (Ro (PySem.W.Looks.here (s:={ s with toks:=s.toks+1 }) (PySem.W.looks_clsIn X hc) ?_))))))
 rw[hd']
 refine wpAny_pure (a:=some dx) (Ro (wpAny_pure (Ro ?_)))
 refine wpAny_nsSet1 (s:={ s with toks:=s.toks+1 }) I.ns fun h' hn2 hs2=>?_
 obtain ⟨oD,esD,epD,hoD,hdD,hcD⟩:=hn2.count (PySem.Within.cons name v hw)
 refine Ro (wpAny_lookBehind hoD (by rw[hdD];exact pastItsLine_dict (Sq hcD (by rw[RO];lia))) ?_)
 exact wpAny_pure (h _ ⟨(hs2.2 _ (SH I.ne)).trans I.obj,hn2,I.ne⟩ hs2)
theorem Aq {R:Wa->Rm->Prop}{vs:List Rl}{kw:List (Str×Rl)} (X:K.In s.heap) (hm:VH K C=true)
 (hi:R6 K (.ref C) "__init__"=some (some (.ref f))) (hf:PySem.W.typeIn K (.ref f)=some (.type "function"))
 (h:codeAny (RX prog w) (A.under (.builtin "type.__call__" ⟨.ref C :: vs,kw⟩)) (.call (.ref f) ⟨.ref (s.heap.objs.size+1) :: vs,kw⟩) (PySem.W.InitBack (s.heap.objs.size+1) R)
  { s with heap:=(s.heap.push SB).push (SW C s.heap.objs.size) }) :
 codeAny (RX prog w) A (.call (.ref C) ⟨vs,kw⟩) R s:=by
 obtain ⟨hh,g,d,t,os⟩:=s
 exact PySem.W.make_core (PySem.W.makes_of X hm) (PySem.W.looks_findIn X hi) (fun self=>PySem.W.bind_fn X self hf) (.inl rfl) h
end
noncomputable def d9 (f:Str) (v:V):List (Str×V)->List (Str×V)
 | []=>[(f,v)]
 | (g,x) :: r=>if g=f then (g,v) :: r else (g,x) :: d9 f v r
theorem mQ (f g:Str) (v:V):∀ fs:List (Str×V),(d9 f v fs).lookup g=if g=f then some v else fs.lookup g
 | []=>by
  show TZ g [(f,v)]=_
  by_cases h:g=f
  ·have hb:(g==f)=true:=beq_iff_eq.mpr h
   simp only[TZ,hb,if_pos h]
  ·have hb:(g==f)=false:=beq_eq_false_iff_ne.mpr h
   simp only[TZ,hb,if_neg h]
 | (k,x) :: r=>by
  have ih:=mQ f g v r
  rw[show d9 f v ((k,x) :: r)=(if k=f then (k,v) :: r else (k,x) :: d9 f v r) from rfl]
  by_cases hk:k=f
  ·rw[if_pos hk]
   by_cases h:g=k
   ·have hb:(g==k)=true:=beq_iff_eq.mpr h
    simp only[TZ,hb,if_pos (h.trans hk)]
   ·have hb:(g==k)=false:=beq_eq_false_iff_ne.mpr h
    simp only[TZ,hb,if_neg (fun e:g=f=>h (e.trans hk.symm))]
  ·rw[if_neg hk]
   by_cases h:g=k
   ·have hb:(g==k)=true:=beq_iff_eq.mpr h
    simp only[TZ,hb,if_neg (fun e:g=f=>hk (h.symm.trans e))]
   ·have hb:(g==k)=false:=beq_eq_false_iff_ne.mpr h
    simp only[TZ,hb]
    exact ih
theorem lY (f:Str) (v:V):∀ fs:List (Str×V),f∈(d9 f v fs).map (·.1)/\∀ g,g∈fs.map (·.1)->g∈(d9 f v fs).map (·.1)
 | []=>⟨by simp[d9],fun g h=>by simp at h⟩
 | (k,x) :: r=>by
  obtain ⟨i1,i2⟩:=lY f v r
  rw[show d9 f v ((k,x) :: r)=(if k=f then (k,v) :: r else (k,x) :: d9 f v r) from rfl]
  by_cases hk:k=f
  ·rw[if_pos hk]
   subst hk
   exact ⟨by simp,fun g h=>by simpa using h⟩
  ·rw[if_neg hk]
   refine ⟨?_,fun g h=>?_⟩
   ·rw[RL]
    exact Ru _ i1
   ·rw[RL] at h ⊢
    rcases List.mem_cons.mp h with e | e
    ·exact List.mem_cons.mpr (.inl e)
    ·exact Ru _ (i2 g e)
theorem mR (f:Str) (v:V):∀ fs:List (Str×V),(d9 f v fs).length<=fs.length+1
 | []=>by simp[d9]
 | (k,x) :: r=>by
  have ih:=mR f v r
  rw[show d9 f v ((k,x) :: r)=(if k=f then (k,v) :: r else (k,x) :: d9 f v r) from rfl]
  by_cases hk:k=f
  ·rw[if_pos hk,RO,RO];lia
  ·rw[if_neg hk,RO,RO];lia
theorem lV.some_of {v:V}{o:Option Rl} (r:lV (some v) o):∃ u,o=some u/\RelV v u:=by
 cases o with
 | none=>exact (show False from r).elim
 | some u=>exact ⟨u,rfl,r⟩
theorem lV.none_of {o:Option Rl} (r:lV none o):o=none:=by
 cases o with
 | none=>rfl
 | some u=>exact (show False from r).elim
theorem yH {v:V}{u:Rl} (r:RelV v u):W1 u=true:=by
 cases v with
 | non=>cases (show u=V9 from r);rfl
 | bl b=>cases (show u=Xg b from r);rfl
 | int i=>obtain ⟨t,e⟩:=(show ∃ t,u=US i t from r);cases e;rfl
 | str x=>obtain ⟨t,e⟩:=(show ∃ t,u=Wz x t from r);cases e;rfl
 | byt b=>obtain ⟨t,e⟩:=(show ∃ t,u=Value.bytes b t from r);cases e;rfl
 | flt b=>obtain ⟨t,e⟩:=(show ∃ t,u=Value.float b t from r);cases e;rfl
 | ref a=>cases (show u=So a from r);rfl
 | ty n=>cases (show u=Value.type n from r);rfl
section
variable {P:RG}{w:Sb}{H H':Hp}{h h':Heap}{a C dx:Rz}{fs fs':List (Str×V)}
theorem qX (hok:HOk P w H h) (e:H a=some (.ins C dx fs)):∃ mA,vj h a dx C mA/\(∀ f,lV (fs.lookup f) (mA f))/\WA mA (fs.map (·.1))/\fs.length<=1000/\H dx=some (.own a):=by
 obtain ⟨d,z,ne,ob,mA,n,r,q⟩:=(show fN P w H h a (.ins C dx fs) from hok a _ e)
 exact ⟨mA,⟨ob,n,ne⟩,r,q,z,d⟩
end
structure Cls (K:Rj) (C:Rz):Prop where
 pg:Uh K C Str.empty=true
 hd:Tn K C=true
 po:Vl K C=true
 sa:R6 K (.ref C) "__setattr__"=some (some (.builtin "object.__setattr__"))
theorem Cls.get {K:Rj}{C:Rz} (c:Cls K C) (f:Str):Uh K C f=true:=c.pg
noncomputable def jE (K:Rj) (C:Rz) (f:Str):Prop:=R6 K (.ref C) f=some none
theorem jE.Lh {K:Rj}{C:Rz}{f:Str} (n:jE K C f):VG K C f=some none:=by
 unfold VG
 rw[show R6 K (.ref C) f=some none from n]
 rfl
structure yI (K:Rj) (C:Rz) (m:Str) (f:Rz):Prop where
 at_:R6 K (.ref C) m=some (some (.ref f))
 fn:Vr K (.ref f)=true
 kp:SC K (.ref f)=true
section
variable {X:Cx}{pins:List (Rz×Obj)}{σ:St}{H:Hp}{s:Rm}{a C dx:Rz}{fs:List (Str×V)}{f:Str}{v:V}{A:Sw}{E:Rl->Rm->Prop}
theorem nU {b:Bool}{Q:Rl->Rm->Prop} (I:Inv X pins σ H s) (e:H a=some (.ins C dx fs)) (c:Cls X.K C) (n:jE X.K C f) (l:fs.lookup f=some v)
 (h:∀ u s',Inv X pins σ H s'->RelV v u->Q u s'):wpAny (RX X.prog X.w) A (getAttr (.ref a) f b) Q E s:=by
 obtain ⟨mA,O,r,_,_,_⟩:=qX I.hok e
 obtain ⟨u,hu,ru⟩:=lV.some_of (v:=v) (o:=mA f) (by rw[← l];exact r f)
 exact get_map I.kIn O (c.get f) c.hd n hu (yH ru) (h u _ (I.tok _) ru)
theorem kF {m:Str}{g:Rz}{pl:Sem Bool}{Q:Rl×List Rl->Rm->Prop} (I:Inv X pins σ H s) (e:H a=some (.ins C dx fs)) (c:Cls X.K C) (k:yI X.K C m g) (l:fs.lookup m=none)
 (h:Q (.ref g,[.ref a]) s):wpAny (RX X.prog X.w) A (Ww (.ref a) m pl) Q E s:=by
 obtain ⟨mA,O,r,_,_,_⟩:=qX I.hok e
 have hn:mA m=none:=lV.none_of (by rw[← l];exact r m)
 exact Ao I.kIn O (c.get m) k.at_ k.fn hn h
theorem nV {y:V}{u:Rl}{Q:Unit->Rm->Prop} (I:Inv X pins σ H s) (e:H a=some (.ins C dx fs)) (c:Cls X.K C) (n:jE X.K C f) (hl:fs.length < 1000) (ry:RelV y u)
 (h:∀ s',Inv X pins σ (upd H a (.ins C dx (d9 f y fs))) s'->Q () s'):wpAny (RX X.prog X.w) A (setAttr (.ref a) f u) Q E s:=by
 obtain ⟨mA,O,r,wi,_,ho⟩:=qX I.hok e
 have hz:(fs.map (·.1)).length<=sizeLine:=by rw[RP,U1];lia
 refine DH I.kIn O c.sa c.po n.Lh c.hd wi hz fun h' O' sb=>h _ ?_
 have hd:∃ o,h'.get? dx=some o:=let ⟨o,_,_,e',_⟩:=O'.ns;⟨o,e'⟩
 refine I.write (x:=a) (e:=dx) (by rw[e];exact TM) (.inr ho) (fun b q hb z=>(sb.2 b hb).trans z) hd ?_
 refine ⟨by rw[c6 O.ne];exact ho,?_,O.ne,O'.obj,_,O'.ns,fun g=>?_,fun g hg=>?_⟩
 ·have:=mR f y fs;lia
 ·show lV ((d9 f y fs).lookup g) (if g=f then some u else mA g)
  rw[mQ]
  by_cases q:g=f
  ·rw[if_pos q,if_pos q];exact ry
  ·rw[if_neg q,if_neg q];exact r g
 ·by_cases q:g=f
  ·rw[q];exact (lY f y fs).1
  ·refine (lY f y fs).2 g (wi g fun z=>hg ?_)
   show (if g=f then some u else mA g)=none
   rw[if_neg q];exact z
theorem Inv.made (I:Inv X pins σ H s):Inv X pins σ (upd (upd H s.heap.objs.size (.own (s.heap.objs.size+1))) (s.heap.objs.size+1) (.ins C s.heap.objs.size []))
 { s with heap:=(s.heap.push SB).push (SW C s.heap.objs.size) }:=by
 have e1:(s.heap.push SB).get? s.heap.objs.size=some SB:=RB s.heap rfl
 have e2:((s.heap.push SB).push (SW C s.heap.objs.size)).get? (s.heap.objs.size+1)=some (SW C s.heap.objs.size):=by
  have:=RB (s.heap.push SB) (o:=SW C s.heap.objs.size) rfl
  rwa [Ui] at this
 have e3:(s.heap.push SB).Ns s.heap.objs.size (fun _=>none):=⟨SB,#[],_,e1,rfl,(fun e he=>absurd he (by simp)),fun _=>rfl⟩
 have I1:=I.laid (a:=s.heap.objs.size) (o:=.own (s.heap.objs.size+1)) (h':=s.heap.push SB) (t':=s.toks) (fun b u q=>Rk _ q) (Rr _) ⟨_,e1⟩
 refine I1.laid (a:=s.heap.objs.size+1) (o:=.ins C s.heap.objs.size []) (t':=s.toks) (fun b u q=>Rk _ q) (Nat.le_of_eq (Ui _ _)) ?_
 have ne:s.heap.objs.size≠s.heap.objs.size+1:=RK (TY _)
 refine ⟨by rw[c6 ne,dz],Sz _,ne,e2,fun _=>none,(Heap.Ns1.of_empty e3).at fun o q=>Rk _ q,fun _=>TM,fun y hy=>absurd rfl hy⟩
theorem DI {prog:RG}{w:Sb}{env:Env}{e:Uq}{f:Str}{pos:Pos}{s:Rm}{Q:Rl->Rm->Prop} (hb:U4 e f env (eval e env)=eval e env)
 (h:wpAny (RX prog w) A (eval e env) (fun o s₁=>wpAny (RX prog w) A (getAttr o f true) Q E s₁) E s):wpAny (RX prog w) A (eval (.Attribute e f pos) env) Q E s :=
 Attribute_any_ h (by rw[arm_eval_Attribute,hb])
end
noncomputable def OT (K:Rj) (ta:TE) (f:Str):TE:=fun σ H Q=>ta σ H fun x H1=>∃ a C dx fs v,x=.ref a/\H1 a=some (.ins C dx fs)/\Cls K C/\jE K C f/\fs.lookup f=some v/\Q v H1
noncomputable def Li (K:Rj) (ta tv:TE) (f:Str):TS:=fun D σ H=>tv σ H fun y H1=>ta σ H1 fun x H2=>∃ a C dx fs,x=.ref a/\H2 a=some (.ins C dx fs)/\Cls K C/\jE K C f/\fs.length < 1000 ∧
 D.nx σ (upd H2 a (.ins C dx (d9 f y fs)))
noncomputable def OU (X:Cx) (op:UJ) (rd:V->V->Hp->VK->Prop):Prop :=
 ∀ (pins:List (Rz×Obj)) (s:Rm) (σ:St) (H:Hp) (x y:V) (u v:Rl) (Q:VK),Inv X pins σ H s->RelV x u->RelV y v->rd x y H Q->wpAny (RX X.prog X.w) X.A (inplaceOp op u v) (EP X pins σ Q) X.xe s
noncomputable def wR (K:Rj) (ta tv:TE) (rd:V->V->Hp->VK->Prop) (f:Str):TS:=fun D σ H=>ta σ H fun x H1=>∃ a C dx fs v,x=.ref a/\H1 a=some (.ins C dx fs)/\Cls K C/\jE K C f/\fs.lookup f=some v ∧
 tv σ H1 fun y H2=>rd v y H2 fun z H3=>∃ dx' fs',H3 a=some (.ins C dx' fs')/\fs'.length < 1000/\D.nx σ (upd H3 a (.ins C dx' (d9 f z fs')))
section
variable {X:Cx}{o e value:Uq}{f:Str}{pos pos' tpos:Pos}{ta tv:TE}
theorem HA (he:PE X e ta) (hb:U4 e f X.env (eval e X.env)=eval e X.env):PE X (.Attribute e f pos) (OT X.K ta f):=by
 intro pins s σ H Q I h
 refine DI hb (thn (he pins s σ H _ I h) fun u s1 zq=>?_)
 obtain ⟨x,H1,I1,rx,a,C,dx,fs,v,ex,ea,c,n,l,q⟩:=zq
 subst ex
 obtain rfl:u=So a:=rx
 exact nU I1 ea c n l fun u' s2 I2 ru=>⟨v,H1,I2,ru,q⟩
theorem HB (ha:PE X o ta) (hv:PE X value tv) (hs:Uy value (some (.Attribute o f pos')) pos.line X.env=pure false):PS X (.Assign [.Attribute o f pos'] value pos) (Li X.K ta tv f):=by
 intro pins s σ H D I h
 refine plainObj_wpAny_Assign_Attribute (thn (hv pins s σ H _ I h) fun u s1 ⟨y,H1,I1,ry,q⟩=>thn (ha pins s1 σ H1 _ I1 q) fun ov s2 ⟨x,H2,I2,rx,a,C,dx,fs,ex,ea,c,n,l,q2⟩=>?_) hs
 subst ex
 obtain rfl:ov=So a:=rx
 exact nV I2 ea c n l ry fun s3 I3=>⟨σ,_,I3,q2⟩
theorem yJ {op:UJ}{rd:V->V->Hp->VK->Prop} (ha:PE X o ta) (hv:PE X value tv) (hop:OU X op rd):PS X (.AugAssign (.Attribute o f tpos) op value pos) (wR X.K ta tv rd f):=by
 intro pins s σ H D I h
 refine wpAny_AugAssign_AttributeAny (thn (ha pins s σ H _ I h) fun ov s1 zq=>?_)
 obtain ⟨x,H1,I1,rx,a,C,dx,fs,v,ex,ea,c,n,l,q⟩:=zq
 subst ex
 obtain rfl:ov=So a:=rx
 refine nU I1 ea c n l fun u s2 I2 ru=>thn (hv pins s2 σ H1 _ I2 q) fun w3 s3 ⟨y,H2,I3,ry,q3⟩=>thn (hop pins s3 σ H2 v y u w3 _ I3 ru ry q3) fun w4 s4 zq=>?_
 obtain ⟨z,H3,I4,rz,dx',fs',ea',l',q4⟩:=zq
 exact nV I4 ea' c n l' rz fun s5 I5=>⟨σ,_,I5,q4⟩
end
section
variable {X:Cx}{pins:List (Rz×Obj)}{σ:St}{H:Hp}{s:Rm}{A:Sw}{E:Rl->Rm->Prop}{Q:Rl->Rm->Prop}{c:Rl}{b:Bool}
end
end L2
namespace L2
open PySem PySem.Spec PyProof.Rows
structure fz (k:Nat) (A:Sw):Prop where
 hd:A.handled=none
 dp:A.depth+3*k+5 < recursionLimit
 un:A.units+16*k+200 < Wy
theorem fz.mono {j k:Nat}{A:Sw} (r:fz k A) (h:j<=k):fz j A:=⟨r.hd,by have:=r.dp;lia,by have:=r.un;lia⟩
theorem fz.deeper {k:Nat}{A:Sw} (r:fz (k+1) A) (env:Env):fz k (A.deeper env) :=
 ⟨r.hd,by have:=r.dp;show A.depth+1+3*k+5 < _;lia,by have:=r.un;show A.units+3+16*k+200 < _;lia⟩
theorem vm {A:Sw}{C:Rz}{us:List Rl}{kw:List (Str×Rl)}:(A.under (.builtin "type.__call__" ⟨.ref C :: us,kw⟩)).depth=A.depth+1:=by
 first | rfl | simp[Ws,Code.weight,Code.isCreation,Code.isGuard,Code.isCaller,Code.frames,WQ,guardIds]
theorem vn {A:Sw}{C:Rz}{us:List Rl}{kw:List (Str×Rl)}:(A.under (.builtin "type.__call__" ⟨.ref C :: us,kw⟩)).units=A.units+1:=by
 first | rfl | simp[Ws,Code.cUnits,Code.frames,WQ]
theorem fz.make {k:Nat}{A:Sw} (r:fz (k+1) A) (C:Rz) (us:List Rl) (kw:List (Str×Rl)):fz k (A.under (.builtin "type.__call__" ⟨.ref C :: us,kw⟩)) :=
 ⟨r.hd,by have:=r.dp;rw[vm];lia,by have:=r.un;rw[vn];lia⟩
theorem fz.depth {k:Nat}{A:Sw} (r:fz k A):A.depth < recursionLimit:=by have:=r.dp;lia
noncomputable def Ar:TA:=fun _ H Q=>Q [] H
noncomputable def GC (ta:TE) (tr:TA):TA:=fun σ H Q=>ta σ H fun x H1=>tr σ H1 fun xs H2=>Q (x :: xs) H2
section
variable {X:Cx}{e:Uq}{es:List Uq}{te:TE}{t:TA}{pos:Pos}
theorem kG:PA X [] Ar:=fun _ _ _ _ H Q I h=>UD ⟨[],H,I,.nil,h⟩
theorem fT (ha:PE X e te) (hr:PA X es t) (hs:R8 (e :: es) X.env=(false,eval e X.env) :: R8 es X.env:=by rfl):PA X (e :: es) (GC te t):=by
 intro pos pins s σ H Q I h
 rw[hs]
 show wpAny _ _ (Wv ((false,eval e X.env) :: T9 pos (R8 es X.env))) _ _ s
 refine Ua (thn (ha pins s σ H _ I h) fun u s1 zq=>?_)
 obtain ⟨x,H1,I1,r1,q1⟩:=zq
 exact thn (hr pos pins s1 σ H1 _ I1 q1) fun us s2 ⟨xs,H2,I2,r2,q2⟩=>⟨x :: xs,H2,I2,.cons r1 r2,q2⟩
noncomputable def Lj (t:TA):TE:=fun σ H Q=>t σ H fun xs H1=>xs.length<=sizeLine/\∀ p,H1 p=none->Q (.ref p) (upd H1 p (.tup xs))
noncomputable def Lk (t:TA):TE:=fun σ H Q=>t σ H fun xs H1=>xs.length<=sizeLine/\∀ p,H1 p=none->Q (.ref p) (upd H1 p (.lst xs))
theorem HC {x1} (h:PA X es t):PE X (.Tuple es x1 pos) (Lj t):=by
 intro pins s σ H Q I hq
 refine wpAny_Tuple_spliced (thn (h pos pins s σ H _ I hq) fun us s1 ⟨xs,H1,I1,r,z,q⟩=>⟨by rw[← r.length];exact z,?_⟩)
 have hf:H1 s1.heap.objs.size=none:=I1.hok.fresh (Rr _)
 refine ⟨.ref s1.heap.objs.size,upd H1 s1.heap.objs.size (.tup xs),I1.laid (t':=s1.toks) (fun b u e=>Rk _ e) (Rr _) ?_,rfl,q _ hf⟩
 exact ⟨z,us,r,⟨_,RB _ rfl,rfl,_,rfl⟩⟩
theorem HD (h:PA X es t):PE X (.List es pos) (Lk t):=by
 intro pins s σ H Q I hq
 refine wpAny_List_spliced (thn (h pos pins s σ H _ I hq) fun us s1 ⟨xs,H1,I1,r,z,q⟩=>⟨by rw[← r.length];exact z,?_⟩)
 have hf:H1 s1.heap.objs.size=none:=I1.hok.fresh (Rr _)
 refine ⟨.ref s1.heap.objs.size,upd H1 s1.heap.objs.size (.lst xs),I1.laid (t':=s1.toks) (fun b u e=>Rk _ e) (Rr _) ?_,rfl,q _ hf⟩
 exact ⟨z,us,0,r,RB _ rfl⟩
end
noncomputable abbrev Sp:=List V->Hp->VK->XK->Prop
noncomputable abbrev CXT:=List Env->Hp->Rm->XK->Rl->Rm->Prop
structure nW (P:RG) (w:Sb) (K:Rj) (mg:Str->Option Rl) (base:Heap) (A:Sw) (outer:List Env) (s:Rm) (H:Hp):Prop where
 frames:A.frames=some outer
 mod:Mod K mg base
 bs:∀ b o,base.get? b=some o->s.heap.get? b=some o/\H b=none
 bsz:base.objs.size<=s.heap.objs.size
 kE:s.heap.FunFrames base outer
 frf:∀ b∈frs outer,H b=none
 hok:HOk P w H s.heap
 bare:V7 s.gens
inductive CE (outer:List Env) (P:RG) (w:Sb) (H:Hp) (s:Rm) (Q:VK) (u:Rl) (s':Rm):Prop where
 | mk (v:V) (H':Hp) (os:s'.os=s.os) (b:V7 s'.gens) (un:Un (frs outer) [] H H' s.heap s'.heap) (hk:HOk P w H' s'.heap) (r:RelV v u) (q:Q v H'):CE outer P w H s Q u s'
noncomputable def CR (CX:CXT) (outer:List Env) (P:RG) (w:Sb) (H:Hp) (s:Rm) (Q:VK) (E:XK) (r:Wa) (s':Rm):Prop :=
 match r with
 | .ok (.ret u)=>CE outer P w H s Q u s'
 | .ok _=>False
 | .error e=>CX outer H s E e s'
structure je (P:RG) (w:Sb) (K:Rj) (mg:Str->Option Rl) (base:Heap) (CX:CXT) (k:Nat) (f:Rz) (fd:S9) (ps:List Str) (sp:Sp):Prop where
 len:∀ vs H Q E,sp vs H Q E->vs.length=ps.length
 run:∀ (A:Sw) (outer:List Env) (s:Rm) (H:Hp) (args:Args) (us:List Rl) (vs:List V) (Q:VK) (E:XK),fz k A->nW P w K mg base A outer s H->BindsTo s fd args (ps.zip us)->c9 vs us->sp vs H Q E →
  codeAny (RX P w) A (.call (.ref f) args) (CR CX outer P w H s Q E) s
theorem nW.make {P:RG}{w:Sb}{K:Rj}{mg:Str->Option Rl}{base:Heap}{A:Sw}{outer:List Env}{s:Rm}{H:Hp} (e:nW P w K mg base A outer s H) (C:Rz) (us:List Rl) (kw:List (Str×Rl)) :
 nW P w K mg base (A.under (.builtin "type.__call__" ⟨.ref C :: us,kw⟩)) outer s H:=⟨by first | exact e.frames | (simpa [Ws,Code.envs,WQ,pushEnvs] using e.frames),e.mod,e.bs,e.bsz,e.kE,e.frf,e.hok,e.bare⟩
section
variable {X:Cx}{pins:List (Rz×Obj)}{σ:St}{H:Hp}{s s':Rm}
theorem Inv.HE (I:Inv X pins σ H s):nW X.prog X.w X.K X.mg X.base X.A X.stack s H :=
 ⟨I.ok.frames,I.ok.mod,I.bs,Sq I.ok.bsz I.sz,I.stack,I.qW,I.hok,I.bare⟩
theorem Inv.after {Q:VK}{u:Rl} (I:Inv X pins σ H s) (h:CE X.stack X.prog X.w H s Q u s'):EP X pins σ Q u s':=by
 obtain ⟨v,H',os,bare,un,hok,r,q⟩:=h
 obtain ⟨hh,g,d,t,os'⟩:=s'
 obtain rfl:os'=s.os:=os
 exact ⟨v,H',I.call (h':=hh) (g':=g) (d':=d) (t':=t) (ch:=[]) un hok bare (fun b z=>absurd z (by simp)),r,q⟩
end
noncomputable def As (sp:Sp) (dvs:List V) (E:XK) (t:TA):TE:=fun σ H Q=>t σ H fun vs H1=>sp (vs++dvs) H1 Q E
noncomputable def Au (C:Rz) (m:Str) (sp:Sp) (dvs:List V) (E:XK) (ta:TE) (t:TA):TE:=fun σ H Q=>ta σ H fun x H1=>∃ a dx fs,x=.ref a/\H1 a=some (.ins C dx fs)/\fs.lookup m=none ∧
 t σ H1 fun vs H2=>sp (x :: (vs++dvs)) H2 Q E
noncomputable def Av (C:Rz) (sp:Sp) (dvs:List V) (E:XK) (t:TA):TE:=fun σ H Q=>t σ H fun vs H1=>∀ x dx,H1 x=none->H1 dx=none->dx≠x →
 sp (.ref x :: (vs++dvs)) (upd (upd H1 dx (.own x)) x (.ins C dx [])) (fun v H2=>v=.non/\Q (.ref x) H2) E
noncomputable def Binds (K:Rj) (fd:S9) (ps:List Str) (ds:List Rl):Prop :=
 ∀ (s:Rm) (us:List Rl),K.In s.heap->(us++ds).length=ps.length->BindsTo s fd ⟨us,[]⟩ (ps.zip (us++ds))
theorem Binds.all {K:Rj}{fd:S9}{ps:List Str} (h:∀ us:List Rl,us.length=ps.length->Wn fd ⟨us,[]⟩=pure (ps.zip us)):Binds K fd ps []:=fun s us _ hl=>by
 rw[Sy] at hl ⊢
 exact .of_eq (h us hl)
noncomputable def jf (CX:CXT) (X:Cx) (E:XK):Prop:=∀ (pins:List (Rz×Obj)) (σ:St) (H:Hp) (s:Rm) (e:Rl) (s':Rm),Inv X pins σ H s->CX X.stack H s E e s'->X.xe e s'
section
variable {X:Cx}{CX:CXT}{k:Nat}{f C:Rz}{fd:S9}{ps:List Str}{sp:Sp}{dvs:List V}{ds:List Rl}{E:XK}{x m:Str}{p pos apos:Pos}{e o:Uq}{es:List Uq}{ta:TE}{t:TA}
theorem nX {pins:List (Rz×Obj)}{σ:St}{H:Hp}{s:Rm}{Q:VK}{us:List Rl}{vs:List V} (F:je X.prog X.w X.K X.mg X.base CX k f fd ps sp) (hr:fz k X.A) (hb:Binds X.K fd ps ds) (hd:c9 dvs ds) (hx:jf CX X E)
 (I:Inv X pins σ H s) (r:c9 vs us) (h:sp (vs++dvs) H Q E):wpAny (RX X.prog X.w) X.A (call (.ref f) us) (EP X pins σ Q) X.xe s:=by
 have r2:c9 (vs++dvs) (us++ds):=r.append hd
 have hl:(us++ds).length=ps.length:=by rw[← r2.length];exact F.len _ _ _ _ h
 refine WY (codeAny_mono (F.run X.A X.stack s H ⟨us,[]⟩ (us++ds) (vs++dvs) Q E hr I.HE (hb s us I.kIn hl) r2 h) fun r s' hq=>?_)
 cases r with
 | error e=>exact hx pins σ H s e s' I hq
 | ok fl =>
  cases fl with
  | ret u=>exact I.after hq
  | next=>exact Sk hq
  | brk=>exact Sk hq
  | cont=>exact Sk hq
theorem DJ (F:je X.prog X.w X.K X.mg X.base CX k f fd ps sp) (hr:fz k X.A) (hg:Gl X x) (hm:X.mg x=some (.ref f)) (hk:SC X.K (.ref f)=true) (hb:Binds X.K fd ps ds) (hd:c9 dvs ds) (hx:jf CX X E)
 (ha:PA X (e :: es) t) (hdb:(x==("__debug__":Str))=false:=by decide) (he:R8 (e :: es) X.env=(false,eval e X.env) :: R8 es X.env:=by rfl) (hpl:(T9 pos (R8 es X.env)).any (·.1)=false:=by rfl) :
 PE X (.Call (.Name x p) (e :: es) [] pos) (As sp dvs E t):=by
 intro pins s σ H Q I h
 refine SY (kT I hg hm ?_ hdb)
 refine T5 (h₀:=X.base) I.ok.mod.kin hk (thn (ha pos pins s σ H _ I h) fun us s1 ⟨vs,H1,I1,r,q⟩=>⟨I1.kIn,?_⟩) he hpl
 exact nX F hr hb hd hx I1 r q
theorem Aw (F:je X.prog X.w X.K X.mg X.base CX k f fd ps sp) (hr:fz k X.A) (hg:Gl X x) (hm:X.mg x=some (.ref f)) (hk:SC X.K (.ref f)=true) (hb:Binds X.K fd ps ds) (hd:c9 dvs ds) (hx:jf CX X E)
 (hdb:(x==("__debug__":Str))=false:=by decide):PE X (.Call (.Name x p) [] [] pos) (As sp dvs E Ar):=by
 intro pins s σ H Q I h
 refine SY (kT I hg hm ?_ hdb)
 exact U6 I.kIn hk (nX (us:=[]) F hr hb hd hx I .nil h)
theorem DK {pl:Sem Bool} (he:PE X o ta) (c:Cls X.K C) (hm:yI X.K C m f) (F:je X.prog X.w X.K X.mg X.base CX k f fd ps sp) (hr:fz k X.A) (hb:Binds X.K fd ps ds) (hd:c9 dvs ds) (hx:jf CX X E) (ha:PA X (e :: es) t)
 (hst:R8 (e :: es) X.env=(false,eval e X.env) :: R8 es X.env:=by rfl) (hpl:(T9 pos (R8 es X.env)).any (·.1)=false:=by rfl)
 (ht:eval (.Call (.Attribute o m apos) (e :: es) [] pos) X.env=(do
  let ov ← eval o X.env
  Wu apos.atName
  let (f,first) ← UK [ov] (Ww ov m pl)
  callWith pos f first (T9 pos (R8 (e :: es) X.env)) (Wo pos (U3 [] X.env))):=by rfl) :
 PE X (.Call (.Attribute o m apos) (e :: es) [] pos) (Au C m sp dvs E ta t):=by
 intro pins s σ H Q I h
 refine UL (pl:=pl) (thn (he pins s σ H _ I h) fun u s1 ⟨x,H1,I1,rx,a,dx,fs,ex,ea,l,q⟩=>?_) ht
 subst ex
 obtain rfl:u=So a:=rx
 refine kF I1 ea c hm l ?_
 refine T5 (first:=[.ref a]) (h₀:=X.base) I.ok.mod.kin hm.kp (thn (ha pos pins s1 σ H1 _ I1 q) fun us s2 ⟨vs,H2,I2,r,q2⟩=>⟨I2.kIn,?_⟩) hst hpl
 exact nX (us:=.ref a :: us) (vs:=.ref a :: vs) F hr hb hd hx I2 (.cons rfl r) q2
theorem Ax {pl:Sem Bool} (he:PE X o ta) (c:Cls X.K C) (hm:yI X.K C m f) (F:je X.prog X.w X.K X.mg X.base CX k f fd ps sp) (hr:fz k X.A) (hb:Binds X.K fd ps ds) (hd:c9 dvs ds) (hx:jf CX X E)
 (ht:eval (.Call (.Attribute o m apos) [] [] pos) X.env=(do
  let ov ← eval o X.env
  Wu apos.atName
  let (f,first) ← UK [ov] (Ww ov m pl)
  callWith pos f first (T9 pos (R8 [] X.env)) (Wo pos (U3 [] X.env))):=by rfl) :
 PE X (.Call (.Attribute o m apos) [] [] pos) (Au C m sp dvs E ta Ar):=by
 intro pins s σ H Q I h
 refine UL (pl:=pl) (thn (he pins s σ H _ I h) fun u s1 ⟨x,H1,I1,rx,a,dx,fs,ex,ea,l,q⟩=>?_) ht
 subst ex
 obtain rfl:u=So a:=rx
 refine kF I1 ea c hm l ?_
 exact U6 (first:=[.ref a]) I1.kIn hm.kp (nX (us:=[.ref a]) (vs:=[.ref a]) F hr hb hd hx I1 (.cons rfl .nil) q)
structure Mk (K:Rj) (C f:Rz):Prop where
 makes:VH K C=true
 init:R6 K (.ref C) "__init__"=some (some (.ref f))
 fn:Vr K (.ref f)=true
 kp:SC K (.ref C)=true
theorem tQ {pins:List (Rz×Obj)}{σ:St}{H:Hp}{s:Rm}{Q:VK}{us:List Rl}{vs:List V} (M:Mk X.K C f) (F:je X.prog X.w X.K X.mg X.base CX k f fd ps sp) (hr:fz (k+1) X.A) (hb:Binds X.K fd ps ds) (hd:c9 dvs ds)
 (hx:jf CX X E) (I:Inv X pins σ H s) (r:c9 vs us)
 (h:∀ x dx,H x=none->H dx=none->dx≠x->sp (.ref x :: (vs++dvs)) (upd (upd H dx (.own x)) x (.ins C dx [])) (fun v H2=>v=.non/\Q (.ref x) H2) E) :
 wpAny (RX X.prog X.w) X.A (call (.ref C) us) (EP X pins σ Q) X.xe s:=by
 have hq:=h (s.heap.objs.size+1) s.heap.objs.size (I.hok.fresh (Te _)) (I.hok.fresh (Rr _)) (RK (TY _))
 have I2:=Inv.made (C:=C) I
 have r2:c9 (V.ref (s.heap.objs.size+1) :: (vs++dvs)) (So (s.heap.objs.size+1) :: (us++ds)):=.cons rfl (r.append hd)
 have hl:(So (s.heap.objs.size+1) :: us++ds).length=ps.length:=by
  have e:=r2.length
  rw[F.len _ _ _ _ hq] at e
  exact e.symm
 refine WY (Aq (f:=f) I.kIn M.makes M.init (beq_iff_eq.mp M.fn) (codeAny_mono (F.run _ X.stack _ _ ⟨So (s.heap.objs.size+1) :: us,[]⟩ (So (s.heap.objs.size+1) :: (us++ds)) _ _ E (hr.make C us [])
  (I2.HE.make C us []) (hb _ (So (s.heap.objs.size+1) :: us) I2.kIn hl) r2 hq) fun r s' hq'=>?_))
 cases r with
 | error e=>exact hx pins σ _ _ e s' I2 hq'
 | ok fl =>
  cases fl with
  | ret u =>
   obtain ⟨v,H',I3,rv,ev,q3⟩:=I2.after hq'
   subst ev
   exact ⟨rv,⟨V.ref (s.heap.objs.size+1),H',I3,rfl,q3⟩⟩
  | next=>exact Sk hq'
  | brk=>exact Sk hq'
  | cont=>exact Sk hq'
theorem DL (M:Mk X.K C f) (F:je X.prog X.w X.K X.mg X.base CX k f fd ps sp) (hr:fz (k+1) X.A) (hg:Gl X x) (hm:X.mg x=some (.ref C)) (hb:Binds X.K fd ps ds) (hd:c9 dvs ds) (hx:jf CX X E)
 (ha:PA X (e :: es) t) (hdb:(x==("__debug__":Str))=false:=by decide) (he:R8 (e :: es) X.env=(false,eval e X.env) :: R8 es X.env:=by rfl) (hpl:(T9 pos (R8 es X.env)).any (·.1)=false:=by rfl) :
 PE X (.Call (.Name x p) (e :: es) [] pos) (Av C sp dvs E t):=by
 intro pins s σ H Q I h
 refine SY (kT I hg hm ?_ hdb)
 refine T5 (h₀:=X.base) I.ok.mod.kin M.kp (thn (ha pos pins s σ H _ I h) fun us s1 ⟨vs,H1,I1,r,q⟩=>⟨I1.kIn,?_⟩) he hpl
 exact tQ M F hr hb hd hx I1 r q
theorem Ay (M:Mk X.K C f) (F:je X.prog X.w X.K X.mg X.base CX k f fd ps sp) (hr:fz (k+1) X.A) (hg:Gl X x) (hm:X.mg x=some (.ref C)) (hb:Binds X.K fd ps ds) (hd:c9 dvs ds) (hx:jf CX X E)
 (hdb:(x==("__debug__":Str))=false:=by decide):PE X (.Call (.Name x p) [] [] pos) (Av C sp dvs E Ar):=by
 intro pins s σ H Q I h
 refine SY (kT I hg hm ?_ hdb)
 exact U6 I.kIn M.kp (tQ (us:=[]) M F hr hb hd hx I .nil h)
end
section
variable {X:Cx}{CX:CXT}{k:Nat}{f C:Rz}{fd:S9}{ps ks:List Str}{sp:Sp}{E:XK}{x m:Str}{p pos apos kpos:Pos}{e o:Uq}{es:List Uq}{kws:List Vn}{te ta:TE}{t tk:TA}{nm:Option Str}
variable {g:List Rl->List Rl->List Rl}{gV:List V->List V->List V}
end
structure fU (N P:List Str) (sc:Sx):Prop where
 kind:sc.kind=.function
 co:sc.isCoroutine=false
 gen:sc.isGenerator=false
 nd:N.Nodup
 pre:N.take P.length=P
 par:∀ x∈P,sc.names.lookup x=some .local\/sc.names.lookup x=some .cell
 nofree:∀ y∈sc.names,y.2≠.free
theorem qx {kindOf:Str->Option Ub}{x:Str}:∀ {binds:List (Str×Rl)}{m:Str->Option Rl},(∀ v,(x,v)∉binds)->bindL kindOf binds m x=m x
 | [],_,_=>rfl
 | (n,v) :: r,m,h=>by
  unfold bindL
  rw[qx fun w hw=>h w (Ru _ hw)]
  split
  ·have:x≠n:=by rintro rfl;exact h v RE
   simp[this]
  ·rfl
theorem qy {kindOf:Str->Option Ub}{x:Str}:∀ {binds:List (Str×Rl)}{m:Str->Option Rl},(∀ v,(x,v)∉binds)->bindC kindOf binds m x=m x
 | [],_,_=>rfl
 | (n,v) :: r,m,h=>by
  unfold bindC
  rw[qy fun w hw=>h w (Ru _ hw)]
  split
  ·rfl
  ·have:x≠n:=by rintro rfl;exact h v RE
   simp[this]
theorem qz {kindOf:Str->Option Ub}{x:Str}{v:Rl}:∀ {P:List Str}{vs:List Rl}{i:Nat}{m:Str->Option Rl},P.Nodup->P[i]?=some x->vs[i]?=some v->kindOf x=some .local →
 bindL kindOf (P.zip vs) m x=some v
 | [],_,_,_,_,h,_,_=>by simp at h
 | _ :: _,[],_,_,_,_,h,_=>by simp at h
 | p :: P,w :: vs,0,m,nd,h1,h2,hk=>by
  simp at h1 h2;subst h1;subst h2
  show bindL kindOf ((p,w) :: P.zip vs) m p=_
  unfold bindL
  rw[qx fun v hv=>(List.nodup_cons.mp nd).1 (UV hv).1,if_pos hk]
  simp
 | p :: P,w :: vs,i+1,m,nd,h1,h2,hk=>by
  show bindL kindOf ((p,w) :: P.zip vs) m x=_
  unfold bindL
  exact qz (i:=i) (List.nodup_cons.mp nd).2 (by simpa using h1) (by simpa using h2) hk
theorem qA {kindOf:Str->Option Ub}{x:Str}{v:Rl}:∀ {P:List Str}{vs:List Rl}{i:Nat}{m:Str->Option Rl},P.Nodup->P[i]?=some x->vs[i]?=some v->kindOf x≠some .local →
 bindC kindOf (P.zip vs) m x=some v
 | [],_,_,_,_,h,_,_=>by simp at h
 | _ :: _,[],_,_,_,_,h,_=>by simp at h
 | p :: P,w :: vs,0,m,nd,h1,h2,hk=>by
  simp at h1 h2;subst h1;subst h2
  show bindC kindOf ((p,w) :: P.zip vs) m p=_
  unfold bindC
  rw[qy fun v hv=>(List.nodup_cons.mp nd).1 (UV hv).1,if_neg hk]
  simp
 | p :: P,w :: vs,i+1,m,nd,h1,h2,hk=>by
  show bindC kindOf ((p,w) :: P.zip vs) m x=_
  unfold bindC
  exact qA (i:=i) (List.nodup_cons.mp nd).2 (by simpa using h1) (by simpa using h2) hk
noncomputable def start (N:List Str) (vs:List V):St:=vs.map some++RN (N.length - vs.length) none
noncomputable def vo (CX:CXT) (P:RG) (w:Sb) (K:Rj) (mg:Str->Option Rl) (base:Heap) (N:List Str) (qual:Str) (scope:Sx) (f:Rz) (cd:Rl) (A:Sw) (outer:List Env) (s:Rm) (H:Hp) (E:XK):Cx where
 prog:=P
 w:=w
 K:=K
 mg:=mg
 base:=base
 A:=A.deeper (Wx qual scope s.heap.objs.size f cd)
 N:=N
 s₀:=s
 H₀:=H
 env:=Wx qual scope s.heap.objs.size f cd
 outer:=outer
 stack:=Wx qual scope s.heap.objs.size f cd :: outer
 ex:=[]
 calm:=true
 fn:=fun _=>true
 pn:=[]
 xe:=fun e s'=>wpAny (RX P w) (A.deeper (Wx qual scope s.heap.objs.size f cd)) (leaving (Wx qual scope s.heap.objs.size f cd) e) (fun _ s''=>CX outer H s E e s'') (fun e' s''=>CX outer H s E e' s'') s'
theorem tR {sc:Sx}{n:Nat}{x:Str} (h:sc.names.lookup x=some .cell):∃ c,(cellsFrom n sc.names []).lookup x=some c:=by
 have q:=Wb sc.names n [] (.inl h)
 exact Option.isSome_iff_exists.mp q
theorem yK {CX:CXT}{P:RG}{w:Sb}{K:Rj}{mg:Str->Option Rl}{base:Heap}{N ps:List Str}{qual:Str}{scope:Sx}{f:Rz}{cd:Rl}{A:Sw}{outer:List Env}{s s1:Rm}{H:Hp}{E:XK}{us:List Rl}{vs:List V}
 (S:fU N ps scope) (hd:A.handled=none) (e0:nW P w K mg base A outer s H) (hl:vs.length=ps.length) (r:c9 vs us)
 (x:InCallC s s.heap.objs.size (bindL (Wx qual scope s.heap.objs.size f cd).kindOf (ps.zip us) fun _=>none) (cellsFrom (s.heap.objs.size+1) scope.names []) (bindC (Wx qual scope s.heap.objs.size f cd).kindOf (ps.zip us) fun _=>none) s1) :
 Inv (vo CX P w K mg base N qual scope f cd A outer s H E) [] (start N vs) H s1:=by
 have hpl:ps.length<=N.length:=by have:=congrArg VV S.pre;rw[UN] at this;lia
 obtain ⟨h1,tk,rfl,hk⟩:=x.done
 have noA:∀ b:Rz,b∉(vo CX P w K mg base N qual scope f cd A outer s H E).ex:=fun b z=>absurd (show b∈([]:List Rz) from z) (by simp)
 refine ⟨⟨e0.mod,S.kind,rfl,rfl,Rr _,fun y z c h1 h2=>?_,fun y hy=>?_,fun y c _ h=>?_,fun _=>hd,WJ e0.frames,.inr ⟨rfl,rfl⟩,fun b z=>absurd z (noA b),e0.bs,e0.bsz,fun b _ _=>noA b,fun b z=>absurd z (noA b),e0.kE,e0.frf⟩,
  rfl,e0.bare,Un.kept hk,⟨_,x.toInCall.ns,fun i y v h1 h2 h3=>?_⟩,fun y c h=>⟨_,x.cell y c h⟩,e0.hok.fresh (Rr _),fun y c h=>?_,fun p hp=>absurd (show p∈([]:List (Rz×Obj)) from hp) (by simp),e0.hok.kept hk,?_⟩
 ·exact name_of_addr x.apart (SI h1) (SI h2)
 ·have hy:scope.names.lookup y=some .cell\/scope.names.lookup y=some .free:=hy
  rcases hy with hy | hy
  ·exact tR hy
  ·exact absurd rfl (S.nofree _ (SI hy))
 ·exact SV (x.above y c (SI h))
 ·have hi:i < vs.length:=by
   unfold start at h2
   by_cases hi:i < vs.length
   ·exact hi
   ·rw[RZ (by simpa using hi)] at h2
    rw[Uc] at h2
    split at h2<;>cases h2
  have ha:vs[i]?=some v:=by
   unfold start at h2
   rw[Rx (by simpa using hi),RY] at h2
   cases e:vs[i]? with
   | none=>rw[e] at h2;cases h2
   | some a=>rw[e] at h2;cases h2;rfl
  obtain ⟨u,hu,rv⟩:=r.get ha
  have hp:ps[i]?=some y:=by
   rw[← S.pre,T6 (by lia)];exact h1
  have ndP:ps.Nodup:=by rw[← S.pre];exact S.nd.sublist (List.take_sublist _ _)
  refine ⟨u,rv,?_⟩
  rcases S.par y (RJ hp) with k | k
  ·exact .inl ⟨k,qz ndP hp hu k⟩
  ·obtain ⟨c,e⟩:=tR (n:=s.heap.objs.size+1) k
   refine .inr ⟨.inl k,c,e,?_⟩
   have q:=x.cell y c e
   rw[qA ndP hp hu (by show scope.names.lookup y≠_;rw[k];decide)] at q
   exact q
 ·exact e0.hok.fresh (SV (x.above y c (SI h)))
 ·unfold start
  show _=N.length
  rw[RT,RP,Uj]
  lia
theorem Ll {CX:CXT}{P:RG}{w:Sb}{K:Rj}{mg:Str->Option Rl}{base:Heap}{k:Nat}{f:Rz}{name qual:Str}{params:Vo}{body:List VF}{scope:Sx}{dV kV doc pm cdv ct oc:Rl}{an od:Option Rz}
 {osl:Array (Option Rl)}{N ps:List Str}{sp:Sp} (lk:K.lookup f=some ⟨oc,od,.func (SM name qual params body scope dV kV doc pm an cdv ct),osl⟩) (hcd:UU K cdv qual=true) (S:fU N ps scope)
 (len:∀ vs H Q E,sp vs H Q E->vs.length=ps.length)
 (hbody:∀ (A:Sw) (outer:List Env) (s:Rm) (H:Hp) (vs:List V) (Q:VK) (E:XK),fz k (A.deeper (Wx qual scope s.heap.objs.size f cdv))->sp vs H Q E →
  ∃ t,PSs (vo CX P w K mg base N qual scope f cdv A outer s H E) body t/\t { nx:=fun _ H'=>Q .non H',rt:=Q } (start N vs) H) :
 je P w K mg base CX (k+1) f (SM name qual params body scope dV kV doc pm an cdv ct) ps sp:=by
 refine ⟨len,fun A outer s H args us vs Q E hr e0 hb r hsp=>?_⟩
 have hl:=len _ _ _ _ hsp
 have KX:K.In s.heap:=e0.mod.kin.keeps fun b o e=>(e0.bs b o e).1
 have lim:s.heap.NoLimit:=e0.mod.nolimit.keeps fun b o e=>(e0.bs b o e).1
 have hkind:∀ y∈ps.zip us,scope.names.lookup y.1=some .local\/(scope.names.lookup y.1=some .cell/\((cellsFrom (s.heap.objs.size+1) scope.names []).lookup y.1).isSome=true):=fun ⟨n,v⟩ hy=>by
  rcases S.par n (UV hy).1 with q | q
  ·exact .inl q
  ·exact .inr ⟨q,Wb _ _ _ (.inl q)⟩
 refine codeAny_call_function hr.depth (KX _ _ lk) rfl S.co S.gen rfl (PySem.W.codeRec_of KX hcd) (hb _ _ _ _ ?_)
 refine wpAny_newFunctionEnv_cells S.kind hkind fun env he s1 x=>?_
 subst he
 refine ⟨lim.keeps x.toInCall.keep,codeAny_func ?_⟩
 obtain ⟨t,ht,hq⟩:=hbody A outer s H vs Q E (hr.deeper _) hsp
 have I:Inv (vo CX P w K mg base N qual scope f cdv A outer s H E) [] (start N vs) H s1:=yK S hr.hd e0 hl r x
 refine SX (ht [] s1 (start N vs) H _ I hq) (fun fl s' hs=>?_) fun e s' hs=>hs
 have fin:∀ {σ':St}{H':Hp}{v:V}{u:Rl},Inv (vo CX P w K mg base N qual scope f cdv A outer s H E) [] σ' H' s'->RelV v u->Q v H'->CE outer P w H s Q u s' :=
  fun {σ' H' v u} J rv q=>⟨v,H',J.os,J.bare,J.base,J.hok,rv,q⟩
 cases fl with
 | ret u =>
  obtain ⟨v,σ',H',J,rv,q⟩:=hs
  exact fin J rv q
 | next =>
  obtain ⟨σ',H',J,q⟩:=hs
  exact fin (v:=V.non) (u:=V9) J rfl q
 | brk =>
  obtain ⟨_,_,_,q⟩:=hs
  exact Sk q
 | cont =>
  obtain ⟨_,_,_,q⟩:=hs
  exact Sk q
end L2
namespace L2
open PySem PySem.Spec PyProof.Rows
section
variable {X:Cx}{x:Str}{p pos:Pos}{e:Uq}{es:List Uq}{t:TA}{id T:String}{r:List V->Hp->VK->Prop}
noncomputable def tCB (r:List V->Hp->VK->Prop) (t:TA):TE:=fun σ H Q=>t σ H fun vs H1=>r vs H1 Q
theorem gT (hc:fO X (.builtin id) r) (hg:Gl X x) (hm:X.mg x=none) (hv:UI x=some (.builtin id)) (ha:PA X (e :: es) t) (hn:x≠"__name__":=by decide) (hdb:(x==("__debug__":Str))=false:=by decide)
 (he:R8 (e :: es) X.env=(false,eval e X.env) :: R8 es X.env:=by rfl) (hpl:(T9 pos (R8 es X.env)).any (·.1)=false:=by rfl):PE X (.Call (.Name x p) (e :: es) [] pos) (tCB r t):=by
 intro pins s σ H Q I h
 refine SY (gS I hg hm hv ?_ hn hdb)
 exact U7 (thn (ha pos pins s σ H _ I h) fun us s1 ⟨vs,H1,I1,r1,q1⟩=>hc pins s1 σ H1 vs us Q I1 r1 q1) he hpl
theorem jZ (hc:fO X (.type T) r) (hg:Gl X x) (hm:X.mg x=none) (hv:UI x=some (.type T)) (ha:PA X (e :: es) t) (hn:x≠"__name__":=by decide) (hdb:(x==("__debug__":Str))=false:=by decide)
 (he:R8 (e :: es) X.env=(false,eval e X.env) :: R8 es X.env:=by rfl) (hpl:(T9 pos (R8 es X.env)).any (·.1)=false:=by rfl):PE X (.Call (.Name x p) (e :: es) [] pos) (tCB r t):=by
 intro pins s σ H Q I h
 refine SY (gS I hg hm hv ?_ hn hdb)
 exact Sf (thn (ha pos pins s σ H _ I h) fun us s1 ⟨vs,H1,I1,r1,q1⟩=>hc pins s1 σ H1 vs us Q I1 r1 q1) he hpl
end
end L2
namespace HT
open PySem PyProof.Rows
section
open PySem.SeqAt
open PySem.AutoSeq1 (wpAny_loadPart')
open PySem.MeetsSeq PySem.MeetsSeq2 PySem.MeetsSeq3
end
section
variable {prog:RG}{w:Sb}{A:Sw}{E:Rl->Rm->Prop}{s:Rm}
theorem DN {t b:Rz}{vs ws:List Rl}{Q:Rl->Rm->Prop} (ht:IsTup s.heap t vs.toArray) (hb:IsTup s.heap b ws.toArray) (hv:vs≠[])
 (h1:ws=[]->Q (.ref t) s) (h2:ws≠[]->Q (.ref s.heap.objs.size) { s with heap:=s.heap.push { cls:=.type "tuple",data:=.seq (vs++ws).toArray } })
 (hsz:vs.length+ws.length<=sizeLine):wpAny (RX prog w) A (SK .Add (.ref t) (.ref b)) Q E s:=by
 obtain ⟨⟨cls,dd,data,sl⟩,ho,hc,n,hd⟩:=id ht
 obtain ⟨⟨cls2,dd2,data2,sl2⟩,ho2,hc2,n2,hd2⟩:=id hb
 simp only at hc hd hc2 hd2
 subst hc hd hc2 hd2
 have e:vs.toArray++ws.toArray=(vs++ws).toArray:=by simp
 by_cases hw:ws=[]
 ·exact concat_meets ⟨_,ho,rfl⟩ ⟨_,ho2,rfl⟩ Wi Xb UF UB (Uv _ _)
   (tuple_addW1 t b vs.toArray ws.toArray n n2 dd dd2 sl sl2 (by simpa using hv) (by simp[hw])) ⟨ho,ho2,h1 hw⟩
 ·refine concat_meets ⟨_,ho,rfl⟩ ⟨_,ho2,rfl⟩ Wi Xb UF UB (Uv _ _)
   (tuple_addW2 t b vs.toArray ws.toArray n n2 dd dd2 sl sl2 (by simpa using hv) (by simpa using hw) (by rw[Rp,Rp];exact hsz)) ⟨ho,ho2,?_⟩
  rw[e]
  exact h2 hw
noncomputable def sIx (n d:Nat):Option Int->Nat
 | none=>d
 | some v=>if v < 0 then (v+(n:Int)).toNat else min v.toNat n
theorem HF (n d:Nat) (hd:d<=n) (o:Option Int):sIx n d o<=n:=by
 cases o with
 | none=>exact hd
 | some v =>
  show (if v < 0 then (v+(n:Int)).toNat else min v.toNat n)<=n
  by_cases hv:v < 0
  ·rw[if_pos hv];lia
  ·rw[if_neg hv];exact Nat.min_le_right _ _
theorem wU (v:Int) (n d:Nat):(if v < 0 then max (v+(n:Int)) 0 else min v (n:Int))=((sIx n d (some v):Nat):Int):=by
 show (if v < 0 then max (v+(n:Int)) 0 else min v (n:Int))=(((if v < 0 then (v+(n:Int)).toNat else min v.toNat n):Nat):Int)
 by_cases hv:v < 0
 ·simp only[if_pos hv];lia
 ·simp only[if_neg hv];lia
theorem vp (lo hi:Option Int) (n:Nat):Um lo hi 1 (n:Int)=(((sIx n 0 lo:Nat):Int),((sIx n n hi:Nat):Int)):=by
 have h1:¬ ((1:Int) < 0):=by lia
 unfold Um
 simp only[h1,if_false]
 refine Prod.ext ?_ ?_
 ·cases lo with
  | none=>rfl
  | some v=>exact wU v n 0
 ·cases hi with
  | none=>rfl
  | some v=>exact wU v n n
theorem vq (i j:Nat):Tg (i:Int) (j:Int) 1=j - i:=by
 unfold Tg
 have h1:(1:Int) > 0:=by lia
 simp only[h1,if_true,Int.ediv_one]
 split<;>lia
theorem nY {v:Rl}{o:Option Int}{Q:Option Int->Rm->Prop} (p:Wf v o) (h:Q o s):wpAny (RX prog w) A (Builtin.Slice.slicePartIndex v) Q E s:=by
 cases p with
 | none=>exact slicePart_none h
 | int i t=>exact slicePart_int h
theorem i6 {sl:Rz}{vl vu:Rl}{lo hi:Option Int}{n:Nat}{Q:Int×Int×Nat->Rm->Prop} (hs:s.heap.IsSliceOf sl vl vu .none) (pl:Wf vl lo) (pu:Wf vu hi)
 (h:Q (((sIx n 0 lo:Nat):Int),1,sIx n n hi - sIx n 0 lo) s):wpAny (RX prog w) A (Vg (.ref sl) (pure (n:Int))) Q E s:=by
 obtain ⟨os,hos,hcs,hds⟩:=id hs
 unfold Vg Builtin.Slice.sliceFields
 refine Ro (Ro (wpAny_field hos hds (x:=vl) rfl (Ro (wpAny_field hos hds (x:=vu) rfl (Ro (wpAny_field hos hds (x:=.none) rfl (wpAny_pure ?_)))))))
 refine Ro (slicePart_none ?_)
 show wpAny _ _ (if ((1:Int)==0)=true then _ else _) _ _ s
 rw[if_neg (by decide)]
 refine Ro (nY pl (Ro (nY pu (Ro (wpAny_pure ?_)))))
 show wpAny _ _ (match Um lo hi 1 (n:Int) with | (lo,hi)=>pure (lo,(1:Int),Tg lo hi 1)) _ _ s
 rw[vp lo hi n]
 show wpAny _ _ (pure (((sIx n 0 lo:Nat):Int),(1:Int),Tg ((sIx n 0 lo:Nat):Int) ((sIx n n hi:Nat):Int) 1)) _ _ s
 rw[vq]
 exact wpAny_pure h
theorem Az (xs:Array Rl) (i k:Nat):((RV k).filterMap fun (m:Nat)=>xs[((i:Int)+(m:Int)*1).toNat]?).toArray=((xs.toList.drop i).take k).toArray:=by
 have e:(fun (m:Nat)=>xs[((i:Int)+(m:Int)*1).toNat]?)=fun m=>xs[i+m]?:=by
  funext m
  have:((i:Int)+(m:Int)*1).toNat=i+m:=by lia
  rw[this]
 rw[e]
 have:=pick_run xs i k
 rw[List.filterMap_map] at this
 have e2:((fun x=>xs[x]?) ∘ fun x=>i+x)=fun m=>xs[i+m]?:=rfl
 rw[e2] at this
 rw[this]
theorem kX {t sl:Rz}{items:Array Rl}{vl vu:Rl}{lo hi:Option Int}{Q:Rl->Rm->Prop} (ht:IsTup s.heap t items) (hs:s.heap.IsSliceOf sl vl vu .none) (pl:Wf vl lo) (pu:Wf vu hi)
 (hw:¬ (sIx items.size 0 lo=0/\sIx items.size items.size hi=items.size))
 (h:Q (.ref s.heap.objs.size) { s with heap:=s.heap.push { cls:=.type "tuple",data:=.seq ((items.toList.drop (sIx items.size 0 lo)).take (sIx items.size items.size hi - sIx items.size 0 lo)).toArray } })
 (hsz:items.size<=sizeLine):wpAny (RX prog w) A (VX (.ref t) (.ref sl)) Q E s:=by
 have htake:sizeOk (.seq ((items.toList.drop (sIx items.size 0 lo)).take (sIx items.size items.size hi - sIx items.size 0 lo)).toArray):=by
  show ((items.toList.drop (sIx items.size 0 lo)).take (sIx items.size items.size hi - sIx items.size 0 lo)).toArray.size<=sizeLine
  rw[Rp,UN,List.length_drop,Vc]
  lia
 have hj:sIx items.size items.size hi<=items.size:=HF _ _ (Rr _) hi
 obtain ⟨os,hos,hcs,hds⟩:=id hs
 have hTs:s.TypeIs (.ref sl) "slice":=⟨os,hos,hcs⟩
 unfold VX
 try with_reducible refine Tf ?_
 first | refine Ro (wpAny_pure ?_) | skip
 refine Ro (wpAny_sequenceKey ht.typeIs (by decide) ?_)
 refine Ro (W7 (name:=RM "__getitem__") ht.typeIs SN
  (Wh SN ht.typeIs entry_tuple_getitem ?_ (args_tuple_getitem _ _)))
 show wpAny _ _ (Vf (.ref t) >>= _) _ _ s
 refine Ro (tupleItemsOf_ ht ?_)
 refine Ro (UH hTs ?_)
 rw[if_pos (by decide)]
 refine Ro (i6 hs pl pu ?_)
 have hno:¬ ((((sIx items.size 0 lo:Nat):Int)==0&&(1:Int)==1&&(sIx items.size items.size hi - sIx items.size 0 lo)==items.size)=true):=by
  intro q
  rw[Rn,Rn] at q
  have q1:((sIx items.size 0 lo:Nat):Int)=0:=eq_of_beq q.1.1
  have q2:sIx items.size items.size hi - sIx items.size 0 lo=items.size:=eq_of_beq q.2
  exact hw ⟨by lia,by lia⟩
 show wpAny _ _ (if (((sIx items.size 0 lo:Nat):Int)==0&&(1:Int)==1&&(sIx items.size items.size hi - sIx items.size 0 lo)==items.size)=true then _ else _) _ _ s
 rw[if_neg hno,Az]
 first
  | exact Ro (m:=TF _) (Tc (wpAny_pure ⟨_,rfl,wpAny_pure h⟩) htake)
  | exact Ro (m:=TF _) (Tc (Ro (wpAny_pure (wpAny_pure ⟨_,rfl,wpAny_pure h⟩))) htake)
  | exact Ro (Ro (m:=TF _) (Tc (wpAny_pure (wpAny_pure ⟨_,rfl,wpAny_pure h⟩)) htake))
  | exact Ro (Ro (m:=TF _) (Tc (wpAny_pure ⟨_,rfl,wpAny_pure h⟩) htake))
end
end HT
namespace L2
open PySem PySem.Spec PyProof.Rows
noncomputable abbrev TO:=St->Hp->(Option Int->Hp->Prop)->Prop
noncomputable def PO (X:Cx) (e:Option Uq) (t:TO):Prop :=
 ∀ (pins:List (Rz×Obj)) (s:Rm) (σ:St) (H:Hp) (Q:Option Int->Hp->Prop),Inv X pins σ H s->t σ H Q →
  wpAny (RX X.prog X.w) X.A (evalPart e X.env) (fun u s'=>∃ o H',Inv X pins σ H' s'/\Wf u o/\Q o H') X.xe s
noncomputable def DO:TO:=fun _ H Q=>Q none H
noncomputable def Lm (t:TE):TO:=fun σ H Q=>t σ H fun x H1=>∃ i,x=.int i/\Q (some i) H1
theorem intsAre_of {ns:List Int}:∀ {us:List Rl},c9 (ns.map V.int) us->V6 us ns:=by
 induction ns with
 | nil=>intro us r;rw[Tu] at r;cases r;exact .nil
 | cons n ns ih =>
  intro us r
  rw[RL] at r
  cases r with
  | cons r1 r2 =>
   obtain ⟨t,e⟩:=r1
   subst e
   exact .cons n t (ih r2)
section
variable {X:Cx}{e:Uq}{te:TE}{lo hi:Option Uq}{tl th:TO}{pos p2:Pos}
theorem DP:PO X none DO:=by
 intro pins s σ H Q I h
 rw[Xd]
 exact wpAny_pure ⟨none,H,I,.none,h⟩
theorem DQ (h:PE X e te):PO X (some e) (Lm te):=by
 intro pins s σ H Q I hw
 rw[evalPart_some]
 refine thn (h pins s σ H _ I hw) fun u s1 zq=>?_
 obtain ⟨x,H1,I1,r1,q1⟩:=zq
 obtain ⟨i,rfl,q⟩:=q1
 obtain ⟨t,rfl⟩:=r1
 exact ⟨some i,H1,I1,.int i t,q⟩
noncomputable def SlR (X:Cx) (r:V->Option Int->Option Int->Hp->VK->Prop):Prop :=
 ∀ (pins:List (Rz×Obj)) (s:Rm) (σ:St) (H:Hp) (x:V) (v vl vu:Rl) (lo hi:Option Int) (sl:Rz) (Q:VK),Inv X pins σ H s->RelV x v->s.heap.IsSliceOf sl vl vu .none->Wf vl lo->Wf vu hi->r x lo hi H Q →
  ∃ T id,typeLookup (.type T) "__getitem__"=pure (some (.builtin id))/\s.TypeIs v T/\wpAny (RX X.prog X.w) X.A (VX v (.ref sl)) (EP X pins σ Q) X.xe s
noncomputable def tSl (r:V->Option Int->Option Int->Hp->VK->Prop) (te:TE) (tl th:TO):TE:=fun σ H Q=>te σ H fun x H1=>tl σ H1 fun l H2=>th σ H2 fun u H3=>r x l u H3 Q
theorem AA {r:V->Option Int->Option Int->Hp->VK->Prop} (hr:SlR X r) (he:PE X e te) (hl:PO X lo tl) (hu:PO X hi th):PE X (.Subscript e (.Slice lo hi none p2) pos) (tSl r te tl th):=by
 intro pins s σ H Q I h
 refine Subscript_ (thn (he pins s σ H _ I h) fun v s1 zq=>?_)
 obtain ⟨x,H1,I1,r1,q1⟩:=zq
 refine wpAny_Slice (thn (hl pins s1 σ H1 _ I1 q1) fun vl s2 ⟨l,H2,I2,pl,q2⟩=>thn (hu pins s2 σ H2 _ I2 q2) fun vu s3 zq=>?_)
 obtain ⟨u,H3,I3,pu,q3⟩:=zq
 rw[Xd]
 refine wpAny_pure ?_
 have I4:Inv X pins σ H3 { s3 with heap:=s3.heap.push { cls:=.type "slice",data:=.fields #[vl,vu,.none] } }:=I3.kept (t':=s3.toks) fun b ob q=>Rk _ q
 obtain ⟨T,id,hT,ht,hg⟩:=hr pins { s3 with heap:=s3.heap.push { cls:=.type "slice",data:=.fields #[vl,vu,.none] } } σ H3 x v vl vu l u s3.heap.objs.size Q I4 r1 (VR ..) pl pu q3
 show wpAny (RX X.prog X.w) X.A (Xa e (.Slice lo hi none p2) v (.ref s3.heap.objs.size)) (EP X pins σ Q) X.xe { s3 with heap:=s3.heap.push { cls:=.type "slice",data:=.fields #[vl,vu,.none] } }
 exact W9 (ops:=[.ref s3.heap.objs.size,v]) ht hT hg (by with_unfolding_all rfl)
noncomputable def tS (xs:List V) (lo hi:Option Int):List V:=(xs.drop (HT.sIx xs.length 0 lo)).take (HT.sIx xs.length xs.length hi - HT.sIx xs.length 0 lo)
theorem mS (xs:List V) (lo hi:Option Int):(tS xs lo hi).length<=xs.length:=by
 unfold tS
 rw[UN,List.length_drop]
 lia
noncomputable def OV (K:Rj):V->Option Int->Option Int->Hp->VK->Prop:=fun x lo hi H Q=>∃ a xs,x=.ref a/\SqT K H a xs ∧
 ¬ (HT.sIx xs.length 0 lo=0/\HT.sIx xs.length xs.length hi=xs.length)/\∀ p,H p=none->Q (.ref p) (upd H p (.tup (tS xs lo hi)))
theorem HG:SlR X (OV X.K):=by
 intro pins s σ H x v vl vu lo hi sl Q I rx hs pl pu h
 obtain ⟨a,xs,rfl,hx,hw,q⟩:=h
 cases rx
 obtain ⟨its,r,ht,hz⟩:=I.tuple hx
 have hlen:its.toArray.size=xs.length:=by rw[Rp];exact r.length.symm
 refine ⟨"tuple",_,PyProof.Rows.slot_tuple_getitem.lookup,ht.typeIs,?_⟩
 refine HT.kX ht hs pl pu (by rw[hlen];exact hw) ?_ (by rw[hlen];exact hz)
 rw[hlen]
 refine ⟨.ref s.heap.objs.size,_,I.laid (t':=s.toks) (o:=.tup (tS xs lo hi)) (fun b ob q=>Rk _ q) (Rr _) ?_,rfl,q _ (I.hok.fresh (Rr _))⟩
 exact ⟨Sq (mS xs lo hi) hz,_,(r.drop (HT.sIx xs.length 0 lo)).take (HT.sIx xs.length xs.length hi - HT.sIx xs.length 0 lo),IsTup.new _ _⟩
noncomputable def Ln (K:Rj):R2:=fun x y H Q=>∃ a b xs ys,x=.ref a/\y=.ref b/\SqT K H a xs/\SqT K H b ys/\xs≠[]/\xs.length+ys.length<=sizeLine ∧
 (ys=[]->Q (.ref a) H)/\(ys≠[]->∀ p,H p=none->Q (.ref p) (upd H p (.tup (xs++ys))))
theorem c9.kY {xs:List V}{us:List Rl} (r:c9 xs us):us=[]↔xs=[]:=by
 cases r with
 | nil=>simp
 | cons _ _=>simp
theorem DR:OpR X (SK .Add) (Ln X.K):=by
 intro pins s σ H x y v u Q I rx ry h
 obtain ⟨a,b,xs,ys,rfl,rfl,ha,hb,hx,hz,q1,q2⟩:=h
 cases rx
 cases ry
 obtain ⟨its,r1,p1,_⟩:=I.tuple ha
 obtain ⟨its2,r2,p2,_⟩:=I.tuple hb
 refine HT.DN p1 p2 (fun z=>hx (r1.kY.mp z)) (fun z=>⟨.ref a,H,I,rfl,q1 (r2.kY.mp z)⟩) (fun z=>?_) (by rw[← r1.length,← r2.length];exact hz)
 refine ⟨.ref s.heap.objs.size,_,I.laid (t':=s.toks) (o:=.tup (xs++ys)) (fun b ob q=>Rk _ q) (Rr _) ?_,rfl,q2 (fun w=>z (r2.kY.mpr w)) _ (I.hok.fresh (Rr _))⟩
 exact ⟨by rw[RT];exact hz,_,r1.append r2,IsTup.new _ _⟩
end
end L2
namespace L2
open PySem PySem.Spec PyProof.Rows
noncomputable def ixN (n:Nat) (i:Int):Option Nat:=if 0<=i then (if i < n then some i.toNat else none) else if -(n:Int)<=i then some (i+n).toNat else none
noncomputable def atI {α:Type} (xs:List α) (i:Int):Option α:=(ixN xs.length i).bind fun j=>xs[j]?
theorem wV {n:Nat}{i:Int}{j:Nat} (h:ixN n i=some j):seqIndex? i n=some j/\j < n/\-(n:Int)<=i/\i < n:=by
 unfold ixN at h
 by_cases h0:0<=i
 ·rw[if_pos h0] at h
  by_cases h1:i < n
  ·rw[if_pos h1] at h
   have e:i.toNat=j:=Ry h
   exact ⟨by rw[seqIndex_of h0 h1,e],by lia,by lia,h1⟩
  ·rw[if_neg h1] at h;cases h
 ·rw[if_neg h0] at h
  by_cases h1:-(n:Int)<=i
  ·rw[if_pos h1] at h
   have e:(i+n).toNat=j:=Ry h
   exact ⟨by rw[seqIndex_neg (by lia) h1,e],by lia,h1,by lia⟩
  ·rw[if_neg h1] at h;cases h
theorem qY {α:Type}{xs:List α}{i:Int}{v:α} (h:atI xs i=some v):∃ j,seqIndex? i xs.length=some j/\xs[j]?=some v/\j < xs.length/\-(xs.length:Int)<=i/\i < xs.length:=by
 unfold atI at h
 cases e:ixN xs.length i with
 | none=>rw[e] at h;cases h
 | some j =>
  rw[e] at h
  obtain ⟨h1,h2,h3,h4⟩:=wV e
  exact ⟨j,h1,h,h2,h3,h4⟩
noncomputable def wW (b:Uq):Prop:=∀ o i,subscripted b false o i=operate [o,i] (VX o i)
noncomputable def IxR (X:Cx) (r:R2):Prop :=
 ∀ (value slice:Uq) (pins:List (Rz×Obj)) (s:Rm) (σ:St) (H:Hp) (x y:V) (v u:Rl) (Q:VK),Inv X pins σ H s->RelV x v->RelV y u->r x y H Q →
  subscripted slice false v u=operate [v,u] (VX v u)->wpAny (RX X.prog X.w) X.A (Xa value slice v u) (EP X pins σ Q) X.xe s
noncomputable def MtR (X:Cx) (id:String) (r:V->List V->Hp->VK->Prop):Prop :=
 ∀ (pins:List (Rz×Obj)) (s:Rm) (σ:St) (H:Hp) (x:V) (xs:List V) (v:Rl) (us:List Rl) (Q:VK),Inv X pins σ H s->RelV x v->c9 xs us->r x xs H Q →
  wpAny (RX X.prog X.w) X.A (call (.builtin id) (v :: us)) (EP X pins σ Q) X.xe s
section
variable {X:Cx}{a b:Uq}{ta tb:TE}{pos:Pos}
theorem Lo {r:R2} (hr:IxR X r) (ha:PE X a ta) (hb:PE X b tb) (hs:wW b):PE X (.Subscript a b pos) (tOp r ta tb):=by
 intro pins s σ H Q I h
 exact Subscript_ (Hs ha hb I h fun v u s2 x y H2 I2 rx ry q=>hr a b pins s2 σ H2 x y v u Q I2 rx ry q (hs _ _))
noncomputable def OW (K:Rj):R2:=fun x y H Q=>∃ p xs i v,x=.ref p/\y=.int i/\SqL K H p xs/\atI xs i=some v/\Q v H
noncomputable def OX (K:Rj):R2:=fun x y H Q=>∃ p xs i v,x=.ref p/\y=.int i/\SqT K H p xs/\atI xs i=some v/\Q v H
noncomputable def OY:R2:=fun x y H Q=>∃ z i c,x=.str z/\y=.int i/\z.length<=sizeLine/\atI z.cps.toList i=some c/\Q (.str ⟨#[c]⟩) H
theorem DS:IxR X (OW X.K):=by
 intro value slice pins s σ H x y v u Q I rx ry h hs
 obtain ⟨p,xs,i,z,rfl,rfl,hq,he,q⟩:=h
 cases rx
 obtain ⟨t,rfl⟩:=ry
 obtain ⟨its,r,pl,hz⟩:=I.list hq
 obtain ⟨j,h1,h2,h3,h4,h5⟩:=qY he
 obtain ⟨w,ew,rw'⟩:=r.get h2
 have hl:=r.length
 have hn:=lX
 have fin:EP X pins σ Q w s:=⟨z,H,I,rw',q⟩
 by_cases h0:0<=i
 ·have hj:i.toNat=j:=by
   rw[seqIndex_of h0 h5] at h1
   exact Ry h1
  exact item_listR pl.isList h0 (by lia) (by rw[hj];simpa using ew) fin hs
 ·have hj:(i+(its.toArray.size:Int)).toNat=j:=by
   rw[seqIndex_neg (by lia) h4] at h1
   rw[Rp,← hl]
   exact Ry h1
  exact subscriptTail_builtinR (x:=w) pl.isList.typeIs slot_list_getitem.lookup
   (wpAny_getItem_list_neg (Q:=fun r s'=>r=w/\EP X pins σ Q r s') pl.isList (by lia) (by rw[Rp]<;>lia) (by lia) (by rw[hj];simpa using ew) ⟨rfl,fin⟩) hs
theorem HJ:IxR X (OX X.K):=by
 intro value slice pins s σ H x y v u Q I rx ry h hs
 obtain ⟨p,xs,i,z,rfl,rfl,hq,he,q⟩:=h
 cases rx
 obtain ⟨t,rfl⟩:=ry
 obtain ⟨its,r,pl,hz⟩:=I.tuple hq
 obtain ⟨j,h1,h2,h3,h4,h5⟩:=qY he
 obtain ⟨w,ew,rw'⟩:=r.get h2
 have hl:=r.length
 have hn:=lX
 have fin:EP X pins σ Q w s:=⟨z,H,I,rw',q⟩
 exact subscriptTail_builtinR (x:=w) pl.typeIs slot_tuple_getitem.lookup
  (getItem_tuple (j:=j) (Q:=fun r s'=>r=w/\EP X pins σ Q r s') pl (by lia) (by lia) (by rw[Rp,← hl];exact h1) (by simpa using ew) ⟨rfl,fin⟩) hs
theorem HK:IxR X OY:=by
 intro value slice pins s σ H x y v u Q I rx ry h hs
 obtain ⟨z,i,c,rfl,rfl,hz,he,q⟩:=h
 obtain ⟨t,rfl⟩:=rx
 obtain ⟨t',rfl⟩:=ry
 obtain ⟨j,h1,h2,h3,h4,h5⟩:=qY he
 have hl:z.cps.toList.length=z.length:=by simp[Str.length]
 rw[hl] at h1 h4 h5
 have hn:=lX
 exact W9 (typeIs_str s z t) slot_str_getitem.lookup (getItem_str (c:=c) (by
  have e1:decide (i < -(2 ^ 63:Int))=false:=decide_eq_false (by lia)
  have e2:decide (i ≥ 2 ^ 63)=false:=decide_eq_false (by lia)
  rw[e1,e2,Wr]) (by rw[h1];simpa using h2) ⟨.str ⟨#[c]⟩,H,I.tok _,⟨_,rfl⟩,q⟩) hs
theorem vv (its:List Rl) (n j:Nat) (u:Rl):U8 (·.setIfInBounds j u) { cls:=.type "list",data:=.seq its.toArray n }={ cls:=.type "list",data:=.seq (its.set j u).toArray n }:=by
 simp[U8]
theorem Inv.lst {pins:List (Rz×Obj)}{σ:St}{H:Hp}{s:Rm}{p:Rz}{xs:List V} (I:Inv X pins σ H s) (h:H p=some (.lst xs)) :
 ∃ (its:List Rl) (n:Nat),c9 xs its/\s.heap.get? p=some { cls:=.type "list",data:=.seq its.toArray n }/\xs.length<=sizeLine:=by
 obtain ⟨z,its,n,r,e⟩:=I.hok p _ h
 exact ⟨its,n,r,e,z⟩
theorem Inv.HL {pins:List (Rz×Obj)}{σ:St}{H:Hp}{s:Rm}{p:Rz}{xs ys:List V}{its its':List Rl}{n n':Nat}{f:Obj->Obj} (I:Inv X pins σ H s) (h:H p=some (.lst xs))
 (ho:s.heap.get? p=some { cls:=.type "list",data:=.seq its.toArray n }) (hf:f { cls:=.type "list",data:=.seq its.toArray n }={ cls:=.type "list",data:=.seq its'.toArray n' }) (r:c9 ys its') (hz:ys.length<=sizeLine) (t:Nat) :
 Inv X pins σ (upd H p (.lst ys)) { s with heap:=s.heap.update p f,toks:=t }:=by
 have e:(s.heap.update p f).get? p=some { cls:=.type "list",data:=.seq its'.toArray n' }:=by
  rw[WO f ho (by rw[hf]<;>rfl),hf]
 refine I.write (x:=p) (e:=p) (by rw[h];trivial) (.inl rfl) (fun b u hb q=>(UR _ _ (SH hb)).trans q) ⟨_,e⟩ ?_
 exact ⟨hz,its',n',r,e⟩
noncomputable def GD:V->V->V->Hp->(Hp->Prop)->Prop:=fun o i v H Q=>∃ p xs k j,o=.ref p/\i=.int k/\H p=some (.lst xs)/\ixN xs.length k=some j/\Q (upd H p (.lst (xs.set j v)))
theorem set_list:Hi X GD:=by
 intro pins s σ H o i v ov iv u Q I ro ri rv h
 obtain ⟨p,xs,k,j,rfl,rfl,hp,hj,q⟩:=h
 cases ro
 obtain ⟨t,rfl⟩:=ri
 obtain ⟨its,n,r,ho,hz⟩:=I.lst hp
 obtain ⟨h1,h2,h3,h4⟩:=wV hj
 have hl:=r.length
 have hn:=lX
 have I':Inv X pins σ (upd H p (.lst (xs.set j v))) { s with heap:=s.heap.update p (U8 (·.setIfInBounds j u)) } :=
  I.HL hp ho (vv its n j u) (r.set rv j) (by rw[UX];exact hz) s.toks
 by_cases h0:0<=k
 ·have hk:k.toNat=j:=by
   rw[seqIndex_of h0 h4] at h1
   exact Ry h1
  exact PySem.W.ki_setAt ho h0 (by lia) (by rw[Rp,← hl];exact h4) (by rw[hk];exact ⟨_,I',q⟩)
 ·have hk:(k+(its.toArray.size:Int)).toNat=j:=by
   rw[seqIndex_neg (by lia) h3] at h1
   rw[Rp,← hl]
   exact Ry h1
  exact PySem.W.ki_setBack ho (by lia) (by rw[Rp,← hl];exact h3) (by lia) (by rw[hk];exact ⟨_,I',q⟩)
theorem qZ (lo hi:Option Int) (n:Nat):(Sd lo hi none n).1=((HT.sIx n 0 lo:Nat):Int)/\(Sd lo hi none n).2.1=((HT.sIx n n hi:Nat):Int)/\(Sd lo hi none n).2.2=1:=by
 refine ⟨?_,?_,rfl⟩
 ·cases lo with
  | none=>simp[Sd,HT.sIx]
  | some i =>
   simp only[Sd,HT.sIx,Xk,show (1:Int) > 0 by decide,if_true]
   by_cases h:i < 0
   ·simp only[h,if_true]<;>lia
   ·simp only[h,if_false]<;>lia
 ·cases hi with
  | none=>simp[Sd,HT.sIx]
  | some i =>
   simp only[Sd,HT.sIx,Xk,show (1:Int) > 0 by decide,if_true]
   by_cases h:i < 0
   ·simp only[h,if_true]<;>lia
   ·simp only[h,if_false]<;>lia
theorem pV (its:List Rl) (lo hi:Option Int):slicePick its.toArray lo hi none=((its.drop (HT.sIx its.length 0 lo)).take (HT.sIx its.length its.length hi - HT.sIx its.length 0 lo)).toArray:=by
 obtain ⟨h1,h2,h3⟩:=qZ lo hi its.toArray.size
 unfold slicePick
 rw[h1,h2,h3]
 simp only[sliceRange_one,pick_run,Rp]<;>rfl
noncomputable def OZ (K:Rj):V->Option Int->Option Int->Hp->VK->Prop:=fun x lo hi H Q=>∃ a xs,x=.ref a/\SqL K H a xs/\∀ p,H p=none->Q (.ref p) (upd H p (.lst (tS xs lo hi)))
theorem DT:SlR X (OZ X.K):=by
 intro pins s σ H x v vl vu lo hi sl Q I rx hs pl pu h
 obtain ⟨a,xs,rfl,hx,q⟩:=h
 cases rx
 obtain ⟨its,r,ht,hz⟩:=I.list hx
 have hlen:=r.length
 refine ⟨"list",_,slot_list_getitem.lookup,ht.isList.typeIs,?_⟩
 refine WX ht.isList hs pl pu .none (by simp) ?_ (by rw[Rp]<;>lia)
 rw[pV,← hlen]
 refine ⟨.ref s.heap.objs.size,_,I.laid (t':=s.toks) (o:=.lst (tS xs lo hi)) (fun b ob q=>Rk _ q) (Rr _) ?_,rfl,q _ (I.hok.fresh (Rr _))⟩
 exact ⟨Sq (mS xs lo hi) hz,_,0,(r.drop (HT.sIx xs.length 0 lo)).take (HT.sIx xs.length xs.length hi - HT.sIx xs.length 0 lo),RB _ rfl⟩
theorem kZ:fO X (.builtin "len") (fun xs H Q=>∃ p ys,xs=[.ref p]/\(SqL X.K H p ys\/SqT X.K H p ys)/\Q (.int ys.length) H):=by
 intro pins s σ H xs us Q I r h
 obtain ⟨p,ys,rfl,hq,q⟩:=h
 obtain ⟨u,rfl,rx⟩:=vals1 r
 cases rx
 have hn:=lX
 rcases hq with hq | hq
 ·obtain ⟨its,r',pl,hz⟩:=I.list hq
  have hlen:=r'.length
  exact Calls.call_len_list pl.isList (by simp only[Rp]<;>lia) ⟨.int ys.length,H,I.tok _,⟨s.toks+1,by rw[Rp,hlen]⟩,q⟩
 ·obtain ⟨its,r',pl,hz⟩:=I.tuple hq
  have hlen:=r'.length
  exact len_tuple pl (by simp only[Rp]<;>lia) ⟨.int ys.length,H,I.tok _,⟨s.toks+1,by rw[Rp,hlen]⟩,q⟩
theorem q9:fO X (.builtin "len") (fun xs H Q=>∃ z,xs=[.str z]/\z.length<=sizeLine/\Q (.int z.length) H):=by
 intro pins s σ H xs us Q I r h
 obtain ⟨z,rfl,hz,q⟩:=h
 obtain ⟨u,rfl,t,rfl⟩:=vals1 r
 have hn:=lX
 exact len_str (by lia) ⟨.int z.length,H,I.tok _,⟨_,rfl⟩,q⟩
theorem k8:fO X (.type "list") (fun xs H Q=>∃ p ys,xs=[.ref p]/\(SqL X.K H p ys\/SqT X.K H p ys)/\∀ l,H l=none->Q (.ref l) (upd H l (.lst ys))):=by
 intro pins s σ H xs us Q I r h
 obtain ⟨p,ys,rfl,hq,q⟩:=h
 obtain ⟨u,rfl,rx⟩:=vals1 r
 cases rx
 have fin:∀ (its:List Rl),c9 ys its->ys.length<=sizeLine->∀ (h':Heap) (c':Nat),(∀ b o',s.heap.get? b=some o'->h'.get? b=some o') →
  h'.get? s.heap.objs.size=some { cls:=.type "list",dict:=none,data:=.seq its.toArray c',slots:=#[] }->EP X pins σ Q (.ref s.heap.objs.size) { s with heap:=h' }:=fun its r' hz h' c' kp e =>
  ⟨.ref s.heap.objs.size,_,I.laid (t':=s.toks) kp (Rr _) (show fN X.prog X.w _ h' _ (.lst ys) from ⟨hz,its,c',r',e⟩),rfl,q _ (I.hok.fresh (Rr _))⟩
 rcases hq with hq | hq
 ·obtain ⟨its,r',pl,hz⟩:=I.list hq
  have hlen:=r'.length
  obtain ⟨o,ho,hc,n,hd⟩:=pl.isList
  exact call_list_seq p (.inl rfl) ho hc hd (fun h' c' kp e=>fin its r' hz h' c' kp e) (by simp only[Rp]<;>lia)
 ·obtain ⟨its,r',pl,hz⟩:=I.tuple hq
  have hlen:=r'.length
  obtain ⟨o,ho,hc,n,hd⟩:=pl
  exact call_list_seq p (.inr rfl) ho hc hd (fun h' c' kp e=>fin its r' hz h' c' kp e) (by simp only[Rp]<;>lia)
theorem ku:fO X (.type "tuple") (fun xs H Q=>∃ p ys,xs=[.ref p]/\((SqL X.K H p ys/\∀ l,H l=none->Q (.ref l) (upd H l (.tup ys)))\/(SqT X.K H p ys/\Q (.ref p) H))):=by
 intro pins s σ H xs us Q I r h
 obtain ⟨p,ys,rfl,h⟩:=h
 obtain ⟨u,rfl,rx⟩:=vals1 r
 cases rx
 rcases h with ⟨hq,q⟩ | ⟨hq,q⟩
 ·obtain ⟨its,r',pl,hz⟩:=I.list hq
  have hlen:=r'.length
  refine call_tuple_list pl.isList (fun h' kp=>?_) (by simp only[Rp]<;>lia)
  have I1:Inv X pins σ H { s with heap:=h' }:=I.kept (t':=s.toks) kp
  have I2:Inv X pins σ (upd H h'.objs.size (.tup ys)) { s with heap:=h'.push { cls:=.type "tuple",data:=.seq its.toArray } } :=
   I1.laid (t':=s.toks) (fun b o e=>Rk _ e) (Rr _) (show fN X.prog X.w _ _ _ (.tup ys) from ⟨hz,its,r',IsTup.new _ _⟩)
  exact ⟨.ref h'.objs.size,_,I2,rfl,q _ (I1.hok.fresh (Rr _))⟩
 ·obtain ⟨its,r',pl,hz⟩:=I.tuple hq
  exact call_tuple_same pl ⟨.ref p,H,I,rfl,q⟩
noncomputable def tyV (K:Rj) (T:String) (x:V) (H:Hp):Prop:=match x with
 | .str _=>T="str"
 | .int _=>T="int"
 | .ref p=>(T="list"/\∃ xs,SqL K H p xs)\/(T="tuple"/\∃ o,K.lookup p=some o/\o.cls=.type "tuple"/\o.dict=none) ∨
  (T="dict"/\((∃ kvs,H p=some (.dK kvs))\/∃ kvs,H p=some (.dT kvs)))\/(T="set"/\∃ S n,H p=some (.set S n))
 | _=>False
theorem vz {pins:List (Rz×Obj)}{σ:St}{H:Hp}{s:Rm}{T:String}{x:V}{v:Rl} (I:Inv X pins σ H s) (r:RelV x v) (ty:tyV X.K T x H) :
 s.TypeIs v T/\∀ a,v=.ref a->∃ ob,s.heap.get? a=some ob/\ob.dict=none:=by
 cases x with
 | str z =>
  obtain ⟨t,rfl⟩:=r
  cases (show T="str" from ty)
  exact ⟨typeIs_str s z t,fun _ e=>nomatch e⟩
 | int i =>
  obtain ⟨t,rfl⟩:=r
  cases (show T="int" from ty)
  exact ⟨typeIs_int s i t,fun _ e=>nomatch e⟩
 | ref p =>
  cases r
  rcases ty with ⟨rfl,xs,hq⟩ | ⟨rfl,o,hk,hc,hd⟩ | ⟨rfl,hk⟩ | ⟨rfl,S,n,hk⟩
  ·obtain ⟨its,_,pl,_⟩:=I.list hq
   refine ⟨pl.isList.typeIs,fun a e=>?_⟩
   cases e
   obtain ⟨o,n,e,c,hd,_⟩:=pl
   exact ⟨o,e,hd⟩
  ·refine ⟨⟨o,I.kIn p o hk,hc⟩,fun a e=>?_⟩
   cases e
   exact ⟨o,I.kIn _ o hk,hd⟩
  ·have z:∃ o,s.heap.get? p=some o/\o.ExactDict:=by
    rcases hk with ⟨kvs,hk⟩ | ⟨kvs,hk⟩
    ·obtain ⟨_,_,_,_,o,_,_,e,ex,_⟩:=I.hok p _ hk
     exact ⟨o,e,ex⟩
    ·obtain ⟨_,_,_,_,o,_,_,e,ex,_⟩:=I.hok p _ hk
     exact ⟨o,e,ex⟩
   obtain ⟨o,e,ex⟩:=z
   refine ⟨⟨o,e,ex.1⟩,fun a e2=>?_⟩
   cases e2
   exact ⟨o,e,ex.2.1⟩
  ·obtain ⟨o,_,_,_,e,ex,_⟩:=I.hok p _ hk
   refine ⟨⟨o,e,ex.1⟩,fun a e2=>?_⟩
   cases e2
   exact ⟨o,e,ex.2.1⟩
 | _=>exact Sk ty
noncomputable def O0 (K:Rj) (T:String) (r:V->List V->Hp->VK->Prop) (to:TE):TE:=fun σ H Q=>to σ H fun x H1=>tyV K T x H1/\r x [] H1 Q
noncomputable def tBM (K:Rj) (T:String) (r:V->List V->Hp->VK->Prop) (to:TE) (t:TA):TE:=fun σ H Q=>to σ H fun x H1=>tyV K T x H1/\t σ H1 fun xs H2=>r x xs H2 Q
variable {o e:Uq}{es:List Uq}{to:TE}{t:TA}{name:Str}{apos cpos:Pos}{T id:String}{r:V->List V->Hp->VK->Prop}
theorem HM (pa:PlainAttrs T) (slot:Slot T name id) (hty:typeOf (.builtin id)=pure (.type "method_descriptor")) (hm:MtR X id r) (ho:PE X o to)
 (hbase:U4 o name X.env (eval o X.env)=eval o X.env:=by rfl) (hline:(apos.endLine==cpos.line)=true:=by rfl):PE X (.Call (.Attribute o name apos) [] [] cpos) (O0 X.K T r to):=by
 intro pins s σ H Q I h
 refine W8 hbase hline (thn (ho pins s σ H _ I h) fun v s1 zq=>?_)
 obtain ⟨x,H1,I1,r1,ty,q1⟩:=zq
 obtain ⟨h1,h2⟩:=vz I1 r1 ty
 exact ⟨T,id,pa,slot,hty,h1,h2,UO rfl (WS (hm pins s1 σ H1 x [] v [] Q I1 r1 .nil q1))⟩
theorem AB (pa:PlainAttrs T) (slot:Slot T name id) (hty:typeOf (.builtin id)=pure (.type "method_descriptor")) (hm:MtR X id r) (ho:PE X o to) (ha:PA X (e :: es) t)
 (hbase:U4 o name X.env (eval o X.env)=eval o X.env:=by rfl)
 (hfew:((T9 cpos (R8 (e :: es) X.env)).all (fun x=>!x.1)&&(Wo cpos (U3 [] X.env)).all (fun x=>x.1.isSome)
 &&decide ((e :: es).length+([]:List Vn).length+(if ([]:List Vn).isEmpty then 0 else 1) < 30))=true:=by rfl)
 (hline:(apos.endLine==cpos.line)=true:=by rfl) (hs:R8 (e :: es) X.env=(false,eval e X.env) :: R8 es X.env:=by rfl) (hplain:(T9 cpos (R8 es X.env)).any (·.1)=false:=by rfl) :
 PE X (.Call (.Attribute o name apos) (e :: es) [] cpos) (tBM X.K T r to t):=by
 intro pins s σ H Q I h
 refine wpAny_Call_method_late hbase hfew hline rfl (thn (ho pins s σ H _ I h) fun v s1 zq=>?_)
 obtain ⟨x,H1,I1,r1,ty,q1⟩:=zq
 obtain ⟨h1,h2⟩:=vz I1 r1 ty
 refine ⟨T,id,pa,slot,hty,h1,h2,?_⟩
 have hA:=ha cpos pins s1 σ H1 _ I1 q1
 rw[hs] at hA ⊢
 refine UO (by show (false||(T9 cpos (R8 es X.env)).any (·.1))=false;rw[hplain]<;>rfl) (Calls.evalArgs_plain ?_)
 exact thn hA fun us s2 ⟨vs,H2,I2,r2,q2⟩=>hm pins s2 σ H2 x vs v us Q I2 r1 r2 q2
/- xs.append(e),list.index on a module's tuple .. are MtR facts of 06m -/
end
end L2
namespace L2
open PySem PySem.Spec PyProof.Rows
noncomputable def MtM (X:Cx) (id:String) (r:V->List V->Hp->VK->Prop):Prop :=
 ∀ (pins:List (Rz×Obj)) (s:Rm) (σ:St) (H:Hp) (x:V) (xs:List V) (v:Rl) (us:List Rl) (Q:VK),Inv X pins σ H s->RelV x v->c9 xs us->r x xs H Q →
  wpAny (RX X.prog X.w) X.A (call (.builtin id) (v :: us)) (EP X pins σ Q) X.xe s
theorem c9.one {x:V}{us:List Rl} (h:c9 [x] us):∃ u,us=[u]/\RelV x u:=by
 cases h with | cons r t=>cases t;exact ⟨_,rfl,r⟩
theorem c9.two {x y:V}{us:List Rl} (h:c9 [x,y] us):∃ u v,us=[u,v]/\RelV x u/\RelV y v:=by
 cases h with | cons r t=>obtain ⟨v,rfl,q⟩:=c9.one t;exact ⟨_,v,rfl,r,q⟩
theorem c9.zero:∀ {us:List Rl},c9 [] us->us=[]
 | _,.nil=>rfl
theorem c9.dropLast {xs:List V}{us:List Rl} (h:c9 xs us):c9 xs.dropLast us.dropLast:=by
 induction h with
 | nil=>exact .nil
 | cons r t ih =>
  cases t with
  | nil=>exact .nil
  | cons q t'=>exact .cons r ih
theorem c9.rep {xs:List V}{us:List Rl} (h:c9 xs us):∀ k:Nat,c9 (RN k xs).flatten (RN k us).flatten
 | 0=>.nil
 | k+1=>by
  rw[SJ,SJ,TN,TN]
  exact c9.append h (c9.rep h k)
theorem vA {α:Type} (l:List α):l.eraseIdx (l.length - 1)=l.dropLast:=by
 induction l with
 | nil=>rfl
 | cons a r ih =>
  cases r with
  | nil=>rfl
  | cons b r =>
   have e:(a :: b :: r).length - 1=((b :: r).length - 1)+1:=by
    have h1:(a :: b :: r).length=r.length+2:=rfl
    have h2:(b :: r).length=r.length+1:=rfl
    lia
   rw[e,List.eraseIdx_cons_succ,ih]
   all_goals rfl
theorem foldl_rep (its:List Rl):∀ (k:Nat) (acc:List Rl),
 Wl (fun x1 x2=>x1++x2) acc.toArray (RN k its.toArray)=(acc++(RN k its).flatten).toArray
 | 0,acc=>by simp
 | k+1,acc=>by
  have e:acc.toArray++its.toArray=(acc++its).toArray:=by simp
  have e2:(acc++its)++(RN k its).flatten=acc++(RN (k+1) its).flatten:=by
   rw[SJ,TN,SG]
  rw[← e2,← foldl_rep its k (acc++its),← e,SJ,List.foldl_cons]
section
variable {X:Cx}{pins:List (Rz×Obj)}{σ:St}{H:Hp}{s:Rm}{l b:Rz}{xs ys zs:List V}
theorem Inv.DU {its its':List Rl}{n:Nat}{f:Array Rl->Array Rl}{t':Nat} (I:Inv X pins σ H s) (hH:H l=some (.lst xs))
 (e:s.heap.get? l=some { cls:=.type "list",data:=.seq its.toArray n }) (hf:f its.toArray=its'.toArray) (hv:c9 ys its') (hz:ys.length<=sizeLine) :
 Inv X pins σ (upd H l (.lst ys)) { s with heap:=s.heap.update l (U8 f),toks:=t' }:=by
 have q:=PySem.IsL.update e f
 rw[hf] at q
 refine I.write (x:=l) (e:=l) (by rw[hH];exact trivial) (.inl rfl) (fun b' u hb hu=>(UR s.heap (U8 f) (SH hb)).trans hu) ⟨_,q⟩ ?_
 exact ⟨hz,its',_,hv,q⟩
theorem Inv.Lp {its:List Rl}{t':Nat} (I:Inv X pins σ H s) (hv:c9 ys its) (hz:ys.length<=sizeLine) :
 Inv X pins σ (upd H s.heap.objs.size (.lst ys)) { s with heap:=s.heap.push { cls:=.type "list",data:=.seq its.toArray },toks:=t' } :=
 I.laid (fun _ _ q=>Rk _ q) (Rr _) ⟨hz,its,0,hv,RB _ rfl⟩
theorem Inv.fresh (I:Inv X pins σ H s):H s.heap.objs.size=none:=I.hok.fresh (Rr _)
theorem Inv.DV (I:Inv X pins σ H s) (hH:H l=some (.lst xs)):xs.length<=sizeLine/\∃ (its:List Rl) (n:Nat),c9 xs its/\xs.length=its.length/\s.heap.get? l=some { cls:=.type "list",data:=.seq its.toArray n }:=by
 obtain ⟨z,its,n,r,e⟩:=I.hok l _ hH
 exact ⟨z,its,n,r,r.length,e⟩
theorem nZ {n:Nat} (h:n<=sizeLine):SD n=false:=by
 unfold SD
 exact decide_eq_false (by lia)
end
section
variable {X:Cx}
noncomputable def DW:V->List V->Hp->VK->Prop:=fun x vs H Q=>∃ l xs y,x=.ref l/\vs=[y]/\H l=some (.lst xs)/\xs.length < sizeLine/\Q .non (upd H l (.lst (xs++[y])))
theorem yL:MtM X "list.append" DW:=by
 intro pins s σ H x vs v us Q I rx rv h
 obtain ⟨l,xs,y,rfl,rfl,hH,hz,q⟩:=h
 cases rx
 obtain ⟨u,rfl,ru⟩:=rv.one
 obtain ⟨z,its,n,r,hl,e⟩:=I.DV hH
 refine TV F.slot_list_append ⟨_,e,rfl⟩ F.entry_list_append (F.args_list_append_2 _ _) (PySem.list_append l its.toArray n u (by rw[Rp];lia)) ⟨e,?_⟩
 refine ⟨.non,_,I.DU (its':=its++[u]) hH e (by simp) (r.append (.cons ru .nil)) ?_,rfl,q⟩
 rw[RT,UW]
 lia
noncomputable def O1:V->List V->Hp->VK->Prop:=fun x vs H Q=>∃ l xs y,x=.ref l/\vs=[]/\H l=some (.lst xs)/\xs[xs.length - 1]?=some y/\Q y (upd H l (.lst xs.dropLast))
theorem HN:MtM X "list.pop" O1:=by
 intro pins s σ H x vs v us Q I rx rv h
 obtain ⟨l,xs,y,rfl,rfl,hH,hy,q⟩:=h
 cases rx
 have hus:=rv.zero
 subst hus
 obtain ⟨z,its,n,r,hl,e⟩:=I.DV hH
 obtain ⟨u,hu,ru⟩:=r.get hy
 have hy':its.toArray[its.toArray.size - 1]?=some u:=by
  show its.toArray[its.length - 1]?=some u
  rw[← WI,← hl]
  exact hu
 refine TV F.slot_list_pop ⟨_,e,rfl⟩ F.entry_list_pop (F.args_list_pop_1 _) (MeetsSeq.list_pop_last l its.toArray n u hy' (by rw[Rp];lia)) ⟨e,?_⟩
 refine ⟨y,_,I.DU (its':=its.dropLast) hH e ?_ r.dropLast ?_,ru,q⟩
 ·show its.toArray.eraseIdxIfInBounds (its.toArray.size - 1)=its.dropLast.toArray
  rw[Rp,List.eraseIdxIfInBounds_toArray,vA]
 ·rw[List.length_dropLast]
  lia
theorem len_rep {α:Type} (xs:List α) (k:Nat):(RN k xs).flatten.length=k*xs.length:=by
 induction k with
 | zero=>simp
 | succ k ih=>rw[SJ,TN,RT,ih,Nat.succ_mul,Nat.add_comm]
end
section
variable {prog:RG}{w:Sb}{A:Sw}{E:Rl->Rm->Prop}{s:Rm}
set_option maxRecDepth 100000 in
end
section
variable {X:Cx}
end
end L2
namespace Att
open PySem PySem.W PySem.Calls PyProof.Rows
theorem nh {P:Params}{h:Heap}:∀ (ns:List Int) (vs:List Rl),WellAll P h vs (ns.map WData.int)->V6 vs ns:=by
 intro ns
 induction ns with
 | nil =>
  intro vs w
  rw[Tu] at w
  cases w
  exact .nil
 | cons n ns ih =>
  intro vs w
  rw[RL] at w
  cases w with
  | cons a b =>
   cases a
   exact .cons _ _ (ih _ b)
theorem yM {l:OpenLaw}{n:Nat} (hn:l.most=some n) {P:Params}{h:Heap}{args:List WData}{vals:List Rl}
 (hpre:l.row.toRowW.claim.pre args=true) (hwl:WellAll P h vals args) :
 ∃ a vs ns,vals=[So a]/\args=[WData.list (ns.map WData.int)]/\h.get? a=some { cls:=.type "list",data:=.seq vs.toArray }/\V6 vs ns/\ns.length<=n:=by
 have hsh:WShape.hasAll [] args [.list .int]=true:=(pre_splitW hpre).1
 have hc:l.pre.holds [] { args:=args }=true:=(pre_splitW hpre).2
 obtain ⟨d,r,rfl,h1,h2⟩:=hasAllW_cons hsh
 obtain rfl:=hasAllW_nil h2
 obtain ⟨xs,rfl,h3⟩:=hasW_list h1
 obtain ⟨ns,rfl⟩:=items_int h3
 have hlen:ns.length<=n:=by
  unfold OpenLaw.pre at hc
  have h4:(WTm.not (.lt (.lit (.int (n:Int))) (.len (.arg 0)))).holds [] { args:=[.list (ns.map .int)] }=true:=by
   have h4:=(holds_andW hc).1
   rw[hn] at h4
   exact h4
  have h5:=condW_of h4 (w_not (w_lt w_lit (w_len_list (w_arg rfl))))
  rw[RP] at h5
  refine Nat.le_of_not_lt fun q=>?_
  have q':(n:Int) < ((ns.length:Nat):Int):=by lia
  first
   | (rw[decide_eq_true q'] at h5;exact absurd h5 (by decide))
   | (simp at h5;lia)
 cases hwl with
 | cons w1 w2 =>
  cases w2
  cases w1 with
  | list ho hall=>exact ⟨_,_,ns,rfl,rfl,ho,nh ns _ hall,hlen⟩
theorem yN (l:OpenLaw) (args:List WData):l.row.toRowW.claim.post args (.bool true) args=true :=
 postW_of (r:=l.row.toRowW) (X:=(true==true))
  (show WShape.has [] (.bool true) .bool=true by first | rfl | decide | simp[WShape.has,WShape.arms,WShape.armsAll])
  (show (WTm.eq .res (.lit (.bool true))).value [] { args:=args,res:=some (.bool true),after:=args }=some (.bool (true==true)) from w_eq_bool (w_res rfl) w_lit) rfl
theorem tT {l:OpenLaw}{n:Nat}{q:RG}{loose:List Str}{XP:(Str->Option Rl)->Heap->Prop}{YP:Sb->Heap->Prop}{d:DefRec}
 (hn:l.most=some n) (hdf:d.params.defaults=[])
 (call:∀ (w:Sb) (s₀ s₁:Rm) (mg mb:Str->Option Rl) (fa:Rz) (o:Obj) (pm cd doc:Rl) (a:Rz) (vs:List Rl) (ns:List Int),
  Ground q loose [] XP w s₀ mg mb s₁.heap->YP w s₁.heap →
  s₁.heap.get? fa=some o->o.data=.func (docDef d.name d.params d.body d.scope pm cd doc)->s₁.heap.CodeRec cd d.name->mg d.name=some (.ref fa) →
  s₁.heap.get? a=some { cls:=.type "list",data:=.seq vs.toArray }->V6 vs ns->ns.length<=n->s₁.gens=#[] →
  codeAny (RX l.prog w) Xf (.call (.ref fa) ⟨[.ref a],[]⟩) (fun r s'=>r=.ok (.ret (.bool true))/\OldK s₁.heap s'.heap/\s'.os=s₁.os/\V7 s'.gens) s₁) :
 WalkO q loose XP YP l.row.toRowW d [] (fun f vs=>Xh f vs):=by
 intro w s₀ s₁ mg mb G Y fa o pm cd doc dV kV ho hd hcd hD hmg hg args vals as hpre hlay hrd hwl hlo
 obtain rfl:dV=.none:=Dflts.none hD hdf
 obtain rfl:kV=.none:=Dflts.noKw hD
 obtain ⟨a,vs,ns,rfl,rfl,hobj,hints,hlen⟩:=yM hn hpre hwl
 refine enter_call (codeAny_mono (call w s₀ s₁ mg mb fa o pm cd doc a vs ns G Y ho (fd_plain hd) hcd hmg hobj hints hlen hg) fun r s' hq=>?_)
 obtain ⟨rfl,h2,h3,h4⟩:=hq
 exact ⟨.inl ⟨.bool true,.bool true,[],rfl,fun _=>rfl,.bool true,yN l _,fun _=>⟨List.Pairwise.nil,fun _ hm=>(nomatch hm)⟩⟩,h2,h3,h4⟩
section
variable {prog:RG}{w:Sb}{A:Sw}{E:Rl->Rm->Prop}{s:Rm}{K:Frag}
noncomputable def ledger (h:Heap) (L d:Rz):List (Rz×Obj):=(RV h.objs.size).filterMap fun a=>if a=L\/a=d then none else (h.get? a).map fun o=>(a,o)
end
end Att
namespace L2
open PySem PySem.Spec PyProof.Rows
theorem j0:∀ {vs:List Rl}{ns:List Int},V6 vs ns->c9 (ns.map V.int) vs
 | _,_,.nil=>.nil
 | _,_,.cons n t h=>.cons ⟨t,rfl⟩ (j0 h)
end L2
namespace L2
open PySem PySem.Spec PyProof.Rows
noncomputable abbrev KOf {K:Rj}{h:Heap} (_:K.In h):Rj:=K
end L2
/- THE LAST THEOREM (shape;LID,My.* are yours):
 My.Adr: a structure of the addresses that your layer names (classes,functions);My.Txt K t: a structure (Prop) of the equations over K;
 My.txt_mk:{K}{implicit addresses ..} (e1:nsIn K RI "law"=some (some (.ref f))) (e2:K.lookup f=some ⟨oc,od,.func (fnOf "law" "law" params body scope dV kV doc pm an cdv ct),sl⟩) (e3:codeIn K cdv "law"=true) ..:∃ t,My.Txt K t
set_option maxRecDepth 100000 in
set_option maxHeartbeats 0 in
theorem PySem.Challenge.DX:PySem.Challenge.rw_LID.Holds:=by
 w_on;o_law;k_head;(case hw=>w_witness2)
 k_fill
 refine L2.walk_of (l:=PySem.Challenge.rw_LID) (n:=63) (k:=40) (x:="script") (CX:=fun w=>..) (sp:=fun _=>My.Df) rfl (by decide) rfl ⟨rfl,by decide,by decide⟩ (fun w h Y=>PySem.W.kIn_of Y) ?F ?S ?C
 case F =>
  intro w mg fa h KX G hmg
  have T:∃ t,My.Txt (L2.KOf KX) t:=by
   dsimp only[L2.KOf]                          -- K must stand as «<heap const> w.params» for k_is
   refine' My.txt_mk ?e1 ?e2 ?e3 ..
   (case e1=>PySem.W.k_is)                    -- in the order: a name->its address->its object->its parts
   (case e2=>PySem.W.k_is)
   ..
  obtain ⟨t,T⟩:=T
  have e0:=hmg.symm.trans (Tj KX G T.law)
  cases e0                                       -- fa is the law's own address
  exact ⟨_,fun s u=>.of_eq rfl,fun base kb nb=>My.law_fn T kb nb⟩     -- if «.of_eq rfl» comes too early: refine' ⟨_,?b,fun base kb nb=>My.law_fn T kb nb⟩;exact fun s u=>.of_eq rfl
 case S=>exact fun w H a ns hl hO hS=>..
 case C=>exact ..
(the tactic k_is has no namespace: write k_is) -/
namespace L2
open PySem PySem.Spec PyProof.Rows
noncomputable abbrev CX0:CXT:=fun _ _ _ _ _ _=>False
noncomputable abbrev E0:XK:=fun _ _ _=>False
theorem n8 {X:Cx}:jf CX0 X E0:=fun _ _ _ _ _ _ _ h=>h.elim
inductive Lq (K:Rj) (x qual:Str) (st:VF) (f:Rz) (fd:S9):Prop where
 | mk (oc:Rl) (od:Option Rz) (kV doc pm:Rl) (an:Option Rz) (cdv ct:Rl) (osl:Array (Option Rl)) (h1:fd=SM x qual (fS st) (dI st) (c7 st) .none kV doc pm an cdv ct) (h2:K.lookup f=some ⟨oc,od,.func fd,osl⟩) (h3:UU K cdv qual=true):Lq K x qual st f fd
structure Fun (K:Rj) (x qual:Str) (st:VF) (f:Rz) (fd:S9):Prop where
 ex:Lq K x qual st f fd
 kp:SC K (.ref f)=true
section
variable {P:RG}{w:Sb}{K:Rj}{mg:Str->Option Rl}{base:Heap}
theorem Fun.binds {x qual:Str}{st:VF}{f:Rz}{fd:S9}{ps:List Str} (F:Fun K x qual st f fd)
 (h:∀ (kV doc pm:Rl) (an:Option Rz) (cdv ct:Rl) (us:List Rl),us.length=ps.length->Wn (SM x qual (fS st) (dI st) (c7 st) .none kV doc pm an cdv ct) ⟨us,[]⟩=pure (ps.zip us)):Binds K fd ps []:=by
 obtain ⟨oc,od,kV,doc,pm,an,cdv,ct,osl,rfl,lk,hcd⟩:=F.ex
 exact .all (h kV doc pm an cdv ct)
theorem HP {x qual:Str}{st:VF}{f:Rz}{oc:Rl}{od an:Option Rz}{osl:Array (Option Rl)}{kV doc pm cdv ct:Rl} (l:K.lookup f=some ⟨oc,od,.func (SM x qual (fS st) (dI st) (c7 st) .none kV doc pm an cdv ct),osl⟩)
 (c:UU K cdv qual=true) (k:SC K (.ref f)=true):Fun K x qual st f (SM x qual (fS st) (dI st) (c7 st) .none kV doc pm an cdv ct):=⟨⟨oc,od,kV,doc,pm,an,cdv,ct,osl,rfl,l,c⟩,k⟩
end
theorem yO {n:Nat} (h:n<=1000):n < sizeLine:=Vx h (by decide)
section
variable {X:Cx}
end
end L2
end
section
namespace L2
open PySem PySem.Spec PyProof.Rows
section
variable {κ:Type} [DecidableEq κ]
noncomputable def rf (kvs:List (κ×V)) (k:κ):Option V:=(kvs.find? fun kv=>decide (kv.1=k)).map (·.2)
noncomputable def putK (kvs:List (κ×V)) (k:κ) (v:V):List (κ×V) :=
 if (kvs.any fun kv=>decide (kv.1=k))=true then kvs.map (fun kv=>if kv.1=k then (kv.1,v) else kv) else kvs++[(k,v)]
theorem tU {p:κ×V}{r:List (κ×V)}{k:κ} (e:p.1=k):rf (p :: r) k=some p.2:=by simp[rf,Tz,e]
theorem tV {p:κ×V}{r:List (κ×V)}{k:κ} (e:¬ p.1=k):rf (p :: r) k=rf r k:=by simp[rf,Tz,e]
theorem mT (kvs:List (κ×V)) (k:κ) (v:V):(putK kvs k v).length<=kvs.length+1:=by
 unfold putK
 split
 ·rw[RP];lia
 ·rw[RT,RO,Tw];lia
theorem lV.getD {o:Option V}{u:Option Rl}{d:V}{d':Rl} (r:lV o u) (rd:RelV d d'):RelV (o.getD d) (u.getD d'):=by
 cases o with
 | none=>cases u with
  | none=>exact rd
  | some _=>exact (show False from r).elim
 | some _=>cases u with
  | none=>exact (show False from r).elim
  | some _=>exact r
theorem KV.val {kvs:List (κ×V)}{vs:List (κ×Rl)} (r:KV kvs vs) (k:κ):lV (rf kvs k) (valueAt vs k):=by
 unfold KV at r
 induction r with
 | nil=>exact TM
 | @cons p q ps qs h t ih =>
  obtain ⟨h1,h2⟩:=h
  by_cases e:p.1=k
  ·have e':q.1=k:=h1.symm.trans e
   have b:valueAt (q :: qs) k=some q.2:=by simp[valueAt,Tz,e']
   rw[tU e,b];exact h2
  ·have e':¬ q.1=k:=fun z=>e (h1.trans z)
   have b:valueAt (q :: qs) k=valueAt qs k:=by simp[valueAt,Tz,e']
   rw[tV e,b];exact ih
theorem KV.any {kvs:List (κ×V)}{vs:List (κ×Rl)} (r:KV kvs vs) (k:κ):(kvs.any fun kv=>decide (kv.1=k))=vs.any fun kv=>decide (kv.1=k):=by
 unfold KV at r
 induction r with
 | nil=>rfl
 | cons h t ih=>rw[Ur,Ur,ih,h.1]
theorem KV.repl {kvs:List (κ×V)}{vs:List (κ×Rl)} (r:KV kvs vs) (k:κ) {y:V}{u:Rl} (ry:RelV y u) :
 KV (kvs.map fun kv=>if kv.1=k then (kv.1,y) else kv) (vs.map fun kv=>if kv.1=k then (kv.1,u) else kv):=by
 unfold KV at r ⊢
 induction r with
 | nil=>exact .nil
 | @cons p q ps qs h t ih =>
  rw[RL,RL]
  refine .cons ?_ ih
  obtain ⟨h1,h2⟩:=h
  by_cases e:p.1=k
  ·rw[if_pos e,if_pos (h1.symm.trans e)];exact ⟨h1,ry⟩
  ·rw[if_neg e,if_neg (fun z=>e (h1.trans z))];exact ⟨h1,h2⟩
theorem KV.put {kvs:List (κ×V)}{vs:List (κ×Rl)} (r:KV kvs vs) (k:κ) {y:V}{u:Rl} (ry:RelV y u):KV (putK kvs k y) (Wt vs k u):=by
 unfold putK Wt
 rw[r.any k]
 by_cases e:(vs.any fun kv=>decide (kv.1=k))=true
 ·rw[if_pos e,if_pos e];exact r.repl k ry
 ·rw[if_neg e,if_neg e];exact Paired.snoc r ⟨rfl,ry⟩
theorem KV.length {kvs:List (κ×V)}{vs:List (κ×Rl)} (r:KV kvs vs):kvs.length=vs.length:=Paired.length r
end
theorem qB {P:RG}{w:Sb}{k:Key}{u:Rl} (r:RelV (kV k) u):(dg P w).is k u=true:=by
 cases k with
 | inl i=>obtain ⟨t,e⟩:=(show ∃ t,u=US i t from r);subst e;exact tG P w i t
 | inr x=>obtain ⟨t,e⟩:=(show ∃ t,u=Wz x t from r);subst e;exact iI P w x t
section
variable {P:RG}{w:Sb}{H:Hp}{h:Heap}{a:Rz}
theorem Lr {u:HO} (ok:HOk P w H h) (e:Rd H a u):fN P w H h a u:=e.ok ok
theorem kB {kvs:List (Key×V)} (ok:HOk P w H h) (e:Rd H a (.dK kvs)):kvs.length<=sizeLine/\(a==Td)=false/\∃ vs,KV kvs vs/\h.DictOf (dg P w) a vs :=
 show fN P w H h a (.dK kvs) from Lr ok e
theorem wX {kvs:List (Key×V)} (ok:HOk P w H h) (e:H a=some (.dK kvs)):kvs.length<=sizeLine/\(a==Td)=false/\∃ vs,KV kvs vs/\h.DictOf (dg P w) a vs:=kB ok (.inl e)
end
section
variable {X:Cx}{pins:List (Rz×Obj)}{σ:St}{H:Hp}{s:Rm}{a:Rz}{y v:V}{u r:Rl}{o:Option V}{A:Sw}{E:Rl->Rm->Prop}
theorem Inv.big (I:Inv X pins σ H s):Td < s.heap.objs.size:=by
 have h:RI < s.heap.objs.size:=(I.mod.glob.keeps I.bk).lt
 exact Uk (by decide) h
theorem DY {h':Heap}{t':Nat}{ob:HO} (I:Inv X pins σ H s) (mu:Mut (H a)) (hs:T7 a s.heap h') (he:∃ q,h'.get? a=some q) (new:fN X.prog X.w (upd H a ob) h' a ob) :
 Inv X pins σ (upd H a ob) { s with heap:=h',toks:=t' } :=
 I.write (x:=a) (e:=a) mu (.inl rfl) (fun b q hb z=>(hs.2 b hb).trans z) he new
theorem AC {P:RG}{w:Sb}{H':Hp}{h':Heap}{kvs:List (Key×V)}{vs:List (Key×Rl)} (z:kvs.length<=sizeLine) (hd:(a==Td)=false) (rel:KV kvs vs) (dd:h'.DictOf (dg P w) a vs) :
 fN P w H' h' a (.dK kvs):=⟨z,hd,vs,rel,dd⟩
end
theorem AD {P:RG}{w:Sb}{H:Hp} (h:Heap) (hb:Td < h.objs.size):fN P w H (h.push { cls:=.type "dict",data:=.dict #[] }) h.objs.size (.dK []) :=
 ⟨Sz _,beq_eq_false_iff_ne.mpr (SH (RK hb)),[],.nil,WG h⟩
end L2
end
section
namespace BT
open PySem PySem.W PyProof.Rows
noncomputable def Ends {α:Type} (n:Nat) (P:α->Prop):KasT α->Prop
 | .ret a=>P a
 | .ask i j k=>i < n/\j < n/\∀ b,Ends n P (k b)
end BT
end
section
namespace BS
open PySem PySem.W PySem.Spec PyProof.Rows
section
variable {E:Rl->Rm->Prop}
end
end BS
end
section
namespace BX
open PySem PyProof.Rows
section
variable {prog:RG}{w:Sb}{A:Sw}{E:Rl->Rm->Prop}{s:Rm}
end
section
variable {prog:RG}{w:Sb}{A:Sw}{E:Rl->Rm->Prop}{R:Wa->Rm->Prop}
end
section
variable {prog:RG}{w:Sb}{A:Sw}{E:Rl->Rm->Prop}{s:Rm}
end
section
variable {prog:RG}{w:Sb}{A:Sw}{E:Rl->Rm->Prop}{s:Rm}
end
end BX
end
section
namespace BX
open PySem PySem.Spec PyProof.Rows
theorem rj:typeLookup (.type "list") "keys"=pure none:=by rw[typeLookup_type,builtinLookup_eq_fast];kernel_rfl
theorem rm:typeLookup (.type "list") "__getattr__"=pure none:=by rw[typeLookup_type,builtinLookup_eq_fast];kernel_rfl
theorem n9:isSubtype (.type "AttributeError") (.type "AttributeError")=pure true:=by rw[isSubtype_type];kernel_rfl
section
variable {prog:RG}{w:Sb}{A:Sw}{E:Rl->Rm->Prop}{h:Heap}{g:Array GenState}{d:Drawn}{t:Nat}{os:OsState}{a:Rz}{o:Obj}
theorem yP {s:Rm}{e:Rz}{ob:Obj}{x y z:Rl}{o name:Rl}{Q:Unit->Rm->Prop} (he:s.heap.get? e=some ob) (hc:ob.cls=.type "AttributeError") (hd:ob.data=.fields #[x,.none,.none,.none,y,z,unsetMember,unsetMember])
 (hQ:Q () { s with heap:=s.heap.update e (Obj.mapFields fun vs=>vs.extract 0 6++#[name,o]) }):wpAny (RX prog w) A (noteAttr (.ref e) o name) Q E s:=by
 have hT:s.TypeIs (.ref e) "AttributeError":=⟨_,he,hc⟩
 unfold noteAttr
 refine Ro ?_
 unfold lacksNameAndObj
 refine Ro (wpAny_isInstance hT n9 ?_)
 rw[if_neg (by decide)]
 refine Ro (Vp he ?_)
 rw[hd]
 refine wpAny_pure ?_
 refine Ro (wpAny_rule ?_)
 refine Ro (UH hT ?_)
 unfold layMembers
 refine Ro (Vp he ?_)
 rw[hd]
 exact wpAny_update he hQ
theorem vB {α:Type}{Q:α->Rm->Prop} (hx:h.get? a=some o) (hc:o.cls=.type "list") (hh:A.handled=none) (hE:∀ h' t' e,(∀ b q,h.get? b=some q->h'.get? b=some q)->(⟨h',g,d,t',os⟩:Rm).TypeIs (.ref e) "AttributeError"->E (.ref e) ⟨h',g,d,t',os⟩) :
 wpAny (RX prog w) A (Uw (.ref a) "keys") Q E ⟨h,g,d,t,os⟩:=by
 have hT:(⟨h,g,d,t,os⟩:Rm).TypeIs (.ref a) "list":=⟨_,hx,hc⟩
 unfold Uw raiseAttrError
 repeat (any_goals (first | assumption | with_reducible refine yP (RB _ rfl) rfl rfl ?_ | wp_step))
 unfold raiseNew
 refine Ro (wpAny_handled ?_)
 rw[hh]
 first
  | refine wpAny_throw ?_
  | refine Ro (wpAny_pure (wpAny_throw ?_))
 refine hE _ _ _ (fun b q e=>?_) ⟨_,WO _ (RB _ rfl) rfl,rfl⟩
 rw[UR _ _ (TL (RU (Rt e) (by simp)))]
 exact Rk _ (Rk _ e)
theorem vC {vs:Array Rl}{n:Nat}{tk:Tok}{Q:Fin->Rm->Prop} (hx:h.get? a=some { cls:=.type "list",data:=.seq vs n }) (hh:A.handled=none) (hE:∀ h' t' e,(∀ b q,h.get? b=some q->h'.get? b=some q)->(⟨h',g,d,t',os⟩:Rm).TypeIs (.ref e) "AttributeError"->E (.ref e) ⟨h',g,d,t',os⟩) :
 wpAny (RX prog w) A (Builtin.«object.__getattribute__» ⟨[.ref a,.str "keys" tk],[]⟩) Q E ⟨h,g,d,t,os⟩:=by
 have hT:(⟨h,g,d,t,os⟩:Rm).TypeIs (.ref a) "list":=⟨_,hx,rfl⟩
 have f4:=rj
 repeat (any_goals (first | assumption | with_reducible refine vB hx rfl hh hE | wp_step))
theorem yQ {vs:Array Rl}{n:Nat}{tk:Tok}{R:Wa->Rm->Prop} (hx:h.get? a=some { cls:=.type "list",data:=.seq vs n }) (hh:A.handled=none) (hE:∀ h' t' e,(∀ b q,h.get? b=some q->h'.get? b=some q)->(⟨h',g,d,t',os⟩:Rm).TypeIs (.ref e) "AttributeError"->R (.error (.ref e)) ⟨h',g,d,t',os⟩) :
 codeAny (RX prog w) A (.call (.builtin "list.__getattribute__") ⟨[.ref a,.str "keys" tk],[]⟩) R ⟨h,g,d,t,os⟩ :=
 codeAny_call_builtin F.slot_list_getattribute.plain F.entry_list_ga (F.slot_list_getattribute.check _ _ _ _ _ _ _ _ (show (⟨h,g,d,t,os⟩:Rm).TypeIs (.ref a) "list" from ⟨_,hx,rfl⟩) (F.args_list_getattribute_2 _ _) (vC hx hh hE))
theorem DZ {vs:Array Rl}{n:Nat}{tk:Tok}{Q:Rl->Rm->Prop} (hx:h.get? a=some { cls:=.type "list",data:=.seq vs n }) (hh:A.handled=none) (hE:∀ h' t' e,(∀ b q,h.get? b=some q->h'.get? b=some q)->(⟨h',g,d,t',os⟩:Rm).TypeIs (.ref e) "AttributeError"->E (.ref e) ⟨h',g,d,t',os⟩):wpAny (RX prog w) A (getAttrBy (.ref a) (.str "keys" tk) false) Q E ⟨h,g,d,t,os⟩:=by
 have hT:(⟨h,g,d,t,os⟩:Rm).TypeIs (.ref a) "list":=⟨_,hx,rfl⟩
 have f2:=F.slot_list_getattribute.lookup
 have f3:=F.slot_list_getattribute.bind (.ref a)
 have f5:=rm
 have f6:=n9
 repeat (any_goals (first | assumption | wp_step))
 refine yQ hx hh fun h' t' e k1 k2=>?_
 repeat (any_goals (first | assumption | wp_step))
 exact hE _ _ _ k1 k2
theorem yR {vs:Array Rl}{n:Nat}{Q:Option Rl->Rm->Prop} (hx:h.get? a=some { cls:=.type "list",data:=.seq vs n }) (hh:A.handled=none) (hQ:∀ h' t',(∀ b q,h.get? b=some q->h'.get? b=some q)->Q none ⟨h',g,d,t',os⟩):wpAny (RX prog w) A (getAttr? (.ref a) "keys") Q E ⟨h,g,d,t,os⟩:=by
 unfold getAttr? getAttrBy?
 refine Ro (wpAny_mkText (Ro (wpAny_attempt (DZ hx hh fun h' t' e k1 k2=>?_))))
 refine Ro (wpAny_isInstance k2 n9 ?_)
 exact wpAny_pure (hQ _ _ k1)
end
theorem fV:entryFor table "dict.update.loop"=some Builtin.«dict.update.loop»:=entryFor_of_tree (by kernel_rfl)
theorem dN:plainId "dict.update.loop"=true:=by decide +kernel
section
variable {prog:RG}{w:Sb}{K:Type} [DecidableEq K] {knd:KeyKind prog w K}{A:Sw}{E:Rl->Rm->Prop}{s:Rm}
theorem pW (kvs:List (K×Rl)) (k:K) (v:Rl):(Wt kvs k v).length<=kvs.length+1:=by
 unfold Wt
 split<;>simp
noncomputable def qC (knd:KeyKind prog w K) (h:Heap) (d it:Rz) (xs:Array Rl) (i:Nat) (ps:List (K×Rl)):Prop :=
 xs.size=i+ps.length/\∀ (j:Nat) p,ps[j]?=some p->∃ q key o n,xs[i+j]?=some (.ref q)/\q≠d/\q≠it/\h.get? q=some o/\o.cls=.type "tuple"/\o.data=.seq #[key,p.2] n/\knd.is p.1 key=true
theorem yS {R:Wa->Rm->Prop}{d it a:Rz}{xs:Array Rl} (hh:A.in1.handled=none) (n1:a≠d) (n2:a≠it) (n3:d≠it):∀ (ps:List (K×Rl)) (cur:List (K×Rl)) (i:Nat) (t0:Tok) (s:Rm),qC knd s.heap d it xs i ps->s.heap.IsListIter it a i->s.heap.IsList a xs →
 s.heap.DictOf knd d cur->cur.length+ps.length<=sizeLine->(∀ h' tk,h'.DictOf knd d (ps.foldl (fun c p=>Wt c p.1 p.2) cur)->(∀ b o,b≠d->b≠it->s.heap.get? b=some o->h'.get? b=some o)->R (.ok (.ret .none)) { s with heap:=h',toks:=tk }) →
 codeAny (RX prog w) A (.builtin "dict.update.loop" ⟨[.ref d,.ref it,.int i t0,.none],[]⟩) R s:=by
 intro ps
 induction ps with
 | nil =>
  intro cur i t0 s hp st hl hd hz hR
  refine codeAny_builtin fV ?_
  rw[Uo dN _]
  unfold Builtin.«dict.update.loop»
  refine Ro (wpAny_pyNext_list_end hh st hl (by have:=hp.1;simp at this ⊢;omega) fun h' eb=>?_)
  refine Ro (wpAny_pure ?_)
  exact wpAny_pure (hR h' s.toks (hd.extBut eb n3) fun b o _ b2 e=>eb b o b2 e)
 | cons p ps ih =>
  intro cur i t0 s hp st hl hd hz hR
  obtain ⟨z,hp⟩:=hp
  obtain ⟨q,key,o,n,e1,q1,q2,e2,oc,od,e3⟩:=hp 0 p rfl
  refine codeAny_builtin fV ?_
  rw[Uo dN _]
  unfold Builtin.«dict.update.loop»
  refine Ro (wpAny_pyNext_list_item st hl e1 fun h1 st1 sb=>?_)
  have e4:h1.get? q=some o:=(sb.2 q q2).trans e2
  refine Ro (Tf ?_)
  refine Ro (wpAny_tryCatch ?_)
  unfold Builtin.Dict.pairItems
  refine Ro (UH (T:="tuple") ⟨_,e4,oc⟩ ?_)
  rw[if_pos (by decide)]
  unfold seqItems?
  refine Ro (Ro (Vp e4 ?_))
  rw[od]
  refine wpAny_pure (wpAny_pure ?_)
  show wpAny _ _ (UK [key,p.2] (dictSet d key p.2)) _ _ _
  have hd1:h1.DictOf knd d cur:=hd.sameBut sb n3
  refine Tf (wpAny_dictSet_pairs (s:={ s with heap:=h1 }) e3 hd1 (fun h2 hd2 sb2=>?_) (by simp at hz;omega))
  have st2:h2.IsListIter it a (i+1):=let ⟨o,e,r⟩:=st1;⟨o,(sb2.2 it (SH n3)).trans e,r⟩
  have hl2:h2.IsList a xs:=let ⟨o,e,r⟩:=hl;⟨o,(sb2.2 a n1).trans ((sb.2 a n2).trans e),r⟩
  have hln:=pW cur p.1 p.2
  refine wpAny_pure ⟨plainId_quiet dN _,?_⟩
  have e5:((i:Int)+1)=((i+1:Nat):Int):=by simp
  rw[e5]
  refine ih (Wt cur p.1 p.2) (i+1) _ { s with heap:=h2,toks:=s.toks+1 } ⟨by simp at z;omega,fun j p' hj=>?_⟩ st2 hl2 hd2 (by simp at hz;omega) fun h3 tk hd3 k3=>hR h3 tk hd3 fun b o b1 b2 e=>k3 b o b1 b2 ((sb2.2 b b1).trans ((sb.2 b b2).trans e))
  obtain ⟨q',key',o',n',g1,g2,g3,g4,g5⟩:=hp (j+1) p' (by simpa using hj)
  refine ⟨q',key',o',n',?_,g2,g3,(sb2.2 q' g2).trans ((sb.2 q' g3).trans g4),g5⟩
  rw[← g1]
  congr 1
  omega
theorem ni {a:Rz}{xs:Array Rl}{n:Nat}{ps:List (K×Rl)}{Q:Rl->Rm->Prop} (hh:A.handled=none) (hx:s.heap.get? a=some { cls:=.type "list",data:=.seq xs n }) (hp:qC knd s.heap s.heap.objs.size s.heap.objs.size xs 0 ps) (hz:ps.length<=sizeLine)
 (h:∀ h' tk,h'.DictOf knd s.heap.objs.size (ps.foldl (fun c p=>Wt c p.1 p.2) [])->(∀ b o,s.heap.get? b=some o->h'.get? b=some o)->Q (.ref s.heap.objs.size) { s with heap:=h',toks:=tk }) :
 wpAny (RX prog w) A (call (.type "dict") [.ref a]) Q E s:=by
 refine callType_codes (Q₁:=fun obj s₁=>obj=.ref s.heap.objs.size/\s₁={ s with heap:=s.heap.push { cls:=.type "dict",data:=.dict #[] } }) F.kt_called_dict (F.kt_typeCall_dict_1 _) F.entry_dict_init (kt_code_dict_new _ ⟨rfl,rfl⟩) ?_
 rintro obj s₁ ⟨rfl,rfl⟩
 have hnew:(s.heap.push { cls:=.type "dict",data:=.dict #[] }).DictOf knd s.heap.objs.size []:=WG s.heap
 have hx':(s.heap.push { cls:=.type "dict",data:=.dict #[] }).get? a=some { cls:=.type "list",data:=.seq xs n }:=Rk _ hx
 refine ⟨hnew.typeIs,F.args_dict_init_2 _ _,?_⟩
 unfold Builtin.«dict.__init__»
 refine Ro ?_
 unfold Builtin.Dict.selfAndRest
 refine Ro (wpAny_notOrdered_dict hnew.typeIs ?_)
 show wpAny _ _ (pure (s.heap.objs.size,[So a])) _ _ _
 refine wpAny_pure ?_
 show wpAny _ _ (VD "dict.__init__" s.heap.objs.size (.ref a) [] .none) _ _ _
 unfold VD
 refine Ro (UH (T:="list") ⟨_,hx',rfl⟩ ?_)
 rw[if_pos (by decide)]
 obtain ⟨hp0,g,d,tk,os⟩:=s
 refine Ro (yR hx' hh fun h1 t1 k1=>?_)
 rw[if_pos (by rfl)]
 refine Ro (wpAny_rule ?_)
 have hx1:=k1 _ _ hx'
 refine Ro (wpAny_pyIter_list (s:=⟨h1,g,d,t1,os⟩) ⟨_,hx1,rfl,_,rfl⟩ ?_)
 have lt:hp0.objs.size < h1.objs.size:=by
  obtain ⟨o,es,ep,ho,_⟩:=hnew
  exact Rt (k1 _ _ ho)
 have hd1:(h1.push { cls:=.type "list_iterator",data:=.fields #[.ref a,.int 0 0] }).DictOf knd hp0.objs.size []:=by
  obtain ⟨o,es,ep,ho,r⟩:=hnew
  exact ⟨o,es,ep,Rk _ (k1 _ _ ho),r⟩
 have la:a < hp0.objs.size:=Rt hx
 refine wpAny_pure ⟨plainId_quiet dN _,yS (A:=A.in1) (knd:=knd) (a:=a) (xs:=xs) (show A.in1.in1.handled=none from hh) (RK la) (RK (Uk la lt)) (RK lt) ps [] 0 _ ⟨h1.push { cls:=.type "list_iterator",data:=.fields #[.ref a,.int 0 0] },g,d,t1,os⟩ ⟨hp.1,fun j p hj=>?_⟩ ⟨_,RB _ rfl,rfl,rfl⟩ ⟨_,Rk _ hx1,rfl,_,rfl⟩ hd1 (by simpa using hz) fun h' tk hd' k'=>⟨rfl,h h' tk hd' fun b o e=>?_⟩⟩
 ·obtain ⟨q,key,o,n,g1,g2,g3,g4,g5⟩:=hp.2 j p hj
  have lq:q < hp0.objs.size:=Rt g4
  exact ⟨q,key,o,n,g1,g2,RK (Uk lq lt),Rk _ (k1 _ _ (Rk _ g4)),g5⟩
 ·have lb:b < hp0.objs.size:=Rt e
  exact k' b o (RK lb) (RK (Uk lb lt)) (Rk _ (k1 _ _ (Rk _ e)))
end
end BX
end
section
namespace BT
open PySem
theorem dQ {P:Prop} (h:false=true):P:=nomatch h
theorem yT {P:Prop} (h:true=false):P:=nomatch h
theorem gi {β:Type}{a:β}{P:Prop} (h:(none:Option β)=some a):P:=nomatch h
inductive D where
 | non | bl (b:Bool) | int (i:Int) | str (x:Str) | tup (xs:List D) | lst (xs:List D)
inductive FK where
 | f (x:Str) | m (c x:Str) | l (i:Nat)
 deriving DecidableEq
instance:Coe String FK:=⟨fun s=>.f (RM s)⟩
inductive Cp where
 | p (d:D) | o (n:Nat)
noncomputable abbrev Ky:=Int ⊕ Str
inductive Kd where
 | t (kvs:List (Str×D)) | l (kvs:List (Ky×D))
inductive W where
 | p (d:D) | r (n:Nat) | k (kvs:Kd) | o (n:Nat) | c (f:FK) (cs:List Cp) | x (c:Str)
noncomputable def Cp.w:Cp->W
 | .p d=>.p d
 | .o n=>.o n
@[simp] theorem Cp.w_p (d:D):Cp.w (.p d)=.p d:=rfl
@[simp] theorem Cp.w_o (n:Nat):Cp.w (.o n)=.o n:=rfl
noncomputable def tW:W->Option Cp
 | .p d=>some (.p d)
 | .o n=>some (.o n)
 | .r _=>none
 | .k _=>none
 | .c _ _=>none
 | .x _=>none
@[simp] theorem NH (d:D):tW (.p d)=some (.p d):=rfl
@[simp] theorem NI (n:Nat):tW (.o n)=some (.o n):=rfl
inductive Cl where
 | l (xs:List D) | o (c:Str) (fs:List (Str×W)) | d (kvs:List (Ky×D)) | z
noncomputable abbrev HH:=List Cl
noncomputable abbrev Sl:=List (Option W)
set_option genInjectivity false in
inductive Bin where
 | add | sub | mul | mod | fdiv | pow
set_option genInjectivity false in
inductive Cm where
 | eq | ne | lt | le | gt | ge | isN | notN | mem | nmem
set_option genInjectivity false in
inductive Sr where
 | seq | rng1 | rng2 | rev | enu | zip2 | rng3 | itm
inductive Bi where
 | len | abs | int | str | bool | list | tuple | all | any | isInt | isBool | isStr | isTuple | isList | min2 | max2
 | sum | sorted | max1 | lzip | nset | sset | maxd | lrng3
set_option genInjectivity false in
inductive Me where
 | append | pop | extend | tindex | sindex | dget | count | lindex
inductive Dk where
 | of | ks | so | it
set_option genInjectivity false in
mutual
inductive E where
 | var (i:Nat)
 | cst (d:D)
 | glo (x:Str)
 | bin (o:Bin) (a b:E)
 | neg (a:E)
 | not (a:E)
 | and (a b:E)
 | or (a b:E)
 | cmp (o:Cm) (a b:E)
 | chain (o o':Cm) (a b c:E)
 | ite (c a b:E)
 | tup (as:Es)
 | lst (mu:Bool) (as:Es)
 | idx (a i:E)
 | slc (a:E) (lo hi:Es)
 | rvs (a:E)
 | stp (mu:Bool) (k:Int) (a:E)
 | call (f:Str) (as:Es)
 | fld (a:E) (f:Str)
 | meth (o:E) (m:Str) (as:Es)
 | make (c:Str) (as:Es)
 | bi (b:Bi) (mu:Bool) (as:Es)
 | lsr (mu:Bool) (sr:Sr) (as:Es)
 | me (m:Me) (o:E) (as:Es)
 | comp (mu:Bool) (sr:Sr) (sa:Es) (tg:List Str) (fv:List (Nat×Str)) (cond:Es) (elt:E)
 | callv (i:Nat) (as:Es)
 | methL (o:E) (m:Str) (as:Es) (L:Nat) (fv:List (Nat×Str))
 | dnew
 | dgt (o k d:E)
 | dk (k:Dk) (a:E)
 | dne (a b:E)
inductive Es where
 | nil
 | cons (a:E) (as:Es)
end
set_option genInjectivity false in
inductive S where
 | nil
 | seq (a b:S)
 | set (i:Nat) (e:E)
 | unp (xs:List (Nat×Str)) (e:E)
 | aug (i:Nat) (o:Bin) (e:E)
 | put (i:Nat) (k e:E)
 | wC (i:Nat) (k e:E)
 | setf (o:E) (f:Str) (e:E)
 | augf (o:E) (f:Str) (op:Bin) (e:E)
 | ex (e:E)
 | ret (e:E)
 | ife (c:E) (a b:S)
 | whl (c:E) (b:S)
 | for (tg:List (Nat×Str)) (sr:Sr) (sa:Es) (b:S)
 | brk | cnt
 | bad
 | rai (c:Str) (e:E)
set_option genInjectivity false in
structure Fn where
 ps:List Str
 ns:List Str
 body:S
noncomputable def bnd {α β:Type} (x:Option (α×HH)) (k:α->HH->Option β):Option β :=
 match x with | some (a,h)=>k a h | none=>none
@[simp] theorem dW (a:α) (h:HH) (k:α->HH->Option β):bnd (some (a,h)) k=k a h:=rfl
@[simp] theorem Ls (k:α->HH->Option β):bnd none k=none:=rfl
@[simp] noncomputable def lim:Nat:=100000
mutual
@[simp] noncomputable def eqv:D->D->Bool
 | .non,.non=>true
 | .bl a,.bl b=>a==b
 | .bl a,.int j=>(if a then (1:Int) else 0)==j
 | .int i,.bl b=>i==(if b then (1:Int) else 0)
 | .int i,.int j=>i==j
 | .str x,.str y=>x==y
 | .tup xs,.tup ys=>oh xs ys
 | .lst xs,.lst ys=>oh xs ys
 | _,_=>false
@[simp] noncomputable def oh:List D->List D->Bool
 | [],[]=>true
 | x :: xs,y :: ys=>eqv x y&&oh xs ys
 | _,_=>false
end
noncomputable def pX:Cl->Option (List D)
 | .l xs=>some xs
 | .o _ _=>none
 | .d _=>none
 | .z=>none
noncomputable def rA:Cl->Option (Str×List (Str×W))
 | .l _=>none
 | .o c fs=>some (c,fs)
 | .d _=>none
 | .z=>none
noncomputable def tX:Cl->Option (List (Ky×D))
 | .l _=>none
 | .o _ _=>none
 | .d kvs=>some kvs
 | .z=>none
@[simp] theorem O2 (kvs:List (Ky×D)):pX (.d kvs)=none:=rfl
@[simp] theorem O3 (kvs:List (Ky×D)):rA (.d kvs)=none:=rfl
@[simp] theorem O4 (kvs:List (Ky×D)):tX (.d kvs)=some kvs:=rfl
@[simp] theorem O5:pX .z=none:=rfl
@[simp] theorem O6:rA .z=none:=rfl
@[simp] theorem O7:tX .z=none:=rfl
@[simp] theorem O8 (xs:List D):tX (.l xs)=none:=rfl
@[simp] theorem O9 (c:Str) (fs:List (Str×W)):tX (.o c fs)=none:=rfl
@[simp] theorem Pa (xs:List D):pX (.l xs)=some xs:=rfl
@[simp] theorem Pb (c:Str) (fs:List (Str×W)):pX (.o c fs)=none:=rfl
@[simp] theorem Pc (xs:List D):rA (.l xs)=none:=rfl
@[simp] theorem HQ (c:Str) (fs:List (Str×W)):rA (.o c fs)=some (c,fs):=rfl
noncomputable def lat (h:HH) (n:Nat):Option (List D):=(h[n]?).bind pX
noncomputable def oat (h:HH) (n:Nat):Option (Str×List (Str×W)):=(h[n]?).bind rA
noncomputable def dat (h:HH) (n:Nat):Option (List (Ky×D)):=(h[n]?).bind tX
noncomputable def jB:D->Option Ky
 | .non=>none
 | .bl _=>none
 | .int i=>some (.inl i)
 | .str x=>some (.inr x)
 | .tup _=>none
 | .lst _=>none
@[simp] theorem Lu (i:Int):jB (.int i)=some (.inl i):=rfl
@[simp] theorem Lv (x:Str):jB (.str x)=some (.inr x):=rfl
noncomputable def kH:Ky->D
 | .inl i=>.int i
 | .inr x=>.str x
@[simp] theorem Pd (i:Int):kH (.inl i)=.int i:=rfl
@[simp] theorem Pe (x:Str):kH (.inr x)=.str x:=rfl
noncomputable def dZ (kvs:List (Ky×D)) (k:Ky):Option D:=(kvs.find? fun kv=>decide (kv.1=k)).map (·.2)
noncomputable def gU (kvs:List (Ky×D)) (k:Ky) (v:D):List (Ky×D) :=
 if (kvs.any fun kv=>decide (kv.1=k))=true then kvs.map (fun kv=>if kv.1=k then (kv.1,v) else kv) else kvs++[(k,v)]
noncomputable def fW (kvs:List (Ky×D)):List D:=kvs.map fun q=>.tup [kH q.1,q.2]
noncomputable def rd (w:W) (h:HH):Option D:=match w with
 | .p d=>some d
 | .r n=>(lat h n).map D.lst
 | .k _=>none
 | .o _=>none
 | .c _ _=>none
 | .x _=>none
@[simp] theorem Q8 (d:D) (h:HH):rd (.p d) h=some d:=rfl
noncomputable def big (i:Int):Bool:=decide (i.natAbs < 2 ^ 64)
noncomputable def rep (k:Nat) (xs:List D):List D:=(RN k xs).flatten
noncomputable def k9:Bin->D->D->Option D
 | .add,.int i,.int j=>some (.int (i+j))
 | .add,.str x,.str y=>if x.length+y.length<=lim then some (.str (x++y)) else none
 | .add,.tup xs,.tup ys=>if xs.length+ys.length<=lim then some (.tup (xs++ys)) else none
 | .add,.lst xs,.lst ys=>if xs.length+ys.length<=lim then some (.lst (xs++ys)) else none
 | .sub,.int i,.int j=>some (.int (i - j))
 | .mul,.int i,.int j=>if big i||big j then some (.int (i*j)) else none
 | .mul,.tup xs,.int k=>if 2<=k&&k<=1000&&!xs.isEmpty&&xs.length*k.toNat<=lim then some (.tup (rep k.toNat xs)) else none
 | .mul,.lst xs,.int k=>if -1000<=k&&k<=1000&&xs.length*k.toNat<=lim then some (.lst (rep k.toNat xs)) else none
 | .mod,.int i,.int j=>if 0 < j then some (.int (i % j)) else none
 | .fdiv,.int i,.int j=>if 0 < j&&j < 1073741824 then some (.int (i / j)) else none
 | .pow,.int i,.int j=>if 0<=j&&j<=100&&big i then some (.int (i ^ j.toNat)) else none
 | _,_,_=>none
noncomputable def oi:Bin->D->D->Option D
 | .add,.int i,.int j=>some (.int (i+j))
 | .sub,.int i,.int j=>some (.int (i - j))
 | .mul,.int i,.int j=>if big i||big j then some (.int (i*j)) else none
 | _,_,_=>none
@[simp] theorem Ly (i j:Int):oi .add (.int i) (.int j)=some (.int (i+j)):=rfl
@[simp] theorem Lz (i j:Int):oi .sub (.int i) (.int j)=some (.int (i - j)):=rfl
@[simp] theorem tY (i j:Int):oi .mul (.int i) (.int j)=if big i||big j then some (.int (i*j)) else none:=rfl
@[simp] noncomputable def place (n:Nat) (i:Int):Option Nat :=
 if 0<=i then (if i < n then some i.toNat else none) else if -(n:Int)<=i then some (i+n).toNat else none
@[simp] noncomputable def atP {α:Type} (xs:List α) (i:Int):Option α:=(place xs.length i).bind fun j=>xs[j]?
@[simp] noncomputable def gj (k:Str):List (Str×D)->Option D
 | []=>none
 | (x,d) :: r=>if k=x then some d else gj k r
noncomputable def dF:D->D->Option D
 | .tup xs,.int i=>atP xs i
 | .lst xs,.int i=>atP xs i
 | .str x,.int i=>if x.length<=lim then (atP x.cps.toList i).map fun c=>.str ⟨#[c]⟩ else none
 | _,_=>none
@[simp] noncomputable def clip (n d:Nat):Option Int->Nat
 | none=>d
 | some v=>if v < 0 then (v+(n:Int)).toNat else if v<=(n:Int) then v.toNat else n
@[simp] noncomputable def cut (xs:List D) (lo hi:Option Int):List D:=(xs.drop (clip xs.length 0 lo)).take (clip xs.length xs.length hi - clip xs.length 0 lo)
@[simp] noncomputable def rB:List D->Option (Option Int)
 | []=>some none
 | [.int i]=>some (some i)
 | _=>none
noncomputable def vD (x:D) (lo hi:Option Int):Option D:=match x with
 | .tup xs=>some (.tup (cut xs lo hi))
 | .lst xs=>some (.lst (cut xs lo hi))
 | _=>none
noncomputable def dok:Nat->D->Bool
 | _,.non=>true
 | _,.bl _=>true
 | _,.int _=>true
 | _,.str _=>true
 | 0,.tup _=>false
 | 0,.lst _=>false
 | n+1,.tup xs=>xs.all (dok n)
 | n+1,.lst xs=>xs.all (dok n)
@[simp] theorem NJ (n:Nat):dok n .non=true:=by cases n<;>rfl
@[simp] theorem Pf (n:Nat) (b:Bool):dok n (.bl b)=true:=by cases n<;>rfl
@[simp] theorem NK (n:Nat) (i:Int):dok n (.int i)=true:=by cases n<;>rfl
@[simp] theorem NL (n:Nat) (x:Str):dok n (.str x)=true:=by cases n<;>rfl
@[simp] theorem wY (n:Nat) (xs:List D):dok (n+1) (.tup xs)=xs.all (dok n):=rfl
@[simp] theorem rC (n:Nat) (xs:List D):dok (n+1) (.lst xs)=xs.all (dok n):=rfl
noncomputable def dX (x y:D):Bool:=dok 100 x||dok 100 y
@[simp] theorem LC (x:D) (y:Str):dX x (.str y)=true:=by simp[dX]
@[simp] theorem LD (x:D) (y:Int):dX x (.int y)=true:=by simp[dX]
@[simp] theorem Ko (x:D) (y:Str):dX (.str y) x=true:=by simp[dX]
@[simp] theorem Kp (x:D) (y:Int):dX (.int y) x=true:=by simp[dX]
@[simp] theorem Kq (x:D):dX x (.tup [])=true:=by simp[dX,dok]
@[simp] theorem yU (x:D):dX x (.lst [])=true:=by simp[dX,dok]
@[simp] theorem NN (x:D) (b:Bool):dX x (.bl b)=true:=by simp[dX]
theorem lZ (h:dok 100 y=true):dX x y=true:=by simp[dX,h]
noncomputable def jF:D->Bool
 | .non=>true
 | .bl _=>false
 | .int _=>false
 | .str _=>false
 | .tup _=>false
 | .lst _=>false
@[simp] theorem Kr:jF .non=true:=rfl
@[simp] theorem LG (z:Bool):jF (.bl z)=false:=rfl
@[simp] theorem Ks (z:Int):jF (.int z)=false:=rfl
@[simp] theorem Ku (z:Str):jF (.str z)=false:=rfl
@[simp] theorem Kv (z:List D):jF (.tup z)=false:=rfl
@[simp] theorem Kw (z:List D):jF (.lst z)=false:=rfl
noncomputable def rD (b:Bool):D->Bool
 | .non=>false
 | .bl c=>c==b
 | .int _=>false
 | .str _=>false
 | .tup _=>false
 | .lst _=>false
@[simp] theorem LH (b:Bool):rD b .non=false:=rfl
@[simp] theorem NO (b z:Bool):rD b (.bl z)=(z==b):=rfl
@[simp] theorem LJ (b:Bool) (z:Int):rD b (.int z)=false:=rfl
@[simp] theorem LK (b:Bool) (z:Str):rD b (.str z)=false:=rfl
@[simp] theorem LM (b:Bool) (z:List D):rD b (.tup z)=false:=rfl
@[simp] theorem LN (b:Bool) (z:List D):rD b (.lst z)=false:=rfl
noncomputable def gE:Cm->D->D->Option Bool
 | .eq,x,y=>if dX x y then some (eqv x y) else none
 | .ne,x,y=>if dX x y then some (!eqv x y) else none
 | .lt,.int i,.int j=>some (decide (i < j))
 | .le,.int i,.int j=>some (decide (i<=j))
 | .gt,.int i,.int j=>some (decide (j < i))
 | .ge,.int i,.int j=>some (decide (j<=i))
 | .isN,x,.non=>some (jF x)
 | .notN,x,.non=>some (!jF x)
 | .notN,x,.bl b=>some (!rD b x)
 | .mem,x,.tup ys=>if ys.all fun y=>dX y x then some (ys.any fun y=>eqv y x) else none
 | .mem,x,.lst ys=>if ys.all fun y=>dX y x then some (ys.any fun y=>eqv y x) else none
 | .nmem,x,.tup ys=>if ys.all fun y=>dX y x then some (!ys.any fun y=>eqv y x) else none
 | .nmem,x,.lst ys=>if ys.all fun y=>dX y x then some (!ys.any fun y=>eqv y x) else none
 | _,_,_=>none
@[simp] noncomputable def intsOf:List D->Option (List Int)
 | []=>some []
 | .int i :: r=>(intsOf r).map (i :: ·)
 | _=>none
@[simp] noncomputable def allB:List D->Option Bool
 | []=>some true
 | .bl b :: r=>if b then allB r else some false
 | _=>none
@[simp] noncomputable def anyB:List D->Option Bool
 | []=>some false
 | .bl b :: r=>if b then some true else anyB r
 | _=>none
noncomputable def isI:D->Bool
 | .non=>false
 | .bl _=>true
 | .int _=>true
 | .str _=>false
 | .tup _=>false
 | .lst _=>false
@[simp] theorem NP:isI .non=false:=rfl
@[simp] theorem Ph (z:Bool):isI (.bl z)=true:=rfl
@[simp] theorem NQ (z:Int):isI (.int z)=true:=rfl
@[simp] theorem NR (z:Str):isI (.str z)=false:=rfl
@[simp] theorem NS (z:List D):isI (.tup z)=false:=rfl
@[simp] theorem NT (z:List D):isI (.lst z)=false:=rfl
noncomputable def isB:D->Bool
 | .non=>false
 | .bl _=>true
 | .int _=>false
 | .str _=>false
 | .tup _=>false
 | .lst _=>false
@[simp] theorem NU:isB .non=false:=rfl
@[simp] theorem Pi (z:Bool):isB (.bl z)=true:=rfl
@[simp] theorem NV (z:Int):isB (.int z)=false:=rfl
@[simp] theorem NW (z:Str):isB (.str z)=false:=rfl
@[simp] theorem NX (z:List D):isB (.tup z)=false:=rfl
@[simp] theorem NY (z:List D):isB (.lst z)=false:=rfl
noncomputable def isS:D->Bool
 | .non=>false
 | .bl _=>false
 | .int _=>false
 | .str _=>true
 | .tup _=>false
 | .lst _=>false
@[simp] theorem NZ:isS .non=false:=rfl
@[simp] theorem Pj (z:Bool):isS (.bl z)=false:=rfl
@[simp] theorem N1 (z:Int):isS (.int z)=false:=rfl
@[simp] theorem N2 (z:Str):isS (.str z)=true:=rfl
@[simp] theorem N3 (z:List D):isS (.tup z)=false:=rfl
@[simp] theorem N4 (z:List D):isS (.lst z)=false:=rfl
noncomputable def isT:D->Bool
 | .non=>false
 | .bl _=>false
 | .int _=>false
 | .str _=>false
 | .tup _=>true
 | .lst _=>false
@[simp] theorem N5:isT .non=false:=rfl
@[simp] theorem Pk (z:Bool):isT (.bl z)=false:=rfl
@[simp] theorem N6 (z:Int):isT (.int z)=false:=rfl
@[simp] theorem N7 (z:Str):isT (.str z)=false:=rfl
@[simp] theorem N8 (z:List D):isT (.tup z)=true:=rfl
@[simp] theorem N9 (z:List D):isT (.lst z)=false:=rfl
noncomputable def isL:D->Bool
 | .non=>false
 | .bl _=>false
 | .int _=>false
 | .str _=>false
 | .tup _=>false
 | .lst _=>true
@[simp] theorem Oa:isL .non=false:=rfl
@[simp] theorem Pn (z:Bool):isL (.bl z)=false:=rfl
@[simp] theorem Ob (z:Int):isL (.int z)=false:=rfl
@[simp] theorem Oc (z:Str):isL (.str z)=false:=rfl
@[simp] theorem Oe (z:List D):isL (.tup z)=false:=rfl
@[simp] theorem Of (z:List D):isL (.lst z)=true:=rfl
noncomputable def sortI (ns:List Int):List Int:=ns.mergeSort fun a b=>decide (a<=b)
noncomputable def LP:List Int->Option Int
 | []=>none
 | n :: ns=>some (ns.foldl max n)
@[simp] noncomputable def D0:List D->List D->List D
 | x :: xs,y :: ys=>.tup [x,y] :: D0 xs ys
 | _,_=>[]
noncomputable def ded (ns:List Int):List Int:=ns.foldl (fun σ v=>if σ.any (·==v) then σ else σ++[v]) []
noncomputable def LQ (a b c:Int):Nat:=if a < b then ((b - a - 1) / c+1).toNat else 0
noncomputable def stepI (a c:Int) (n:Nat):List Int:=(RV n).map fun (k:Nat)=>a+(k:Int)*c
noncomputable def biD:Bi->List D->Option D
 | .len,[.tup xs]=>some (.int xs.length)
 | .len,[.lst xs]=>some (.int xs.length)
 | .len,[.str x]=>if x.length<=lim then some (.int x.length) else none
 | .abs,[.int i]=>some (.int (if i < 0 then -i else i))
 | .int,[.int i]=>some (.int i)
 | .int,[.bl b]=>some (.int (if b then 1 else 0))
 | .str,[.int i]=>if big i then some (.str (toString i)) else none
 | .tuple,[.lst xs]=>some (.tup xs)
 | .tuple,[.tup xs]=>some (.tup xs)
 | .list,[.lst xs]=>some (.lst xs)
 | .list,[.tup xs]=>some (.lst xs)
 | .all,[.lst xs]=>(allB xs).map .bl
 | .any,[.lst xs]=>(anyB xs).map .bl
 | .isInt,[x]=>some (.bl (isI x))
 | .isBool,[x]=>some (.bl (isB x))
 | .isStr,[x]=>some (.bl (isS x))
 | .isTuple,[x]=>some (.bl (isT x))
 | .isList,[x]=>some (.bl (isL x))
 | .min2,[.int i,.int j]=>some (.int (if j < i then j else i))
 | .max2,[.int i,.int j]=>some (.int (if j > i then j else i))
 | .sorted,[.lst xs]=>(intsOf xs).bind fun ns=>if ns.length < 64 then some (.lst ((sortI ns).map .int)) else none
 | .max1,[.lst xs]=>(intsOf xs).bind fun ns=>(LP ns).map .int
 | .sum,[.lst xs]=>(intsOf xs).map fun ns=>.int ns.sum
 | .nset,[.lst xs]=>(intsOf xs).bind fun ns=>if ns.length < 1000 then some (.int ((ded ns).length:Nat)) else none
 | .sset,[.lst xs]=>(intsOf xs).bind fun ns=>if ns.length < 64 then some (.lst ((sortI (ded ns)).map .int)) else none
 | .lzip,[.tup xs,.tup ys]=>if 0 < xs.length/\xs.length=ys.length then some (.lst (D0 xs ys)) else none
 | .maxd,[.lst xs,.int d]=>(intsOf xs).map fun ns=>.int ((LP ns).getD d)
 | .lrng3,[.int a,.int b,.int c]=>if 0 < c&&c<=100000&&-100000<=a&&a<=100000&&-100000<=b&&b<=100000 then some (.lst ((stepI a c (LQ a b c)).map .int)) else none
 | _,_=>none
@[simp] noncomputable def mh:Nat->List D->List D
 | _,[]=>[]
 | k,x :: r=>.tup [.int k,x] :: mh (k+1) r
noncomputable def rE:D->Option (List D)
 | .tup xs=>some xs
 | .lst xs=>some xs
 | _=>none
noncomputable def upto (lo:Int) (n:Nat):List D:=(RV n).map fun (k:Nat)=>D.int (lo+(k:Int))
noncomputable def down (a:Int) (n:Nat):List D:=(RV n).map fun i=>.int (a - (i:Nat))
noncomputable def gC:Sr->List D->Option (List D)
 | .seq,[x]=>rE x
 | .rng1,[.int n]=>if -100000<=n&&n<=100000 then some (upto 0 n.toNat) else none
 | .rng2,[.int a,.int b]=>if -100000<=a&&a<=100000&&-100000<=b&&b<=100000 then some (upto a (b - a).toNat) else none
 | .rev,[.lst xs]=>some xs.reverse
 | .enu,[.lst xs]=>some (mh 0 xs)
 | .zip2,[.lst xs,.lst ys]=>some (D0 xs ys)
 | .itm,[.lst xs]=>some xs
 | .rng3,[.int a,.int b,.int c]=>if c=-1/\-100000<=a/\a<=100000/\-100000<=b/\b<=100000 then some (down a (a - b).toNat) else none
 | _,_=>none
@[simp] noncomputable def jg (x:D):List D->Nat->Option Nat
 | [],_=>none
 | y :: r,k=>if eqv y x then some k else jg x r (k+1)
@[simp] noncomputable def LR (c:Nat):List Nat->Nat->Option Nat
 | [],_=>none
 | y :: r,k=>if y=c then some k else LR c r (k+1)
@[simp] noncomputable def dG:List W->Option (List D)
 | []=>some []
 | .p d :: r=>(dG r).map (d :: ·)
 | .r _ :: _=>none
 | .k _ :: _=>none
 | .o _ :: _=>none
 | .c _ _ :: _=>none
 | .x _ :: _=>none
noncomputable def meD:Me->D->List D->Option D
 | .tindex,.tup xs,[x]=>if xs.all fun y=>dX y x then (jg x xs 0).map fun (q:Nat)=>D.int (q:Int) else none
 | .sindex,.str x,[.str y]=>match Uu x y 0 x.length 1 with
  | i :: _=>some (.int (i:Int))
  | []=>none
 | .count,.lst xs,[x]=>if xs.all fun y=>dX y x then some (.int ((xs.countP fun y=>eqv y x:Nat):Int)) else none
 | .lindex,.lst xs,[x]=>if xs.all fun y=>dX y x then (jg x xs 0).map fun (q:Nat)=>D.int (q:Int) else none
 | _,_,_=>none
theorem HR:meD .count (.lst xs) [x]=if xs.all fun y=>dX y x then some (.int ((xs.countP fun y=>eqv y x:Nat):Int)) else none:=rfl
theorem HS:meD .lindex (.lst xs) [x]=if xs.all fun y=>dX y x then (jg x xs 0).map fun (q:Nat)=>D.int (q:Int) else none:=rfl
theorem AE:meD .tindex (.tup xs) [x]=if xs.all fun y=>dX y x then (jg x xs 0).map fun (q:Nat)=>D.int (q:Int) else none:=rfl
theorem HU:meD .sindex (.str x) [.str y]=match Uu x y 0 x.length 1 with
 | i :: _=>some (.int (i:Int))
 | []=>none:=rfl
noncomputable def meW (m:Me) (o:W) (as:List W) (h:HH):Option (W×HH):=match m,o,as with
 | .append,.r n,[.p d]=>match lat h n with
  | some xs=>if xs.length < lim then some (.p .non,h.set n (.l (xs++[d]))) else none
  | none=>none
 | .pop,.r n,[]=>match lat h n with
  | some xs=>match xs.getLast? with
   | some d=>some (.p d,h.set n (.l xs.dropLast))
   | none=>none
  | none=>none
 | .extend,.r n,[w]=>match lat h n,(rd w h).bind rE with
  | some xs,some ys=>if xs.length+ys.length<=lim then some (.p .non,h.set n (.l (xs++ys))) else none
  | _,_=>none
 | .dget,.k (.t kvs),[.p (.str x)]=>some (.p ((gj x kvs).getD .non),h)
 | .dget,.k (.t _),[.p .non]=>some (.p .non,h)
 | .dget,.k (.t kvs),[.p (.str x),.p d]=>some (.p ((gj x kvs).getD d),h)
 | m,.p d,as=>match dG as with
  | some ds=>(meD m d ds).map fun x=>(.p x,h)
  | none=>none
 | _,_,_=>none
section
variable (n:Nat) (d:D) (h:HH) (kvs:List (Str×D)) (x:Str) (as:List W)
@[simp] theorem vE:meW .append (.r n) [.p d] h=match lat h n with
 | some xs=>if xs.length < lim then some (.p .non,h.set n (.l (xs++[d]))) else none
 | none=>none:=rfl
@[simp] theorem D3:meW .pop (.r n) [] h=match lat h n with
 | some xs=>match xs.getLast? with
  | some d=>some (.p d,h.set n (.l xs.dropLast))
  | none=>none
 | none=>none:=rfl
@[simp] theorem vF (w:W):meW .extend (.r n) [w] h=match lat h n,(rd w h).bind rE with
 | some xs,some ys=>if xs.length+ys.length<=lim then some (.p .non,h.set n (.l (xs++ys))) else none
 | _,_=>none:=rfl
@[simp] theorem LS:meW .dget (.k (.t kvs)) [.p (.str x)] h=some (.p ((gj x kvs).getD .non),h):=rfl
@[simp] theorem HV:meW .dget (.k (.t kvs)) [.p .non] h=some (.p .non,h):=rfl
@[simp] theorem Kx:meW .dget (.k (.t kvs)) [.p (.str x),.p d] h=some (.p ((gj x kvs).getD d),h):=rfl
@[simp] theorem oj:meW .tindex (.p d) as h=match dG as with
 | some ds=>(meD .tindex d ds).map fun x=>(.p x,h)
 | none=>none:=rfl
@[simp] theorem yV:meW .count (.p d) as h=match dG as with
 | some ds=>(meD .count d ds).map fun x=>(.p x,h)
 | none=>none:=rfl
@[simp] theorem vG:meW .lindex (.p d) as h=match dG as with
 | some ds=>(meD .lindex d ds).map fun x=>(.p x,h)
 | none=>none:=rfl
@[simp] theorem om:meW .sindex (.p d) as h=match dG as with
 | some ds=>(meD .sindex d ds).map fun x=>(.p x,h)
 | none=>none:=rfl
end
noncomputable def new (mu:Bool) (xs:List D) (h:HH):W×HH:=if mu then (.r h.length,h++[.l xs]) else (.p (.lst xs),h)
@[simp] theorem QN (xs:List D) (h:HH):new false xs h=(.p (.lst xs),h):=rfl
@[simp] theorem QO (xs:List D) (h:HH):new true xs h=(.r h.length,h++[.l xs]):=rfl
@[simp] noncomputable def rds (ws:List W) (h:HH):Option (List D):=match ws with
 | []=>some []
 | w :: r=>(rd w h).bind fun d=>(rds r h).map (d :: ·)
noncomputable def unpack (n:Nat):D->Option (List D)
 | .tup xs=>if xs.length=n then some xs else none
 | .lst xs=>if xs.length=n then some xs else none
 | _=>none
noncomputable def target (n:Nat) (d:D):Option (List D):=if n=1 then some [d] else unpack n d
section
variable (i j k a b:Int) (c:Bool) (x y:Str) (xs ys:List D) (kvs:List (Str×D)) (d e:D) (lo hi:Option Int)
@[simp] theorem tZ:k9 .add (.int i) (.int j)=some (.int (i+j)):=rfl
@[simp] theorem oq:k9 .add (.str x) (.str y)=if x.length+y.length<=lim then some (.str (x++y)) else none:=rfl
@[simp] theorem oz:k9 .add (.tup xs) (.tup ys)=if xs.length+ys.length<=lim then some (.tup (xs++ys)) else none:=rfl
@[simp] theorem oA:k9 .add (.lst xs) (.lst ys)=if xs.length+ys.length<=lim then some (.lst (xs++ys)) else none:=rfl
@[simp] theorem oB:k9 .sub (.int i) (.int j)=some (.int (i - j)):=rfl
@[simp] theorem uc:k9 .mul (.int i) (.int j)=if big i||big j then some (.int (i*j)) else none:=rfl
@[simp] theorem oE:k9 .mul (.tup xs) (.int k)=if 2<=k&&k<=1000&&!xs.isEmpty&&xs.length*k.toNat<=lim then some (.tup (rep k.toNat xs)) else none:=rfl
@[simp] theorem oF:k9 .mul (.lst xs) (.int k)=if -1000<=k&&k<=1000&&xs.length*k.toNat<=lim then some (.lst (rep k.toNat xs)) else none:=rfl
@[simp] theorem oG:k9 .mod (.int i) (.int j)=if 0 < j then some (.int (i % j)) else none:=rfl
@[simp] theorem mj:k9 .fdiv (.int i) (.int j)=if 0 < j&&j < 1073741824 then some (.int (i / j)) else none:=rfl
@[simp] theorem oH:k9 .pow (.int i) (.int j)=if 0<=j&&j<=100&&big i then some (.int (i ^ j.toNat)) else none:=rfl
@[simp] theorem gk:dF (.tup xs) (.int i)=atP xs i:=rfl
@[simp] theorem fF:dF (.lst xs) (.int i)=atP xs i:=rfl
@[simp] theorem jG:dF (.str x) (.int i)=if x.length<=lim then (atP x.cps.toList i).map fun c=>.str ⟨#[c]⟩ else none:=rfl
@[simp] theorem AF:vD (.tup xs) lo hi=some (.tup (cut xs lo hi)):=rfl
@[simp] theorem Po:vD (.lst xs) lo hi=some (.lst (cut xs lo hi)):=rfl
@[simp] theorem rF:gE .eq d e=if dX d e then some (eqv d e) else none:=rfl
@[simp] theorem nC:gE .ne d e=if dX d e then some (!eqv d e) else none:=rfl
@[simp] theorem nE:gE .lt (.int i) (.int j)=some (decide (i < j)):=rfl
@[simp] theorem nF:gE .le (.int i) (.int j)=some (decide (i<=j)):=rfl
@[simp] theorem nG:gE .gt (.int i) (.int j)=some (decide (j < i)):=rfl
@[simp] theorem nH:gE .ge (.int i) (.int j)=some (decide (j<=i)):=rfl
@[simp] theorem lg:gE .isN d .non=some (jF d):=rfl
@[simp] theorem j4:gE .notN d .non=some (!jF d):=rfl
@[simp] theorem yW {b:Bool}:gE .notN d (.bl b)=some (!rD b d):=rfl
@[simp] theorem gW:gE .mem d (.tup ys)=if ys.all fun y=>dX y d then some (ys.any fun y=>eqv y d) else none:=rfl
@[simp] theorem jh:gE .mem d (.lst ys)=if ys.all fun y=>dX y d then some (ys.any fun y=>eqv y d) else none:=rfl
@[simp] theorem iJ:gE .nmem d (.tup ys)=if ys.all fun y=>dX y d then some (!ys.any fun y=>eqv y d) else none:=rfl
@[simp] theorem iK:gE .nmem d (.lst ys)=if ys.all fun y=>dX y d then some (!ys.any fun y=>eqv y d) else none:=rfl
@[simp] theorem qD:biD .len [.tup xs]=some (.int xs.length):=rfl
@[simp] theorem Kz:biD .len [.lst xs]=some (.int xs.length):=rfl
@[simp] theorem yX:biD .len [.str x]=if x.length<=lim then some (.int x.length) else none:=rfl
@[simp] theorem Og:biD .abs [.int i]=some (.int (if i < 0 then -i else i)):=rfl
@[simp] theorem Oh:biD .int [.int i]=some (.int i):=rfl
@[simp] theorem KA:biD .int [.bl c]=some (.int (if c then 1 else 0)):=rfl
@[simp] theorem Oi:biD .str [.int i]=if big i then some (.str (toString i)) else none:=rfl
@[simp] theorem GE:biD .tuple [.lst xs]=some (.tup xs):=rfl
@[simp] theorem GF:biD .tuple [.tup xs]=some (.tup xs):=rfl
theorem oJ:biD .sorted [.lst xs]=(intsOf xs).bind fun ns=>if ns.length < 64 then some (.lst ((sortI ns).map .int)) else none:=rfl
theorem sortI_perm (ns:List Int):(sortI ns).Perm ns:=List.mergeSort_perm _ _
theorem oK (ns:List Int):(sortI ns).Pairwise (·<=·):=by
 have:=List.pairwise_mergeSort (le:=fun (a b:Int)=>decide (a<=b)) (fun a b c h1 h2=>by simp only[decide_eq_true_eq] at *;lia) (fun a b=>by simp only[TJ,decide_eq_true_eq];lia) ns
 exact this.imp fun h=>of_decide_eq_true h
@[simp] theorem HW:biD .list [.lst xs]=some (.lst xs):=rfl
@[simp] theorem HX:biD .list [.tup xs]=some (.lst xs):=rfl
@[simp] theorem Oj:biD .all [.lst xs]=(allB xs).map .bl:=rfl
@[simp] theorem Ol:biD .any [.lst xs]=(anyB xs).map .bl:=rfl
@[simp] theorem KB:biD .isInt [d]=some (.bl (isI d)):=rfl
@[simp] theorem HY:biD .isBool [d]=some (.bl (isB d)):=rfl
@[simp] theorem KC:biD .isStr [d]=some (.bl (isS d)):=rfl
@[simp] theorem GG:biD .isTuple [d]=some (.bl (isT d)):=rfl
@[simp] theorem HZ:biD .isList [d]=some (.bl (isL d)):=rfl
@[simp] theorem Om:biD .min2 [.int i,.int j]=some (.int (if j < i then j else i)):=rfl
@[simp] theorem On:biD .max2 [.int i,.int j]=some (.int (if j > i then j else i)):=rfl
@[simp] theorem Pp:rE (.tup xs)=some xs:=rfl
@[simp] theorem Pq:rE (.lst xs)=some xs:=rfl
@[simp] theorem AG:gC .seq [d]=rE d:=rfl
@[simp] theorem j5:gC .rng1 [.int a]=if -100000<=a&&a<=100000 then some (upto 0 a.toNat) else none:=rfl
@[simp] theorem i7:gC .rng2 [.int a,.int b]=if -100000<=a&&a<=100000&&-100000<=b&&b<=100000 then some (upto a (b - a).toNat) else none:=rfl
theorem qE {c:Int}:gC .rng3 [.int a,.int b,.int c]=if c=-1/\-100000<=a/\a<=100000/\-100000<=b/\b<=100000 then some (down a (a - b).toNat) else none:=rfl
@[simp] theorem LU:gC .rev [.lst xs]=some xs.reverse:=rfl
@[simp] theorem LV:gC .itm [.lst xs]=some xs:=rfl
@[simp] theorem LW:gC .enu [.lst xs]=some (mh 0 xs):=rfl
@[simp] theorem LY:gC .zip2 [.lst xs,.lst ys]=some (D0 xs ys):=rfl
@[simp] theorem Ia:meD .tindex (.tup xs) [d]=if xs.all fun y=>dX y d then (jg d xs 0).map fun (q:Nat)=>D.int (q:Int) else none:=rfl
@[simp] theorem ud (n:Nat):unpack n (.lst xs)=if xs.length=n then some xs else none:=rfl
@[simp] theorem ue (n:Nat):unpack n (.tup xs)=if xs.length=n then some xs else none:=rfl
end
@[simp] theorem oM (d:D):target 1 d=some [d]:=rfl
@[simp] theorem LZ (d:D):target 2 d=unpack 2 d:=rfl
noncomputable def wZ (o:Option D) (out:List D) (h:HH):Option (List D×HH):=some (match o with | some x=>x :: out | none=>out,h)
noncomputable def AH (r:HH->Option (List D×HH)) (o:Option D) (h:HH):Option (List D×HH):=bnd (r h) (wZ o)
@[simp] theorem uf (o:Option D) (out:List D) (h:HH):wZ o out h=some (match o with | some x=>x :: out | none=>out,h):=rfl
@[simp] theorem xg (r:HH->Option (List D×HH)) (o:Option D) (h:HH):AH r o h=bnd (r h) (wZ o):=rfl
noncomputable def dU (f:List D->HH->Option (Option D×HH)) (n:Nat):List D->HH->Option (List D×HH)
 | [],h=>some ([],h)
 | d :: r,h=>match target n d with
  | some ds=>bnd (f ds h) (AH (dU f n r))
  | none=>none
noncomputable def eV (d:D):Option W:=some (.p d)
noncomputable abbrev EH:=HH->Option (W×HH)
noncomputable abbrev OpW:=W->W->HH->Option (W×HH)
@[simp] noncomputable def k2 (eb:EH) (op:OpW) (x:W) (h:HH):Option (W×HH):=bnd (eb h) (op x)
@[simp] noncomputable def pY (o:Bin) (x y:W) (h:HH):Option (W×HH):=match rd x h,rd y h with
 | some d,some e=>(k9 o d e).map fun z=>(.p z,h)
 | _,_=>none
noncomputable def inT (o:Cm) (x:W) (kvs:List (Str×D)):Option Bool:=match o,x with
 | .mem,.p (.str s)=>some (gj s kvs).isSome
 | .nmem,.p (.str s)=>some (!(gj s kvs).isSome)
 | _,_=>none
noncomputable def inL (o:Cm) (x:W) (kvs:List (Ky×D)):Option Bool:=match o,x with
 | .mem,.p d=>(jB d).map fun k=>(dZ kvs k).isSome
 | _,_=>none
noncomputable def inK (o:Cm) (x:W) (q:Kd):Option Bool:=match q with
 | .t kvs=>inT o x kvs
 | .l kvs=>inL o x kvs
noncomputable def memC:Cm->Bool
 | .mem=>true
 | .nmem=>true
 | _=>false
theorem oN {o:Cm}{x:W}{q:Kd}{b:Bool} (h:memC o=false):¬ inK o x q=some b:=by
 intro e
 cases o<;>first | exact yT h | exact gi e | (cases q<;>first | exact gi e | (cases x<;>exact gi e))
@[simp] noncomputable def kI (o:Cm) (x y:W) (h:HH):Option (W×HH):=match y with
 | .k kvs=>(inK o x kvs).map fun z=>(.p (.bl z),h)
 | y=>match rd x h,rd y h with
  | some d,some e=>(gE o d e).map fun z=>(.p (.bl z),h)
  | _,_=>none
noncomputable def atT (kvs:List (Str×D)) (y:W):Option D:=match y with
 | .p (.str s)=>gj s kvs
 | _=>none
noncomputable def atL (kvs:List (Ky×D)) (y:W):Option D:=match y with
 | .p d=>(jB d).bind (dZ kvs)
 | _=>none
noncomputable def atK (q:Kd) (y:W):Option D:=match q with
 | .t kvs=>atT kvs y
 | .l kvs=>atL kvs y
@[simp] theorem QS (kvs:List (Str×D)) (x:Str):atK (.t kvs) (.p (.str x))=gj x kvs:=rfl
@[simp] theorem QT (kvs:List (Ky×D)) (i:Int):atK (.l kvs) (.p (.int i))=dZ kvs (.inl i):=rfl
@[simp] theorem QU (kvs:List (Str×D)) (x:Str):inK .mem (.p (.str x)) (.t kvs)=some (gj x kvs).isSome:=rfl
@[simp] theorem QV (kvs:List (Str×D)) (x:Str):inK .nmem (.p (.str x)) (.t kvs)=some (!(gj x kvs).isSome):=rfl
@[simp] theorem QW (kvs:List (Ky×D)) (i:Int):inK .mem (.p (.int i)) (.l kvs)=some (dZ kvs (.inl i)).isSome:=rfl
@[simp] noncomputable def D4 (x y:W) (h:HH):Option (W×HH):=match x with
 | .k kvs=>(atK kvs y).map fun z=>(.p z,h)
 | x=>match rd x h,rd y h with
  | some d,some e=>(dF d e).map fun z=>(.p z,h)
  | _,_=>none
@[simp] noncomputable def D5 (x:W) (h:HH):Option (W×HH):=match x with | .p (.int i)=>some (.p (.int (-i)),h) | _=>none
@[simp] noncomputable def D6 (x:W) (h:HH):Option (W×HH):=match x with | .p (.bl b)=>some (.p (.bl (!b)),h) | _=>none
@[simp] noncomputable def D7 (eb:EH) (x:W) (h:HH):Option (W×HH):=match x with | .p (.bl c)=>if c then eb h else some (.p (.bl false),h) | _=>none
@[simp] noncomputable def kOr (eb:EH) (x:W) (h:HH):Option (W×HH):=match x with | .p (.bl c)=>if c then some (.p (.bl true),h) else eb h | _=>none
@[simp] noncomputable def D8 (ea eb:EH) (x:W) (h:HH):Option (W×HH):=match x with | .p (.bl c)=>if c then ea h else eb h | _=>none
@[simp] noncomputable def L0 (o':Cm) (e:D) (z:W) (h:HH):Option (W×HH):=match rd z h with
 | some f=>(gE o' e f).map fun r=>(.p (.bl r),h)
 | none=>none
@[simp] noncomputable def oCh (o o':Cm) (ec:EH) (x y:W) (h:HH):Option (W×HH):=match rd x h,y with
 | some d,.p e=>match gE o d e with
  | some true=>bnd (ec h) (L0 o' e)
  | some false=>some (.p (.bl false),h)
  | none=>none
 | _,_=>none
@[simp] noncomputable def Ib (ws:List W) (h:HH):Option (W×HH):=match dG ws with | some ds=>if ds.length<=lim then some (.p (.tup ds),h) else none | none=>none
@[simp] noncomputable def Ic (mu:Bool) (ws:List W) (h:HH):Option (W×HH):=match dG ws with | some ds=>if ds.length<=lim then some (new mu ds h) else none | none=>none
@[simp] noncomputable def L1 (x:W) (l u:List W) (h:HH):Option (W×HH):=match rd x h,(dG l).bind rB,(dG u).bind rB with
 | some d,some l',some u'=>(vD d l' u').map fun z=>(.p z,h)
 | _,_,_=>none
@[simp] noncomputable def L4 (eu:HH->Option (List W×HH)) (x:W) (l:List W) (h:HH):Option (W×HH):=bnd (eu h) (L1 x l)
@[simp] noncomputable def L5 (el eu:HH->Option (List W×HH)) (x:W) (h:HH):Option (W×HH):=bnd (el h) (L4 eu x)
@[simp] noncomputable def Pr (x:W) (h:HH):Option (W×HH):=match rd x h with
 | some (.tup xs)=>some (.p (.tup xs.reverse),h)
 | some (.lst xs)=>some (.p (.lst xs.reverse),h)
 | _=>none
noncomputable def ug (k:Int) (xs:List D):List D:=(Vq (Sd none none (some k) xs.length).1 (Sd none none (some k) xs.length).2.1 (Sd none none (some k) xs.length).2.2).filterMap fun i=>xs[i]?
@[simp] noncomputable def Ie (mu:Bool) (k:Int) (x:W) (h:HH):Option (W×HH):=match rd x h with
 | some (.lst xs)=>some (new mu (ug k xs) h)
 | _=>none
@[simp] noncomputable def kBi (b:Bi) (mu:Bool) (ws:List W) (h:HH):Option (W×HH):=match rds ws h with
 | some ds=>match biD b ds with
  | some d=>if mu then (match d with | .lst xs=>some (new true xs h) | _=>none) else some (.p d,h)
  | none=>none
 | none=>none
noncomputable def pZ (x:W) (h:HH):Bool:=match x with
 | .r n=>(lat h n).isSome
 | .k (.l _)=>false
 | _=>true
@[simp] theorem Pu (n:Nat) (h:HH):pZ (.r n) h=(lat h n).isSome:=rfl
@[simp] theorem Pv (d:D) (h:HH):pZ (.p d) h=true:=rfl
@[simp] theorem Pw (d:List (Str×D)) (h:HH):pZ (.k (.t d)) h=true:=rfl
@[simp] noncomputable def kMe (m:Me) (ea:HH->Option (List W×HH)) (x:W) (h:HH):Option (W×HH):=if pZ x h then bnd (ea h) (meW m x) else none
@[simp] noncomputable def kLs (mu:Bool) (sr:Sr) (ws:List W) (h:HH):Option (W×HH):=match (rds ws h).bind (gC sr) with
 | some ds=>if ds.length<=lim then some (new mu ds h) else none
 | none=>none
@[simp] noncomputable def qa (w:W) (h:HH):Option (Option D×HH):=match w with | .p d=>some (some d,h) | _=>none
noncomputable def lu (ee:EH) (cs:List W) (h:HH):Option (Option D×HH):=match cs with
 | []=>bnd (ee h) qa
 | [.p (.bl true)]=>bnd (ee h) qa
 | [.p (.bl false)]=>some (none,h)
 | _=>none
@[simp] theorem Oo (ee:EH) (h:HH):lu ee [] h=bnd (ee h) qa:=rfl
@[simp] theorem Oq (ee:EH) (h:HH):lu ee [.p (.bl true)] h=bnd (ee h) qa:=rfl
@[simp] theorem Os (ee:EH) (h:HH):lu ee [.p (.bl false)] h=some (none,h):=rfl
@[simp] noncomputable def eW (ec:Sl->HH->Option (List W×HH)) (ee:Sl->EH) (fs:Sl) (xs:List D) (h:HH):Option (Option D×HH) :=
 bnd (ec (xs.map eV++fs) h) (lu (ee (xs.map eV++fs)))
@[simp] noncomputable def gX (mu:Bool) (out:List D) (h:HH):Option (W×HH):=if out.length<=lim then some (new mu out h) else none
noncomputable def d7 (f:Str):List (Str×W)->Option W
 | []=>none
 | (x,w) :: r=>if f=x then some w else d7 f r
noncomputable def d9 (f:Str) (w:W):List (Str×W)->List (Str×W)
 | []=>[(f,w)]
 | (x,u) :: r=>if f=x then (f,w) :: r else (x,u) :: d9 f w r
@[simp] theorem L6 (f:Str):d7 f []=none:=rfl
@[simp] theorem qF (f x:Str) (w:W) (r:List (Str×W)):d7 f ((x,w) :: r)=if f=x then some w else d7 f r:=rfl
@[simp] theorem L7 (f:Str) (w:W):d9 f w []=[(f,w)]:=rfl
@[simp] theorem yY (f x:Str) (w u:W) (r:List (Str×W)):d9 f w ((x,u) :: r)=if f=x then (f,w) :: r else (x,u) :: d9 f w r:=rfl
noncomputable def attrOk:W->Bool
 | .p _=>true
 | .r _=>true
 | .k _=>false
 | .o _=>true
 | .c _ _=>false
 | .x _=>false
@[simp] theorem L8 (d:D):attrOk (.p d)=true:=rfl
@[simp] theorem Ma (n:Nat):attrOk (.r n)=true:=rfl
@[simp] theorem Mb (n:Nat):attrOk (.o n)=true:=rfl
noncomputable def D9 (f:Str) (x:W) (h:HH):Option (W×HH):=match x with
 | .o n=>match oat h n with
  | some (_,fs)=>(d7 f fs).map fun w=>(w,h)
  | none=>none
 | _=>none
@[simp] theorem Ig (f:Str) (n:Nat) (h:HH):D9 f (.o n) h=match oat h n with
 | some (_,fs)=>(d7 f fs).map fun w=>(w,h)
 | none=>none:=rfl
noncomputable def vH (F:FK->List W->HH->Option (W×HH)) (q:FK) (n:Nat) (ws:List W) (h:HH):Option (W×HH):=F q (.o n :: ws) h
@[simp] theorem KG (F:FK->List W->HH->Option (W×HH)) (q:FK) (n:Nat) (ws:List W) (h:HH):vH F q n ws h=F q (.o n :: ws) h:=rfl
noncomputable def AI (F:FK->List W->HH->Option (W×HH)) (m:Str) (ea:HH->Option (List W×HH)) (x:W) (h:HH):Option (W×HH):=match x with
 | .o n=>match oat h n with
  | some (c,fs)=>if (d7 m fs).isNone then bnd (ea h) (vH F (.m c m) n) else none
  | none=>none
 | _=>none
@[simp] theorem Ea (F:FK->List W->HH->Option (W×HH)) (m:Str) (ea:HH->Option (List W×HH)) (n:Nat) (h:HH):AI F m ea (.o n) h=match oat h n with
 | some (c,fs)=>if (d7 m fs).isNone then bnd (ea h) (vH F (.m c m) n) else none
 | none=>none:=rfl
noncomputable def xh (n:Nat) (x:W) (h:HH):Option (W×HH):=match x with
 | .p .non=>some (.o n,h)
 | _=>none
@[simp] theorem Ot (n:Nat) (h:HH):xh n (.p .non) h=some (.o n,h):=rfl
noncomputable def GH (F:FK->List W->HH->Option (W×HH)) (c:Str) (ws:List W) (h:HH):Option (W×HH):=bnd (F (.m c "__init__") (.o h.length :: ws) (h++[.o c []])) (xh h.length)
@[simp] theorem AJ (F:FK->List W->HH->Option (W×HH)) (c:Str) (ws:List W) (h:HH):GH F c ws h=bnd (F (.m c "__init__") (.o h.length :: ws) (h++[.o c []])) (xh h.length):=rfl
noncomputable def gY:List W->Bool
 | []=>true
 | .p _ :: r=>gY r
 | _=>false
open Classical in
noncomputable def chk (q:Nat) (ds:List D) (f:List D->HH->Option (Option D×HH)) (xs:List D) (h:HH):Option (Option D×HH):=match f xs h with
 | some (o,h')=>if lat h' q=some ds then some (o,h') else none
 | none=>none
noncomputable def vI (mu:Bool) (sr:Sr) (n:Nat) (f:List D->HH->Option (Option D×HH)) (ws:List W) (ds:List D) (h:HH):Option (W×HH):=match ws,sr with
 | [.r q],.seq=>bnd (dU (chk q ds f) n ds h) (gX mu)
 | _,_=>none
theorem AK (mu:Bool) (n:Nat) (f:List D->HH->Option (Option D×HH)) (q:Nat) (ds:List D) (h:HH):vI mu .seq n f [.r q] ds h=bnd (dU (chk q ds f) n ds h) (gX mu):=rfl
@[simp] noncomputable def mU (mu:Bool) (sr:Sr) (n:Nat) (fs:Option Sl) (ec:Sl->HH->Option (List W×HH)) (ee:Sl->EH) (ws:List W) (h:HH):Option (W×HH) :=
 match (rds ws h).bind (gC sr),fs with
 | some ds,some fs=>if gY ws then bnd (dU (eW ec ee fs) n ds h) (gX mu) else vI mu sr n (eW ec ee fs) ws ds h
 | _,_=>none
@[simp] noncomputable def jH (w:W) (ws:List W) (h:HH):Option (List W×HH):=some (w :: ws,h)
@[simp] noncomputable def ly (er:HH->Option (List W×HH)) (w:W) (h:HH):Option (List W×HH):=bnd (er h) (jH w)
@[simp] noncomputable def frees (s:Sl):List (Nat×Str)->Option Sl
 | []=>some []
 | q :: r=>match s[q.1]? with
  | some w=>(frees s r).map (w :: ·)
  | none=>none
noncomputable def caps (s:Sl):List (Nat×Str)->Option (List Cp)
 | []=>some []
 | q :: r=>match s[q.1]? with
  | some (some w)=>(tW w).bind fun x=>(caps s r).map (x :: ·)
  | _=>none
@[simp] theorem Mc (s:Sl):caps s []=some []:=rfl
@[simp] theorem yZ (s:Sl) (q:Nat×Str) (r:List (Nat×Str)):caps s (q :: r)=match s[q.1]? with
 | some (some w)=>(tW w).bind fun x=>(caps s r).map (x :: ·)
 | _=>none:=rfl
noncomputable def noC:List W->Bool
 | []=>true
 | .p _ :: r=>noC r
 | .r _ :: r=>noC r
 | .k _ :: _=>false
 | .o _ :: r=>noC r
 | .c _ _ :: _=>false
 | .x _ :: _=>false
@[simp] theorem Ou:noC []=true:=rfl
@[simp] theorem QX (d:D) (r:List W):noC (.p d :: r)=noC r:=rfl
@[simp] theorem QY (d:Nat) (r:List W):noC (.r d :: r)=noC r:=rfl
@[simp] theorem QZ (d:Nat) (r:List W):noC (.o d :: r)=noC r:=rfl
noncomputable def rG (F:FK->List W->HH->Option (W×HH)) (o:Option (Option W)) (ws:List W) (h:HH):Option (W×HH):=match o with
 | some (some (.c k cs))=>if noC ws then F k (ws++cs.map Cp.w) h else none
 | _=>none
@[simp] theorem Mf (F:FK->List W->HH->Option (W×HH)) (k:FK) (cs:List Cp) (ws:List W) (h:HH):rG F (some (some (.c k cs))) ws h=if noC ws then F k (ws++cs.map Cp.w) h else none:=rfl
noncomputable def AL (w:W) (h:HH):Option (W×HH):=match w with
 | .c _ _=>none
 | .x _=>none
 | .k _=>none
 | w=>some (w,h)
@[simp] theorem Px (d:D) (h:HH):AL (.p d) h=some (.p d,h):=rfl
@[simp] theorem Py (n:Nat) (h:HH):AL (.r n) h=some (.r n,h):=rfl
@[simp] theorem Pz (n:Nat) (h:HH):AL (.o n) h=some (.o n,h):=rfl
noncomputable def rH (F:FK->List W->HH->Option (W×HH)) (q:FK) (n:Nat) (L:Nat) (cs:Option (List Cp)) (ws:List W) (h:HH):Option (W×HH):=match cs with
 | some cs=>bnd (F q (.o n :: (ws++[.c (.l L) cs])) h) AL
 | none=>none
@[simp] theorem y9 (F:FK->List W->HH->Option (W×HH)) (q:FK) (n:Nat) (L:Nat) (cs:List Cp) (ws:List W) (h:HH):rH F q n L (some cs) ws h=bnd (F q (.o n :: (ws++[.c (.l L) cs])) h) AL:=rfl
noncomputable def vJ (F:FK->List W->HH->Option (W×HH)) (m:Str) (ea:HH->Option (List W×HH)) (L:Nat) (cs:Option (List Cp)) (x:W) (h:HH):Option (W×HH):=match x with
 | .o n=>match oat h n with
  | some (c,fs)=>if (d7 m fs).isNone then bnd (ea h) (rH F (.m c m) n L cs) else none
  | none=>none
 | _=>none
@[simp] theorem AM (F:FK->List W->HH->Option (W×HH)) (m:Str) (ea:HH->Option (List W×HH)) (L:Nat) (cs:Option (List Cp)) (n:Nat) (h:HH):vJ F m ea L cs (.o n) h=match oat h n with
 | some (c,fs)=>if (d7 m fs).isNone then bnd (ea h) (rH F (.m c m) n L cs) else none
 | none=>none:=rfl
noncomputable def Eb (n:Nat) (y z:W) (h:HH):Option (W×HH):=match y,z with
 | .p k,.p d=>(dat h n).bind fun kvs=>(jB k).map fun q=>(.p ((dZ kvs q).getD d),h)
 | _,_=>none
@[simp] theorem Ih (n:Nat) (k d:D) (h:HH):Eb n (.p k) (.p d) h=(dat h n).bind fun kvs=>(jB k).map fun q=>(.p ((dZ kvs q).getD d),h):=rfl
noncomputable def Ii (ed:EH) (n:Nat) (y:W) (h:HH):Option (W×HH):=bnd (ed h) (Eb n y)
@[simp] theorem Ec (ed:EH) (n:Nat) (y:W) (h:HH):Ii ed n y h=bnd (ed h) (Eb n y):=rfl
noncomputable def Mg (ek ed:EH) (x:W) (h:HH):Option (W×HH):=match x with
 | .r n=>if (dat h n).isSome then bnd (ek h) (Ii ed n) else none
 | _=>none
@[simp] theorem Ij (ek ed:EH) (n:Nat) (h:HH):Mg ek ed (.r n) h=if (dat h n).isSome then bnd (ek h) (Ii ed n) else none:=rfl
noncomputable def Ik (c cn:Str):Bool:=cn==c||cn=="TapeError"||cn=="ValueError"
noncomputable def PB (cn:Str) (x:W) (h:HH):Option (W×HH):=match x with
 | .x c=>some (.p (.bl (Ik c cn)),h)
 | _=>none
@[simp] theorem PC (cn c:Str) (h:HH):PB cn (.x c) h=some (.p (.bl (Ik c cn)),h):=rfl
noncomputable def xj:D->Option (Ky×D)
 | .tup [k,v]=>(jB k).map fun y=>(y,v)
 | _=>none
noncomputable def gZ:List D->Option (List (Ky×D))
 | []=>some []
 | d :: r=>(xj d).bind fun p=>(gZ r).map (p :: ·)
@[simp] theorem Il:gZ []=some []:=rfl
@[simp] theorem Mh (i:Int) (v:D) (r:List D):gZ (.tup [.int i,v] :: r)=(gZ r).map ((.inl i,v) :: ·):=rfl
noncomputable def uh:List (Ky×D)->Option (List Int)
 | []=>some []
 | (.inl k,_) :: r=>(uh r).map (k :: ·)
 | (.inr _,_) :: _=>none
noncomputable def kDk (k:Dk) (x:W) (h:HH):Option (W×HH):=match k,x with
 | .of,.p (.lst ds)=>(gZ ds).bind fun ps=>if ps.length<=lim then some (.k (.l (ps.foldl (fun c p=>gU c p.1 p.2) [])),h) else none
 | .ks,.k (.l kvs)=>some (.p (.lst (kvs.map fun q=>kH q.1)),h)
 | .so,.k (.l kvs)=>(uh kvs).bind fun ns=>if ns.length < 64 then some (.p (.lst ((sortI ns).map D.int)),h) else none
 | .it,.r n=>(dat h n).map fun kvs=>(.p (.lst (fW kvs)),h.set n .z)
 | _,_=>none
@[simp] theorem vK (ds:List D) (h:HH):kDk .of (.p (.lst ds)) h=(gZ ds).bind fun ps=>if ps.length<=lim then some (.k (.l (ps.foldl (fun c p=>gU c p.1 p.2) [])),h) else none:=rfl
@[simp] theorem Im (kvs:List (Ky×D)) (h:HH):kDk .ks (.k (.l kvs)) h=some (.p (.lst (kvs.map fun q=>kH q.1)),h):=rfl
@[simp] theorem Io (kvs:List (Ky×D)) (h:HH):kDk .so (.k (.l kvs)) h=(uh kvs).bind fun ns=>if ns.length < 64 then some (.p (.lst ((sortI ns).map D.int)),h) else none:=rfl
@[simp] theorem Ip (n:Nat) (h:HH):kDk .it (.r n) h=(dat h n).map fun kvs=>(.p (.lst (fW kvs)),h.set n .z):=rfl
noncomputable def vL (b:List (Ky×D)):List (Ky×D)->Bool
 | []=>true
 | (k,d) :: r=>match dZ b k with
  | some y=>eqv d y&&vL b r
  | none=>false
noncomputable def eqK (a b:List (Ky×D)):Bool:=a.length==b.length&&vL b a
noncomputable def Ed (x y:W) (h:HH):Option (W×HH):=match x,y with
 | .k (.l a),.k (.l b)=>if (a.all fun p=>dok 100 p.2)=true then some (.p (.bl (!eqK a b)),h) else none
 | _,_=>none
@[simp] theorem rJ (a b:List (Ky×D)) (h:HH):Ed (.k (.l a)) (.k (.l b)) h=if (a.all fun p=>dok 100 p.2)=true then some (.p (.bl (!eqK a b)),h) else none:=rfl
section
variable (F:FK->List W->HH->Option (W×HH)) (G:Str->Option W)
mutual
@[simp] noncomputable def ev:E->Sl->HH->Option (W×HH)
 | .var i,s,h=>match s[i]? with | some (some w)=>some (w,h) | _=>none
 | .cst d,_,h=>some (.p d,h)
 | .glo x,_,h=>(G x).map fun w=>(w,h)
 | .bin o a b,s,h=>bnd (ev a s h) (k2 (ev b s) (pY o))
 | .neg a,s,h=>bnd (ev a s h) D5
 | .not a,s,h=>bnd (ev a s h) D6
 | .and a b,s,h=>bnd (ev a s h) (D7 (ev b s))
 | .or a b,s,h=>bnd (ev a s h) (kOr (ev b s))
 | .cmp o a b,s,h=>bnd (ev a s h) (k2 (ev b s) (kI o))
 | .chain o o' a b c,s,h=>bnd (ev a s h) (k2 (ev b s) (oCh o o' (ev c s)))
 | .ite c a b,s,h=>bnd (ev c s h) (D8 (ev a s) (ev b s))
 | .tup as,s,h=>bnd (evs as s h) Ib
 | .lst mu as,s,h=>bnd (evs as s h) (Ic mu)
 | .idx a i,s,h=>bnd (ev a s h) (k2 (ev i s) D4)
 | .slc a lo hi,s,h=>bnd (ev a s h) (L5 (evs lo s) (evs hi s))
 | .rvs a,s,h=>bnd (ev a s h) Pr
 | .stp mu k a,s,h=>bnd (ev a s h) (Ie mu k)
 | .call f as,s,h=>bnd (evs as s h) (F (.f f))
 | .fld a f,s,h=>bnd (ev a s h) (D9 f)
 | .meth o m as,s,h=>bnd (ev o s h) (AI F m (evs as s))
 | .make c as,s,h=>bnd (evs as s h) (GH F c)
 | .bi b mu as,s,h=>bnd (evs as s h) (kBi b mu)
 | .lsr mu sr as,s,h=>bnd (evs as s h) (kLs mu sr)
 | .me m o as,s,h=>bnd (ev o s h) (kMe m (evs as s))
 | .comp mu sr sa tg fv cond elt,s,h=>bnd (evs sa s h) (mU mu sr tg.length (frees s fv) (evs cond) (ev elt))
 | .callv i as,s,h=>bnd (evs as s h) (rG F s[i]?)
 | .methL o m as L fv,s,h=>bnd (ev o s h) (vJ F m (evs as s) L (caps s fv))
 | .dnew,_,h=>some (.r h.length,h++[.d []])
 | .dgt o k d,s,h=>bnd (ev o s h) (Mg (ev k s) (ev d s))
 | .dk k a,s,h=>bnd (ev a s h) (kDk k)
 | .dne a b,s,h=>bnd (ev a s h) (k2 (ev b s) Ed)
@[simp] noncomputable def evs:Es->Sl->HH->Option (List W×HH)
 | .nil,_,h=>some ([],h)
 | .cons a as,s,h=>bnd (ev a s h) (ly (evs as s))
end
inductive Fl where
 | nx (s:Sl) (h:HH) | rt (w:W) (h:HH) | bk (s:Sl) (h:HH) | ct (s:Sl) (h:HH)
noncomputable def Mi (k:Bool->HH->Option Fl) (w:W) (h:HH):Option Fl:=match w with | .p (.bl b)=>k b h | _=>none
noncomputable def tst (x:Option (W×HH)) (k:Bool->HH->Option Fl):Option Fl:=bnd x (Mi k)
@[simp] theorem iU (b:Bool) (h:HH) (k:Bool->HH->Option Fl):tst (some (.p (.bl b),h)) k=k b h:=rfl
noncomputable def mV (x:Option Fl) (k:Sl->HH->Option Fl):Option Fl:=match x with
 | some (.nx s h)=>k s h
 | y=>y
@[simp] theorem i8 (s:Sl) (h:HH) (k:Sl->HH->Option Fl):mV (some (.nx s h)) k=k s h:=rfl
@[simp] theorem Mj (w:W) (h:HH) (k:Sl->HH->Option Fl):mV (some (.rt w h)) k=some (.rt w h):=rfl
@[simp] theorem Ml (s:Sl) (h:HH) (k:Sl->HH->Option Fl):mV (some (.bk s h)) k=some (.bk s h):=rfl
@[simp] theorem Mm (s:Sl) (h:HH) (k:Sl->HH->Option Fl):mV (some (.ct s h)) k=some (.ct s h):=rfl
@[simp] theorem Iq (k:Sl->HH->Option Fl):mV none k=none:=rfl
noncomputable def g9 (x:Option Fl) (k:Sl->HH->Option Fl):Option Fl:=match x with
 | some (.nx s h)=>k s h
 | some (.ct s h)=>k s h
 | some (.bk s h)=>some (.nx s h)
 | y=>y
@[simp] theorem eY (s:Sl) (h:HH) (k:Sl->HH->Option Fl):g9 (some (.nx s h)) k=k s h:=rfl
@[simp] theorem Mn (s:Sl) (h:HH) (k:Sl->HH->Option Fl):g9 (some (.ct s h)) k=k s h:=rfl
@[simp] theorem Mp (s:Sl) (h:HH) (k:Sl->HH->Option Fl):g9 (some (.bk s h)) k=some (.nx s h):=rfl
@[simp] theorem AN (w:W) (h:HH) (k:Sl->HH->Option Fl):g9 (some (.rt w h)) k=some (.rt w h):=rfl
@[simp] theorem Ir (k:Sl->HH->Option Fl):g9 none k=none:=rfl
@[simp] noncomputable def sets:List (Nat×Str)->List D->Sl->Sl
 | (i,_) :: r,d :: ds,s=>sets r ds (s.set i (some (.p d)))
 | _,_,s=>s
noncomputable def Iu (b:Sl->HH->Option Fl) (again:Sl->HH->Option Fl) (s:Sl) (t:Bool) (h:HH):Option Fl:=if t then g9 (b s h) again else some (.nx s h)
@[simp] theorem mq (b again:Sl->HH->Option Fl) (s:Sl) (h:HH):Iu b again s true h=g9 (b s h) again:=rfl
@[simp] theorem mw (b again:Sl->HH->Option Fl) (s:Sl) (h:HH):Iu b again s false h=some (.nx s h):=rfl
noncomputable def eX (c:Sl->HH->Option (W×HH)) (b:Sl->HH->Option Fl):Nat->Sl->HH->Option Fl
 | 0,_,_=>none
 | n+1,s,h=>tst (c s h) (Iu b (eX c b n) s)
@[simp] noncomputable def dJ (b:Sl->HH->Option Fl) (tg:List (Nat×Str)):List D->Sl->HH->Option Fl
 | [],s,h=>some (.nx s h)
 | d :: r,s,h=>match target tg.length d with
  | some ds=>g9 (b (sets tg ds s) h) (dJ b tg r)
  | none=>none
noncomputable def turns:Nat:=100000
@[simp] noncomputable def vM (s:Sl) (i:Nat) (w:W) (h:HH):Option Fl:=some (.nx (s.set i (some w)) h)
@[simp] noncomputable def Iv (s:Sl) (xs:List (Nat×Str)) (w:W) (h:HH):Option Fl:=match w with
 | .p d=>match unpack xs.length d with | some ds=>some (.nx (sets xs ds s) h) | none=>none
 | _=>none
@[simp] noncomputable def Mq (s:Sl) (i:Nat) (o:Bin) (w:W) (h:HH):Option Fl:=match s[i]?,w with
 | some (some (.p d)),.p d'=>(oi o d d').map fun z=>.nx (s.set i (some (.p z))) h
 | _,_=>none
@[simp] noncomputable def GI (s:Sl) (n:Nat) (d:D) (q:W) (h:HH):Option Fl:=match q,lat h n with
 | .p (.int j),some xs=>match place xs.length j with
  | some m=>some (.nx s (h.set n (.l (xs.set m d))))
  | none=>none
 | _,_=>none
@[simp] noncomputable def Iw (ek:EH) (s:Sl) (i:Nat) (w:W) (h:HH):Option Fl:=match w,s[i]? with
 | .p d,some (some (.r n))=>bnd (ek h) (GI s n d)
 | _,_=>none
noncomputable def vN (s:Sl) (n:Nat) (d:D) (q:W) (h:HH):Option Fl:=match q with
 | .p k=>(dat h n).bind fun kvs=>(jB k).bind fun y=>if kvs.length < lim then some (.nx s (h.set n (.d (gU kvs y d)))) else none
 | _=>none
@[simp] theorem AO (s:Sl) (n:Nat) (d k:D) (h:HH):vN s n d (.p k) h=(dat h n).bind fun kvs=>(jB k).bind fun y=>if kvs.length < lim then some (.nx s (h.set n (.d (gU kvs y d)))) else none:=rfl
noncomputable def xm (ek:EH) (s:Sl) (i:Nat) (w:W) (h:HH):Option Fl:=match w,s[i]? with
 | .p d,some (some (.r n))=>bnd (ek h) (vN s n d)
 | _,_=>none
@[simp] theorem Ef (ek:EH) (s:Sl) (i:Nat) (d:D) (h:HH):xm ek s i (.p d) h=match s[i]? with
 | some (some (.r n))=>bnd (ek h) (vN s n d)
 | _=>none:=by
 unfold xm
 cases s[i]? with
 | none=>rfl
 | some o=>cases o with
  | none=>rfl
  | some w=>cases w<;>rfl
noncomputable def rK (s:Sl) (f:Str) (v:W) (x:W) (h:HH):Option Fl:=match x with
 | .o n=>match oat h n with
  | some (c,fs)=>if attrOk v&&fs.length < 1000 then some (.nx s (h.set n (.o c (d9 f v fs)))) else none
  | none=>none
 | _=>none
@[simp] theorem AQ (s:Sl) (f:Str) (v:W) (n:Nat) (h:HH):rK s f v (.o n) h=match oat h n with
 | some (c,fs)=>if attrOk v&&fs.length < 1000 then some (.nx s (h.set n (.o c (d9 f v fs)))) else none
 | none=>none:=rfl
noncomputable def AR (eo:EH) (s:Sl) (f:Str) (v:W) (h:HH):Option Fl:=bnd (eo h) (rK s f v)
@[simp] theorem AS (eo:EH) (s:Sl) (f:Str) (v:W) (h:HH):AR eo s f v h=bnd (eo h) (rK s f v):=rfl
noncomputable def rL (s:Sl) (f:Str) (op:Bin) (n:Nat) (c:Str) (d:D) (v:W) (h:HH):Option Fl:=match v,oat h n with
 | .p e,some (c',fs)=>match oi op d e with
  | some z=>if c'=c/\fs.length < 1000 then some (.nx s (h.set n (.o c' (d9 f (.p z) fs)))) else none
  | none=>none
 | _,_=>none
@[simp] theorem AU (s:Sl) (f:Str) (op:Bin) (n:Nat) (c:Str) (d e:D) (h:HH):rL s f op n c d (.p e) h=match oat h n with
 | some (c',fs)=>match oi op d e with
  | some z=>if c'=c/\fs.length < 1000 then some (.nx s (h.set n (.o c' (d9 f (.p z) fs)))) else none
  | none=>none
 | none=>none:=by unfold rL;cases oat h n<;>rfl
noncomputable def xo (ee:EH) (s:Sl) (f:Str) (op:Bin) (x:W) (h:HH):Option Fl:=match x with
 | .o n=>match oat h n with
  | some (c,fs)=>match d7 f fs with
   | some (.p d)=>bnd (ee h) (rL s f op n c d)
   | _=>none
  | none=>none
 | _=>none
@[simp] theorem Eg (ee:EH) (s:Sl) (f:Str) (op:Bin) (n:Nat) (h:HH):xo ee s f op (.o n) h=match oat h n with
 | some (c,fs)=>match d7 f fs with
  | some (.p d)=>bnd (ee h) (rL s f op n c d)
  | _=>none
 | none=>none:=rfl
@[simp] noncomputable def kEx (s:Sl) (_:W) (h:HH):Option Fl:=some (.nx s h)
@[simp] noncomputable def AV (w:W) (h:HH):Option Fl:=some (.rt w h)
@[simp] noncomputable def kIf (fa fb:HH->Option Fl) (t:Bool) (h:HH):Option Fl:=if t then fa h else fb h
@[simp] noncomputable def kFor (b:Sl->HH->Option Fl) (tg:List (Nat×Str)) (sr:Sr) (s:Sl) (ws:List W) (h:HH):Option Fl:=match (rds ws h).bind (gC sr) with
 | some ds=>if gY ws then dJ b tg ds s h else none
 | none=>none
@[simp] noncomputable def evS:S->Sl->HH->Option Fl
 | .nil,s,h=>some (.nx s h)
 | .seq a b,s,h=>mV (evS a s h) (evS b)
 | .set i e,s,h=>bnd (ev F G e s h) (vM s i)
 | .unp xs e,s,h=>bnd (ev F G e s h) (Iv s xs)
 | .aug i o e,s,h=>bnd (ev F G e s h) (Mq s i o)
 | .put i k e,s,h=>bnd (ev F G e s h) (Iw (ev F G k s) s i)
 | .wC i k e,s,h=>bnd (ev F G e s h) (xm (ev F G k s) s i)
 | .setf o f e,s,h=>bnd (ev F G e s h) (AR (ev F G o s) s f)
 | .augf o f op e,s,h=>bnd (ev F G o s h) (xo (ev F G e s) s f op)
 | .ex e,s,h=>bnd (ev F G e s h) (kEx s)
 | .ret e,s,h=>bnd (ev F G e s h) AV
 | .ife c a b,s,h=>tst (ev F G c s h) (kIf (evS a s) (evS b s))
 | .whl c b,s,h=>eX (ev F G c) (evS b) turns s h
 | .for tg sr sa b,s,h=>bnd (evs F G sa s h) (kFor (evS b) tg sr s)
 | .brk,s,h=>some (.bk s h)
 | .cnt,s,h=>some (.ct s h)
 | .bad,_,_=>none
 | .rai _ _,_,_=>none
open Classical in
noncomputable def fin (h:HH) (w:W) (h':HH):Option (W×HH) :=
 if h'.length=h.length then some (w,h')
 else if h'.take h.length=h then (match w with
  | .p d=>some (.p d,h)
  | .r n=>if n < h.length then some (.r n,h) else (lat h' n).map fun xs=>(.p (.lst xs),h)
  | .o n=>if n < h.length then some (.o n,h) else some (.o n,h')
  | .k _=>none
  | .c _ _=>none
  | .x _=>none)
 else some (w,h')
@[simp] noncomputable def iV (n:Nat) (ws:List W):Sl:=ws.map some++RN (n - ws.length) none
noncomputable def oO (x:Option Fl) (k:W->HH->Option (W×HH)):Option (W×HH):=match x with
 | some (.rt w h)=>k w h
 | some (.nx _ h)=>k (.p .non) h
 | _=>none
@[simp] theorem Ow (w:W) (h:HH) (k:W->HH->Option (W×HH)):oO (some (.rt w h)) k=k w h:=rfl
@[simp] theorem Ox (s:Sl) (h:HH) (k:W->HH->Option (W×HH)):oO (some (.nx s h)) k=k (.p .non) h:=rfl
@[simp] theorem KH (k:W->HH->Option (W×HH)):oO none k=none:=rfl
end
section
variable (T:FK->Option Fn) (G:Str->Option W)
noncomputable def runN:Nat->FK->List W->HH->Option (W×HH)
 | 0,_,_,_=>none
 | k+1,f,ws,h=>match T f with
  | some fn=>if ws.length=fn.ps.length then oO (evS (runN k) G fn.body (iV fn.ns.length ws) h) (fin h) else none
  | none=>none
theorem run_eq {T:FK->Option Fn}{G:Str->Option W}{f:FK}{fn:Fn}{ws:List W}{h:HH}{k:Nat} (hT:T f=some fn) (hl:ws.length=fn.ps.length) :
 runN T G (k+1) f ws h=oO (evS (runN T G k) G fn.body (iV fn.ns.length ws) h) (fin h):=by
 rw[runN,hT];exact if_pos hl
end
noncomputable def Eh:Fn:=⟨["state","thing"],["state","thing"],.ret (.call "worth_in" (.cons (.var 0) (.cons (.var 1) .nil)))⟩
noncomputable def PD:Fn:=⟨["state","thing","worth"],["state","thing","worth"],.ret (.cmp .ne (.call "worth_in" (.cons (.var 0) (.cons (.var 1) .nil))) (.var 2))⟩
noncomputable def PF:Fn:=⟨["state","thing","worth"],["state","thing","worth"],.ret (.cmp .ne (.call "worth_in" (.cons (.var 0) (.cons (.var 1) .nil))) (.var 2))⟩
noncomputable def PJ:Fn:=⟨["state","term"],["state","term"],.ret (.call "reckoned" (.cons (.var 1) (.cons (.var 0) .nil)))⟩
noncomputable def PK:Fn:=⟨["state","term"],["state","term"],.ret (.cmp .ne (.call "reckoned" (.cons (.var 1) (.cons (.var 0) .nil))) (.cst (.int 0)))⟩
noncomputable def PL:Fn:=⟨["state","term"],["state","term"],.ret (.cmp .ne (.call "reckoned" (.cons (.var 1) (.cons (.var 0) .nil))) (.cst (.int 0)))⟩
noncomputable def PM:Fn:=⟨["state"],["state"],.ret (.idx (.var 0) (.glo "ROW"))⟩
noncomputable def PN:Fn:=⟨["state","row"],["state","row"],.ret (.cmp .eq (.idx (.var 0) (.glo "ROW")) (.var 1))⟩
noncomputable def PP:Fn:=⟨["state","number"],["state","number"],.ret (.cmp .gt (.bi .len false (.cons (.idx (.var 0) (.glo "SAID")) .nil)) (.var 1))⟩
noncomputable def PR:Fn:=⟨["state","bound"],["state","bound"],.ret (.cmp .le (.call "open_in" (.cons (.var 0) .nil)) (.var 1))⟩
noncomputable def Mr:Fn:=⟨["state","bound"],["state","bound"],.ret (.cmp .le (.call "open_in" (.cons (.var 0) .nil)) (.var 1))⟩
noncomputable def um:Fn:=⟨["state","wanted"],["state","wanted"],.ret (.and (.cmp .eq (.idx (.var 0) (.glo "NAMES")) (.idx (.var 1) (.glo "NAMES"))) (.cmp .eq (.idx (.var 0) (.glo "CELLS")) (.idx (.var 1) (.glo "CELLS"))))⟩
noncomputable def Ms:Fn:=⟨["state","tape","thing"],["state","tape","thing"],.ret (.cmp .eq (.call "written_next" (.cons (.var 1) (.cons (.var 0) .nil))) (.var 2))⟩
noncomputable def Mt:Fn:=⟨[],[],.ret (.cst .non)⟩
noncomputable def Mu:Fn:=⟨[],[],.ret (.cst .non)⟩
noncomputable def qb (i:Nat):Option Fn:=([Eh,PD,PF,PJ,PK,PL,PM,PN,PP,PR,Mr,um,Ms,Mt,Mu]:List Fn)[i]?
noncomputable def gn:List Str:=["worths_of","last_change","next_change","moments_so","last_so","next_so","visits","last_visit","when_said","next_within","last_within","first_other","writer_of","judged","remade"]
noncomputable def xq (i:Nat):Str:=gn.getD i ""
noncomputable def fu (x:Str):Str:="<"++x++">"
end BT
end
section
namespace BS
open PySem PySem.Spec PyProof.Rows L2
theorem dj {β:Type}{c:Prop} [Decidable c] {a b:β} (h:(if c then some a else none)=some b):c/\a=b:=by
 by_cases z:c
 ·rw[if_pos z] at h;exact ⟨z,Ry h⟩
 ·rw[if_neg z] at h;exact nomatch h
theorem cU {β:Type}{a:β}{P:Prop} (h:(none:Option β)=some a):P:=nomatch h
noncomputable def attrName (f:Str):Bool:=(["program","asked","gap","most","kept","farthest","front","now","origins","branches","tape","named"]:List Str).contains f
noncomputable def uq:BT.Bi->Option (String×(BT.D->Bool))
 | .isInt=>some ("int",BT.isI)
 | .isBool=>some ("bool",BT.isB)
 | .isStr=>some ("str",BT.isS)
 | .isTuple=>some ("tuple",BT.isT)
 | .isList=>some ("list",BT.isL)
 | _=>none
noncomputable def mW (sc:Sx) (x:Str):Bool:=match sc.names.lookup x with
 | some .local=>true
 | some .cell=>true
 | some .free=>true
 | _=>false
noncomputable def dM (sc:Sx) (x:Str):Bool:=sc.names.lookup x==some .globalImplicit
noncomputable def fy (x:Str):Bool:=!(x=="__debug__")&&!(x=="__classdict__")&&!(x=="__name__")
noncomputable def noStar:Rq->Bool
 | .Starred _ _=>false
 | _=>true
noncomputable def lz:Rq->Bool
 | .Slice _ _ _ _=>false
 | _=>true
noncomputable def dB:Rq->Bool
 | .Name _ _=>true
 | .Constant _ _ _=>true
 | .Subscript _ _ _=>true
 | .Attribute _ _ _=>true
 | .Call (.Attribute _ _ _) _ _ _=>true
 | _=>false
noncomputable def Mv:BT.Bin->UJ
 | .add=>.Add
 | .sub=>.Sub
 | .mul=>.Mult
 | .mod=>.Mod
 | .fdiv=>.FloorDiv
 | .pow=>.Pow
noncomputable def GJ (o:BT.Bin) (op:UJ):Bool:=decide (op=Mv o)
noncomputable def PU:BT.Cm->CmpOp
 | .eq=>.Eq
 | .ne=>.NotEq
 | .lt=>.Lt
 | .le=>.LtE
 | .gt=>.Gt
 | .ge=>.GtE
 | .isN=>.Is
 | .notN=>.IsNot
 | .mem=>.In
 | .nmem=>.NotIn
noncomputable def Ei (o:BT.Cm) (op:CmpOp):Bool:=decide (op=PU o)
noncomputable def GK:BT.D->Const->Bool
 | .non,.none=>true
 | .bl a,.bool b=>a==b
 | .int i,.int j=>i==j
 | .str x,.str y=>x==y&&PyData.strOk x
 | _,_=>false
noncomputable def AW:BT.Bi->Bool->Option Str
 | .len,false=>some "len"
 | .abs,false=>some "abs"
 | .int,false=>some "int"
 | .list,_=>some "list"
 | .tuple,false=>some "tuple"
 | .sorted,_=>some "sorted"
 | _,_=>none
noncomputable def GL (b:BT.Bi) (mu:Bool) (x:Str):Bool:=AW b mu==some x
noncomputable def AX:BT.Bi->Str->Bool
 | .min2,x=>x=="min"
 | .max2,x=>x=="max"
 | _,_=>false
noncomputable def Ej:Rq->Option Const
 | .Constant c _ _=>some c
 | _=>none
noncomputable def cInt:Const->Option Int
 | .int j=>some j
 | _=>none
noncomputable def unE:Rq->Option Rq
 | .UnaryOp o e _=>if o=.USub then some e else none
 | _=>none
noncomputable def rM (k:Int) (e:Rq):Bool:=((Ej e).bind cInt==some k&&decide (0 < k))||(((unE e).bind Ej).bind cInt==some (-k)&&decide (k < 0))
noncomputable def AY:BT.Me->Str
 | .append=>"append"
 | .pop=>"pop"
 | .extend=>"extend"
 | .tindex=>"index"
 | .sindex=>"index"
 | .dget=>"get"
 | .count=>"count"
 | .lindex=>"index"
noncomputable def vO:BT.E->Bool
 | .glo _=>true
 | _=>false
noncomputable def Iz (m:BT.Me) (o:BT.E):Bool:=match m with
 | .append=>true
 | .pop=>true
 | .extend=>true
 | .sindex=>true
 | .tindex=>vO o
 | .dget=>false
 | .count=>true
 | .lindex=>true
noncomputable def GM (c:Str):Bool:=(["NoMoment","NoThing","NoRun","NoText"]:List Str).contains c
noncomputable def Q0 (cn:Str):Bool:=GM cn||cn=="ValueError"
noncomputable def fX (N:List Str):Bool:=!N.contains "_law_flags"
noncomputable def tOK:BT.E->Bool
 | .ite _ _ _=>false
 | .not a=>tOK a
 | .and a b=>tOK a&&tOK b
 | .or a b=>tOK a&&tOK b
 | .tup _=>false
 | .lst _ _=>false
 | .comp _ _ _ _ _ _ _=>false
 | _=>true
noncomputable def kJ:Rq->Bool
 | .Set _ _ _=>false
 | _=>true
noncomputable def qG:BT.Sr->Rq->Bool
 | .zip2,.Tuple _ _ _=>true
 | .enu,.Tuple _ _ _=>true
 | .itm,.Tuple _ _ _=>true
 | .zip2,_=>false
 | .enu,_=>false
 | .itm,_=>false
 | _,_=>true
noncomputable def dY (scope sc:Sx):Sx :=
 { scope with names:=scope.names.map fun (n,k)=>if (k==.free&&sc.kind==.function&&sc.names.lookup n==some .cell) then (n,.cell) else (n,k) }
noncomputable def nmE:Rq->Option Str
 | .Name y _=>some y
 | _=>none
noncomputable def IA:Rq->List Rq
 | .Tuple xs _ _=>xs
 | _=>[]
noncomputable def ur (sc:Sx) (tg:List Str) (te:Rq):Bool:=((tg.map some==[nmE te])||(Nat.ble 2 tg.length&&tg.map some==(IA te).map nmE))&&tg.all fun x=>sc.names.lookup x==some .local
noncomputable def kK:List Str->Bool
 | []=>true
 | x :: r=>!r.contains x&&kK r
noncomputable def kL (sc:Sx) (N:List Str) (tg:List Str) (fv:List (Nat×Str)) (scope:Sx):Bool :=
 scope.kind==.function&&sc.kind==.function&&scope.names.all (fun y=>!(y.2==.cell))&&scope.names.all (fun y=>!(y.2==.local)||scope.names.lookup y.1==some .local) &&
 scope.names.all (fun y=>!(y.2==.free)||sc.names.lookup y.1==some .cell) &&
 fv.all (fun q=>N[q.1]?==some q.2&&scope.names.contains (q.2,.free)&&sc.names.lookup q.2==some .cell&&(dY scope sc).names.lookup q.2==some .cell)&&kK (tg++fv.map (·.2))
inductive Tq where
 | e (a:BT.E) (x:Rq) | es (as:BT.Es) (xs:List Rq) | o (as:BT.Es) (x:Option Rq) | c (as:BT.Es) (xs:List Rq) | i (sr:BT.Sr) (sa:BT.Es) (x:Rq)
set_option autoImplicit true in
class inductive CQ:Sx->List Str->Tq->Prop where
 | var (h1:N[i]?=some x) (h2:mW sc x=true) (h3:fy x=true):CQ sc N (.e (.var i) (.Name x p))
 | cst (h:GK d c=true):CQ sc N (.e (.cst d) (.Constant c k p))
 | glo (h2:dM sc x=true) (h3:fy x=true):CQ sc N (.e (.glo x) (.Name x p))
 | bin (h:GJ o op=true) (ha:CQ sc N (.e a l)) (hb:CQ sc N (.e b r)):CQ sc N (.e (.bin o a b) (.BinOp l op r p))
 | neg (ha:CQ sc N (.e a x)):CQ sc N (.e (.neg a) (.UnaryOp .USub x p))
 | not (ha:CQ sc N (.e a x)):CQ sc N (.e (.not a) (.UnaryOp .Not x p))
 | and2 (ha:CQ sc N (.e a x)) (hb:CQ sc N (.e b y)):CQ sc N (.e (.and a b) (.BoolOp .And [x,y] p))
 | and3 (ha:CQ sc N (.e a x)) (hb:CQ sc N (.e b (.BoolOp .And (y :: z :: r) p))):CQ sc N (.e (.and a b) (.BoolOp .And (x :: y :: z :: r) p))
 | or2 (ha:CQ sc N (.e a x)) (hb:CQ sc N (.e b y)):CQ sc N (.e (.or a b) (.BoolOp .Or [x,y] p))
 | or3 (ha:CQ sc N (.e a x)) (hb:CQ sc N (.e b (.BoolOp .Or (y :: z :: r) p))):CQ sc N (.e (.or a b) (.BoolOp .Or (x :: y :: z :: r) p))
 | cmp (h:Ei o op=true) (ha:CQ sc N (.e a l)) (hb:CQ sc N (.e b r)) (hm:VN op r=false):CQ sc N (.e (.cmp o a b) (.Compare l [op] [r] p))
 | chain (h:Ei o op=true) (h':Ei o' op'=true) (ha:CQ sc N (.e a l)) (hb:CQ sc N (.e b r)) (hc:CQ sc N (.e c r')) (hm:lastMarks [op,op'] [r,r']=false):CQ sc N (.e (.chain o o' a b c) (.Compare l [op,op'] [r,r'] p))
 | ite (h:tOK c=true) (hc:CQ sc N (.e c t)) (ha:CQ sc N (.e a x)) (hb:CQ sc N (.e b y)):CQ sc N (.e (.ite c a b) (.IfExp t x y p))
 | tup (h:CQ sc N (.es as es)):CQ sc N (.e (.tup as) (.Tuple es k p))
 | lst (h:CQ sc N (.es as es)):CQ sc N (.e (.lst mu as) (.List es p))
 | idx (ha:CQ sc N (.e a x)) (hi:CQ sc N (.e i sl)) (hs:lz sl=true):CQ sc N (.e (.idx a i) (.Subscript x sl p))
 | slc {lo:BT.Es} (ha:CQ sc N (.e a x)) (hl:CQ sc N (.o lo l)) (hu:CQ sc N (.o hi u)):CQ sc N (.e (.slc a lo hi) (.Subscript x (.Slice l u none p2) p))
 | call (hg:dM sc f=true) (hn:fy f=true) (ha:CQ sc N (.es as es)):CQ sc N (.e (.call f as) (.Call (.Name f np) es [] p))
 | lrng (hu:fX N=true) (hg:dM sc "list"=true) (hg2:dM sc "range"=true) (hs:noStar e=true) (h:CQ sc N (.e a e)) :
  CQ sc N (.e (.lsr mu .rng1 (.cons a .nil)) (.Call (.Name "list" np) [.Call (.Name "range" zp) [e] [] pos] [] p))
 | bi (hu:fX N=true) (hb:GL b mu x=true) (hg:dM sc x=true) (hs:noStar e=true) (ha:CQ sc N (.e a e)):CQ sc N (.e (.bi b mu (.cons a .nil)) (.Call (.Name x np) [e] [] p))
 | inst (hb:uq b=some (c,f)) (hg:dM sc "isinstance"=true) (hg2:dM sc (RM c)=true) (hs:noStar e=true) (ha:CQ sc N (.e a e)) :
  CQ sc N (.e (.bi b false (.cons a .nil)) (.Call (.Name "isinstance" np) [e,.Name (RM c) p2] [] p))
 | me (h1:Iz m o=true) (h2:name=AY m) (h3:dB oe=true) (h6:(apos.endLine==cpos.line)=true) (h7:es.length < 20) (ho:CQ sc N (.e o oe)) (ha:CQ sc N (.es as es)) :
  CQ sc N (.e (.me m o as) (.Call (.Attribute oe name apos) es [] cpos))
 | comp {cond:BT.Es}
  (hu:fX N=true) (hk:kL sc N tg fv scope=true) (ht:ur (dY scope sc) tg te=true) (hz:qG sr te=true) (hs:kJ iter=true) (hi:CQ sc N (.i sr sa iter))
  (hc:CQ (dY scope sc) (tg++fv.map (·.2)) (.c cond ifs)) (he:CQ (dY scope sc) (tg++fv.map (·.2)) (.e elt elt')):CQ sc N (.e (.comp mu sr sa tg fv cond elt) (.ListComp elt' [⟨te,iter,ifs,0⟩] scope pos))
 | fld (hb:dB x=true) (hf:attrName f=true) (ha:CQ sc N (.e a x)):CQ sc N (.e (.fld a f) (.Attribute x f p))
 | meth (h3:dB oe=true) (h6:(apos.endLine==cpos.line)=true) (h7:es.length < 20) (ho:CQ sc N (.e o oe)) (ha:CQ sc N (.es as es)) :
  CQ sc N (.e (.meth o m as) (.Call (.Attribute oe m apos) es [] cpos))
 | stp (hk:rM k se=true) (ha:CQ sc N (.e a x)):CQ sc N (.e (.stp mu k a) (.Subscript x (.Slice none none (some se) p2) p))
 | bi2 (hu:fX N=true) (hb:AX b x=true) (hg:dM sc x=true) (hs1:noStar e1=true) (hs2:noStar e2=true) (h1:CQ sc N (.e a1 e1)) (h2:CQ sc N (.e a2 e2)) :
  CQ sc N (.e (.bi b false (.cons a1 (.cons a2 .nil))) (.Call (.Name x np) [e1,e2] [] p))
 | make (hg:dM sc c=true) (hn:fy c=true) (ha:CQ sc N (.es as es)):CQ sc N (.e (.make c as) (.Call (.Name c np) es [] p))
 | callv (h1:N[i]?=some x) (h2:mW sc x=true) (h3:fy x=true) (ha:CQ sc N (.es as (e :: es))):CQ sc N (.e (.callv i as) (.Call (.Name x np) (e :: es) [] p))
 | dnew:CQ sc N (.e .dnew (.Dict [] [] p))
 | dgt (h3:dB oe=true) (h6:(apos.endLine==cpos.line)=true) (hs1:noStar ke=true) (hs2:noStar de=true) (ho:CQ sc N (.e o oe)) (hk:CQ sc N (.e k ke)) (hd:CQ sc N (.e d de)):CQ sc N (.e (.dgt o k d) (.Call (.Attribute oe "get" apos) [ke,de] [] cpos))
 | dof (hu:fX N=true) (hg:dM sc "dict"=true) (hs:noStar e=true) (h:CQ sc N (.e a e)):CQ sc N (.e (.dk .of a) (.Call (.Name "dict" np) [e] [] p))
 | dso (hu:fX N=true) (hg:dM sc "sorted"=true) (hs:noStar e=true) (h:CQ sc N (.e a e)):CQ sc N (.e (.dk .so a) (.Call (.Name "sorted" np) [e] [] p))
 | dne (ha:CQ sc N (.e a x)) (hb:CQ sc N (.e b y)) (hm:VN .NotEq y=false):CQ sc N (.e (.dne a b) (.Compare x [.NotEq] [y] p))
 | es_nil:CQ sc N (.es .nil [])
 | es_cons (hs:noStar e=true) (ha:CQ sc N (.e a e)) (hr:CQ sc N (.es as es)):CQ sc N (.es (.cons a as) (e :: es))
 | o_nil:CQ sc N (.o .nil none)
 | o_one (ha:CQ sc N (.e a e)):CQ sc N (.o (.cons a .nil) (some e))
 | c_nil:CQ sc N (.c .nil [])
 | c_one (ht:tOK a=true) (ha:CQ sc N (.e a e)):CQ sc N (.c (.cons a .nil) [e])
 | rng1 (hg:dM sc "range"=true) (hs:noStar e=true) (h:CQ sc N (.e a e)):CQ sc N (.i .rng1 (.cons a .nil) (.Call (.Name "range" p) [e] [] pos))
 | rng2 (hg:dM sc "range"=true) (hs:noStar x=true) (hs2:noStar y=true) (ha:CQ sc N (.e a x)) (hb:CQ sc N (.e b y)):CQ sc N (.i .rng2 (.cons a (.cons b .nil)) (.Call (.Name "range" p) [x,y] [] pos))
 | rng3 (hg:dM sc "range"=true) (hs:noStar x=true) (hs2:noStar y=true) (hs3:noStar z=true) (ha:CQ sc N (.e a x)) (hb:CQ sc N (.e b y)) (hc:CQ sc N (.e c z)):CQ sc N (.i .rng3 (.cons a (.cons b (.cons c .nil))) (.Call (.Name "range" p) [x,y,z] [] pos))
 | rev (hg:dM sc "reversed"=true) (hs:noStar e=true) (h:CQ sc N (.e a e)):CQ sc N (.i .rev (.cons a .nil) (.Call (.Name "reversed" p) [e] [] pos))
 | dks (h:CQ sc N (.e a x)):CQ sc N (.i .seq (.cons (.dk .ks a) .nil) x)
 | dit (h3:dB oe=true) (h6:(apos.endLine==pos.line)=true) (ho:CQ sc N (.e o oe)):CQ sc N (.i .itm (.cons (.dk .it o) .nil) (.Call (.Attribute oe "items" apos) [] [] pos))
 | seq (h:CQ sc N (.e a x)):CQ sc N (.i .seq (.cons a .nil) x)
noncomputable abbrev CE' (sc:Sx) (N:List Str) (a:BT.E) (x:Rq):Prop:=CQ sc N (.e a x)
noncomputable abbrev CEs (sc:Sx) (N:List Str) (as:BT.Es) (xs:List Rq):Prop:=CQ sc N (.es as xs)
noncomputable abbrev CC (sc:Sx) (N:List Str) (as:BT.Es) (xs:List Rq):Prop:=CQ sc N (.c as xs)
noncomputable abbrev CI (sc:Sx) (N:List Str) (sr:BT.Sr) (sa:BT.Es) (x:Rq):Prop:=CQ sc N (.i sr sa x)
inductive LPa:Vo->List Str->Prop where
 | one {p:Pos}:LPa ⟨[],[⟨"state",none,p⟩],none,[],[],none,[]⟩ ["state"]
 | two {p q:Pos}:LPa ⟨[],[⟨"row",none,p⟩,⟨"state",none,q⟩],none,[],[],none,[]⟩ ["row","state"]
noncomputable def oQ (ps fs:List Str) (sc:Sx):Bool :=
 sc.kind==.function&&!sc.isCoroutine&&!sc.isGenerator&&sc.names.all (fun y=>!(y.2==.cell))&&ps.all (fun x=>sc.names.lookup x==some .local) &&
 fs.all (fun x=>sc.names.lookup x==some .free&&sc.names.contains (x,.free))&&sc.names.all (fun y=>!(y.2==.free)||fs.contains y.1)&&kK (ps++fs)
noncomputable def za (sc:Sx) (N:List Str) (fv:List (Nat×Str)):Bool:=fv.all fun q=>N[q.1]?==some q.2&&sc.names.lookup q.2==some .cell
inductive CL (sc:Sx) (N:List Str):BT.E->Str->BT.Es->Nat->List (Nat×Str)->Rq->Prop where
 | zero {o bt:BT.E}{m:Str}{L:Nat}{fv:List (Nat×Str)}{oe be:Rq}{apos cpos lp:Pos}{pa:Vo}{scope:Sx}{ns ps:List Str} (hl:BT.qb L=some ⟨ns,ns,.ret bt⟩) (hp:LPa pa ps) (hn:ns=ps++fv.map (·.2)) (hk:oQ ps (fv.map (·.2)) scope=true) (hv:za sc N fv=true)
  (ht:N.contains (BT.fu (BT.xq L))=true) (hc:CE' scope ns bt be) (h3:dB oe=true) (h6:(apos.endLine==cpos.line)=true) (ho:CE' sc N o oe):CL sc N o m .nil L fv (.Call (.Attribute oe m apos) [.Lambda pa be scope lp] [] cpos)
 | one {o bt a:BT.E}{m:Str}{L:Nat}{fv:List (Nat×Str)}{oe be e:Rq}{apos cpos lp:Pos}{pa:Vo}{scope:Sx}{ns ps:List Str} (hl:BT.qb L=some ⟨ns,ns,.ret bt⟩) (hp:LPa pa ps) (hn:ns=ps++fv.map (·.2)) (hk:oQ ps (fv.map (·.2)) scope=true) (hv:za sc N fv=true)
  (ht:N.contains (BT.fu (BT.xq L))=true) (hc:CE' scope ns bt be) (h3:dB oe=true) (h6:(apos.endLine==cpos.line)=true) (ho:CE' sc N o oe) (hs:noStar e=true) (ha:CE' sc N a e):CL sc N o m (.cons a .nil) L fv (.Call (.Attribute oe m apos) [e,.Lambda pa be scope lp] [] cpos)
noncomputable def KT (K:Rj) (a:Rz) (xs:List V):Prop :=
 ∃ (o:Obj) (its:Array Rl) (n:Nat),(K.lookup a=some o/\o.cls=.type "tuple"/\o.data=.seq its n/\its.size<=sizeLine/\c9 xs its.toList)/\o.dict=none
noncomputable def KL (K:Rj) (a:Rz) (xs:List V):Prop:=∃ (its:List Rl) (n:Nat),K.lookup a=some { cls:=.type "list",data:=.seq its.toArray n }/\its.length<=sizeLine/\c9 xs its
noncomputable def LL (K:Rj) (H:Hp) (a:Rz) (xs:List V):Prop:=Rd H a (.lst xs)\/KL K a xs
theorem LL.sq {K:Rj} (h:LL K H a xs):SqL K H a xs:=by
 rcases h with h | ⟨its,n,h1,h2,h3⟩
 ·exact .inl h
 ·exact .inr ⟨_,its.toArray,n,h1,rfl,rfl,rfl,by simpa using h2,by simpa using h3⟩
noncomputable def KD (P:RG) (w:Sb) (K:Rj) (a:Rz) (es:List (Str×V)):Prop :=
 (a==Td)=false/\∃ vs:List (Key×Rl),KV (es.map fun q=>(Sum.inr q.1,q.2)) vs/\∀ h:Heap,K.In h->h.DictOf (dg P w) a vs
mutual
inductive RD (K:Rj) (m:List Rz) (H:Hp):V->BT.D->Prop where
 | non:RD K m H .non .non
 | bl (b:Bool):RD K m H (.bl b) (.bl b)
 | int (i:Int):RD K m H (.int i) (.int i)
 | str (x:Str) (h:PyData.strOk x=true):RD K m H (.str x) (.str x)
 | tup {a:Rz}{vs:List V}{ds:List BT.D} (h:(Rd H a (.tup vs)/\a∉m)\/KT K a vs) (r:RDs K m H vs ds):RD K m H (.ref a) (.tup ds)
 | lst {a:Rz}{vs:List V}{ds:List BT.D} (h:(Rd H a (.lst vs)/\a∉m)\/KL K a vs) (r:RDs K m H vs ds):RD K m H (.ref a) (.lst ds)
inductive RDs (K:Rj) (m:List Rz) (H:Hp):List V->List BT.D->Prop where
 | nil:RDs K m H [] []
 | cons {v:V}{d:BT.D}{vs:List V}{ds:List BT.D} (r:RD K m H v d) (t:RDs K m H vs ds):RDs K m H (v :: vs) (d :: ds)
end
inductive RDk (K:Rj):List (Str×V)->List (Str×BT.D)->Prop where
 | nil:RDk K [] []
 | cons {x:Str}{v:V}{d:BT.D}{es:List (Str×V)}{kvs:List (Str×BT.D)} (r:∀ m H,RD K m H v d) (t:RDk K es kvs):RDk K ((x,v) :: es) ((x,d) :: kvs)
inductive RA (K:Rj) (m:List Rz) (H:Hp):V->BT.W->Prop where
 | p {v:V}{d:BT.D} (r:RD K m H v d):RA K m H v (.p d)
 | r {a:Rz}{n:Nat} (h:m[n]?=some a):RA K m H (.ref a) (.r n)
 | o {a:Rz}{n:Nat} (h:m[n]?=some a):RA K m H (.ref a) (.o n)
noncomputable def Tr (m:List Rz) (H:Hp) (a:Rz) (o:Obj):Prop:=H a=some (.frz o (.own 0))/\a∉m
noncomputable def zb (x:Str):Str:=x++".<locals>."++"<lambda>"
inductive jC (m:List Rz) (H:Hp) (cl:List (Str×Rz)):List Str->List V->Prop where
 | nil:jC m H cl [] []
 | cons {x:Str}{c:Rz}{o:Obj}{u:Rl}{v:V}{xs:List Str}{vs:List V} (h1:cl.lookup x=some c) (h2:Tr m H c o) (h3:o.data=.cell (some u)) (r:RelV v u) (t:jC m H cl xs vs):jC m H cl (x :: xs) (v :: vs)
inductive jz (m:List Rz) (H:Hp) (f:Rz) (L:Nat) (vs:List V):Prop where
 | mk (bt:_) (ps:_) (fs:_) (pa:_) (be:_) (sc:_) (cl:_) (pm:_) (ctv:_) (c':_) (oc:_) (os:_) (t:_) (q:_) (h1:BT.qb L=some ⟨ps++fs,ps++fs,.ret bt⟩) (h2:LPa pa ps) (h3:oQ ps fs sc=true) (h4:CE' sc (ps++fs) bt be) (h5:(∀ x y c,cl.lookup x=some c->cl.lookup y=some c->x=y)) (h6:(∀ x c,cl.lookup x=some c->x∈fs)) (h7:Tr m H f (UM "<lambda>" q pa be sc cl pm c' ctv)) (h8:Tr m H c' oc) (h9:oc.data=.fields os) (h10:os[1]?=some (.str q t)) (h11:jC m H cl fs vs):jz m H f L vs
inductive RCs (K:Rj) (m:List Rz) (H:Hp):List V->List BT.Cp->Prop where
 | nil:RCs K m H [] []
 | cons {v:V}{x:BT.Cp}{vs:List V}{xs:List BT.Cp} (r:RA K m H v x.w) (t:RCs K m H vs xs):RCs K m H (v :: vs) (x :: xs)
noncomputable def TB (K:Rj) (H:Hp):Prop:=∀ x∈BT.gn,∀ c P,Sn K x=some (c,P)->∃ ps,H P=some (.tbl ps)/\TriplesOk ps.toList ∧
 ∀ pos v,UA pos ps.toList=some v->∃ c' oc os t,v=.ref c'/\H c'=some (.frz oc (.own 0))/\oc.data=.fields os/\os[1]?=some (.str (zb x) t)
theorem TB.mono {K:Rj} (h:TB K H) (h1:∀ P ps,H P=some (.tbl ps)->H' P=some (.tbl ps)) (h2:∀ a o vs,o.data=.fields vs->H a=some (.frz o (.own 0))->H' a=some (.frz o (.own 0))):TB K H':=fun x hx c P e=>by
 obtain ⟨ps,e1,e2,e3⟩:=h x hx c P e
 refine ⟨ps,h1 _ _ e1,e2,fun pos v q=>?_⟩
 obtain ⟨c',oc,os,t,q1,q2,q3⟩:=e3 pos v q
 exact ⟨c',oc,os,t,q1,h2 _ _ _ q3.1 q2,q3⟩
noncomputable def CN (K:Rj) (c:Str) (C:Rz):Prop:=Sh K RI c=some (some (.ref C))
structure XT (K:Rj) (c:Str) (C:Rz):Prop where
 ga:R6 K (.ref C) "__getattribute__"=some (some (.builtin "BaseException.__getattribute__"))
 nga:R6 K (.ref C) "__getattr__"=some none
 mrb:Va K C (.type "BaseException")=some true
 dct:Tn K C=true
 fnd:R6 K (.ref C) "__class__"=some (some (.builtin "object.__class__"))
 spc:WU K (.builtin "object.__class__") "__get__"=some (some (.builtin "getset_descriptor.__get__"))
 tak:Xi K (.builtin "object.__class__")=some true
 mro:Va K C (.type "object")=some true
 own:∀ cn,GM cn=true->∃ D,CN K cn D/\SO K (.ref C) (.ref D)=some (BT.Ik c cn)
 val:SO K (.ref C) (.type "ValueError")=some true
noncomputable def excAt (K:Rj) (c:Str) (a:Rz):Heap->Prop:=fun h=>∃ o C,CN K c C/\XT K c C/\h.get? a=some o/\o.cls=.ref C
inductive RKs (K:Rj) (m:List Rz) (H:Hp):List (Key×V)->List (BT.Ky×BT.D)->Prop where
 | nil:RKs K m H [] []
 | cons {k:Key}{v:V}{d:BT.D}{vs:List (Key×V)}{kvs:List (BT.Ky×BT.D)} (hk:RD K m H (kV k) (BT.kH k)) (r:RD K m H v d) (t:RKs K m H vs kvs):RKs K m H ((k,v) :: vs) ((k,d) :: kvs)
inductive RW (P:RG) (w:Sb) (K:Rj) (m:List Rz) (H:Hp):V->BT.W->Prop where
 | p {v:V}{d:BT.D} (r:RD K m H v d):RW P w K m H v (.p d)
 | r {a:Rz}{n:Nat} (h:m[n]?=some a):RW P w K m H (.ref a) (.r n)
 | k {a:Rz}{es:List (Str×V)}{kvs:List (Str×BT.D)} (h:KD P w K a es) (r:RDk K es kvs):RW P w K m H (.ref a) (.k (.t kvs))
 | kl {a:Rz}{o:Obj}{vs:List (Key×V)}{kvs:List (BT.Ky×BT.D)} (h:H a=some (.frz o (.dK vs))/\a∉m) (r:RKs K m H vs kvs):RW P w K m H (.ref a) (.k (.l kvs))
 | o {a:Rz}{n:Nat} (h:m[n]?=some a):RW P w K m H (.ref a) (.o n)
 | c {f:Rz}{L:Nat}{vs:List V}{cs:List BT.Cp} (h:jz m H f L vs) (r:RCs K m H vs cs):RW P w K m H (.ref f) (.c (.l L) cs)
 | x {a:Rz}{c:Str} (h:H a=some (.ext (excAt K c a))) (n:a∉m) (xt:∃ C,XT K c C):RW P w K m H (.ref a) (.x c)
 | g {f:Rz}{x:Str} (h:Sh K RI x=some (some (.ref f))) (r:SC K (.ref f)=true):RW P w K m H (.ref f) (.c (.f x) [])
inductive RFs (K:Rj) (m:List Rz) (H:Hp):List (Str×V)->List (Str×BT.W)->Prop where
 | nil:RFs K m H [] []
 | cons {f:Str}{v:V}{x:BT.W}{vs:List (Str×V)}{fs:List (Str×BT.W)} (r:RA K m H v x) (t:RFs K m H vs fs):RFs K m H ((f,v) :: vs) ((f,x) :: fs)
theorem CN.inj {K:Rj} (h:CN K c C) (h':CN K c C'):C=C':=by
 have e:=h.symm.trans h'
 simpa using e
structure mX (K:Rj) (c:Str) (C:Rz):Prop where
 cn:CN K c C
 cls:Cls K C
 no:∀ f,attrName f=true->jE K C f
noncomputable def jI (K:Rj) (m:List Rz) (H:Hp) (a:Rz):BT.Cl->Prop
 | .l xs=>∃ vs,H a=some (.lst vs)/\RDs K m H vs xs
 | .o c fs=>∃ C dx vs,H a=some (.ins C dx vs)/\mX K c C/\RFs K m H vs fs
 | .d kvs=>∃ vs,H a=some (.dK vs)/\RKs K m H vs kvs
 | .z=>∃ ob vs,H a=some (.frz ob (.dK vs))
inductive RWs (P:RG) (w:Sb) (K:Rj) (m:List Rz) (H:Hp):List V->List BT.W->Prop where
 | nil:RWs P w K m H [] []
 | cons {v:V}{x:BT.W}{vs:List V}{xs:List BT.W} (r:RW P w K m H v x) (t:RWs P w K m H vs xs):RWs P w K m H (v :: vs) (x :: xs)
structure RH (K:Rj) (m:List Rz) (H:Hp) (h:BT.HH):Prop where
 nd:m.Nodup
 len:m.length=h.length
 cl:∀ (i:Nat) (a:Rz) (c:BT.Cl),m[i]?=some a->h[i]?=some c->jI K m H a c
 tb:TB K H
theorem AZ (e:BT.lat h n=some xs):h[n]?=some (.l xs):=by
 unfold BT.lat at e
 cases g:h[n]? with
 | none=>rw[g] at e;exact cU e
 | some c=>rw[g] at e;cases c<;>simp[BT.pX] at e;rw[e]
theorem A1 (e:BT.oat h n=some (c,fs)):h[n]?=some (.o c fs):=by
 unfold BT.oat at e
 cases g:h[n]? with
 | none=>rw[g] at e;exact cU e
 | some c=>rw[g] at e;cases c<;>simp[BT.rA] at e;rw[e.1,e.2]
theorem A2 (e:BT.dat h n=some kvs):h[n]?=some (.d kvs):=by
 unfold BT.dat at e
 cases g:h[n]? with
 | none=>rw[g] at e;exact cU e
 | some c=>rw[g] at e;cases c<;>simp[BT.tX] at e;rw[e]
theorem RH.xr {K:Rj} (R:RH K m H h) (i:Nat) (a:Rz) (kvs:List (BT.Ky×BT.D)) (e:m[i]?=some a) (g:BT.dat h i=some kvs):∃ vs,H a=some (.dK vs)/\RKs K m H vs kvs:=R.cl i a _ e (A2 g)
theorem RH.cell {K:Rj} (R:RH K m H h) (i:Nat) (a:Rz) (xs:List BT.D) (e:m[i]?=some a) (g:BT.lat h i=some xs):∃ vs,H a=some (.lst vs)/\RDs K m H vs xs:=R.cl i a _ e (AZ g)
inductive OC (K:Rj) (m:List Rz) (H:Hp) (a:Rz) (c:Str) (fs:List (Str×BT.W)):Prop where
 | mk (C:Rz) (dx:_) (vs:_) (h1:H a=some (.ins C dx vs)) (h2:mX K c C) (h3:RFs K m H vs fs):OC K m H a c fs
theorem RH.qH {K:Rj} (R:RH K m H h) (i:Nat) (a:Rz) (c:Str) (fs:List (Str×BT.W)) (e:m[i]?=some a) (g:BT.oat h i=some (c,fs)):OC K m H a c fs:=by
 obtain ⟨C,dx,vs,h1,h2,h3⟩:=R.cl i a _ e (A1 g)
 exact ⟨C,dx,vs,h1,h2,h3⟩
structure RS (P:RG) (w:Sb) (K:Rj) (m:List Rz) (H:Hp) (σ:L2.St) (s:BT.Sl):Prop where
 len:σ.length=s.length
 get:∀ (i:Nat) (x:BT.W),s[i]?=some (some x)->∃ v,σ[i]?=some (some v)/\RW P w K m H v x
noncomputable def A3:HO->Bool
 | .tbl _=>true
 | _=>false
structure Ext (m:List Rz) (H:Hp) (m':List Rz) (H':Hp):Prop where
 pre:∃ e,m'=m++e/\∀ a∈e,H a=none
 keep:∀ a o,H a=some o->a∉m->A3 o=false->H' a=some o
 live:∀ a,H' a=none->H a=none
 frz:∀ a ob vs,H a=some (.frz ob (.dK vs))->H' a=some (.frz ob (.dK vs))
theorem Ext.refl (m:List Rz) (H:Hp):Ext m H m H:=⟨⟨[],by simp,by simp⟩,fun _ _ h _ _=>h,fun _ h=>h,fun _ _ _ h=>h⟩
theorem Ext.gD (x:Ext m H m' H') (h:H a=some o) (n:a∉m):a∉m':=by
 obtain ⟨e,rfl,he⟩:=x.pre
 intro q
 rcases List.mem_append.mp q with q | q
 ·exact n q
 ·rw[he a q] at h;exact cU h
theorem Ext.trans (x:Ext m H m1 H1) (y:Ext m1 H1 m2 H2):Ext m H m2 H2:=by
 obtain ⟨e,rfl,he⟩:=x.pre
 obtain ⟨e',rfl,he'⟩:=y.pre
 refine ⟨⟨e++e',by rw[SG],fun a ha=>?_⟩,fun a o h n t=>y.keep a o (x.keep a o h n t) (x.gD h n) t,fun a h=>x.live a (y.live a h),fun a ob vs h=>y.frz a ob vs (x.frz a ob vs h)⟩
 rcases List.mem_append.mp ha with q | q
 ·exact he a q
 ·exact x.live a (he' a q)
theorem Rd.ext (x:Ext m H m' H') (h:Rd H a u) (n:a∉m) (t:A3 u=false:=by rfl):Rd H' a u/\a∉m':=by
 rcases h with h | ⟨o,h⟩
 ·exact ⟨.inl (x.keep _ _ h n t),x.gD h n⟩
 ·exact ⟨.inr ⟨o,x.keep _ _ h n rfl⟩,x.gD h n⟩
theorem Tr.ext (x:Ext m H m' H') (h:Tr m H a o):Tr m' H' a o:=⟨x.keep _ _ h.1 h.2 rfl,x.gD h.1 h.2⟩
theorem jC.ext (x:Ext m H m' H') (r:jC m H cl xs vs):jC m' H' cl xs vs:=by
 induction r with
 | nil=>exact .nil
 | cons h1 h2 h3 r t ih=>exact .cons h1 (h2.ext x) h3 r ih
theorem jz.ext (x:Ext m H m' H') (h:jz m H f L vs):jz m' H' f L vs:=by
 obtain ⟨bt,ps,fs,pa,be,sc,cl,pm,ctv,c',oc,os,t,q,h0,h1,h2,h3,h4,h5,h6,h7,h8,h9,h10⟩:=h
 exact ⟨bt,ps,fs,pa,be,sc,cl,pm,ctv,c',oc,os,t,q,h0,h1,h2,h3,h4,h5,h6.ext x,h7.ext x,h8,h9,h10.ext x⟩
section
variable {K:Rj}
mutual
theorem RD.ext (x:Ext m H m' H'):∀ {v:V}{d:BT.D},RD K m H v d->RD K m' H' v d
 | _,_,.non=>.non
 | _,_,.bl b=>.bl b
 | _,_,.int i=>.int i
 | _,_,.str y h=>.str y h
 | _,_,.tup h r=>.tup (h.elim (fun q=>.inl (Rd.ext x q.1 q.2)) .inr) (RDs.ext x r)
 | _,_,.lst h r=>.lst (h.elim (fun q=>.inl (Rd.ext x q.1 q.2)) .inr) (RDs.ext x r)
theorem RDs.ext (x:Ext m H m' H'):∀ {vs:List V}{ds:List BT.D},RDs K m H vs ds->RDs K m' H' vs ds
 | _,_,.nil=>.nil
 | _,_,.cons r t=>.cons (RD.ext x r) (RDs.ext x t)
end
theorem RA.rw (r:RA K m H v d):RW P w K m H v d:=by
 cases r with
 | p r=>exact .p r
 | r h=>exact .r h
 | o h=>exact .o h
theorem RW.ra (r:RW P w K m H v d) (h0:BT.attrOk d=true):RA K m H v d:=by
 cases r with
 | p r=>exact .p r
 | r h=>exact .r h
 | o h=>exact .o h
 | k _ _=>exact BT.dQ h0
 | kl _ _=>exact BT.dQ h0
 | c _ _=>exact BT.dQ h0
 | x _=>exact BT.dQ h0
 | g _ _=>exact BT.dQ h0
theorem Ext.ix (x:Ext m H m' H') {n:Nat} (h:m[n]?=some a):m'[n]?=some a:=by
 obtain ⟨e,rfl,_⟩:=x.pre
 rw[Rx (by rcases R0 _ m.length with q | q;exact q;rw[RC q] at h;exact cU h)]
 exact h
theorem RA.ext (x:Ext m H m' H') (r:RA K m H v d):RA K m' H' v d:=by
 cases r with
 | p r=>exact .p (r.ext x)
 | r h=>exact .r (x.ix h)
 | o h=>exact .o (x.ix h)
theorem RCs.ext (x:Ext m H m' H') (r:RCs K m H vs cs):RCs K m' H' vs cs:=by
 induction r with
 | nil=>exact .nil
 | cons r t ih=>exact .cons (r.ext x) ih
theorem RKs.ext (x:Ext m H m' H') (r:RKs K m H vs kvs):RKs K m' H' vs kvs:=by
 induction r with
 | nil=>exact .nil
 | cons hk r t ih=>exact .cons (hk.ext x) (r.ext x) ih
theorem RW.ext (x:Ext m H m' H') (r:RW P w K m H v d):RW P w K m' H' v d:=by
 cases r with
 | p r=>exact .p (r.ext x)
 | r h =>
  obtain ⟨e,rfl,_⟩:=x.pre
  refine .r ?_
  rw[Rx (by rcases R0 _ m.length with q | q;exact q;rw[RC q] at h;exact cU h)]
  exact h
 | k h r=>exact .k h r
 | kl h r=>exact .kl ⟨x.keep _ _ h.1 h.2 rfl,x.gD h.1 h.2⟩ (r.ext x)
 | c h r=>exact .c (h.ext x) (r.ext x)
 | g h r=>exact .g h r
 | x h n xt=>exact .x (x.keep _ _ h n rfl) (x.gD h n) xt
 | o h =>
  obtain ⟨e,rfl,_⟩:=x.pre
  refine .o ?_
  rw[Rx (by rcases R0 _ m.length with q | q;exact q;rw[RC q] at h;exact cU h)]
  exact h
theorem RFs.ext (x:Ext m H m' H') (r:RFs K m H vs fs):RFs K m' H' vs fs:=by
 induction r with
 | nil=>exact .nil
 | cons r t ih=>exact .cons (r.ext x) ih
theorem jI.ext (x:Ext m H m' H') (e:H' a=H a) (r:jI K m H a c):jI K m' H' a c:=by
 cases c with
 | l xs=>obtain ⟨vs,h1,h2⟩:=r;exact ⟨vs,e.trans h1,h2.ext x⟩
 | o c fs=>obtain ⟨C,dx,vs,h1,h2,h3⟩:=r;exact ⟨C,dx,vs,e.trans h1,h2,h3.ext x⟩
 | d kvs=>obtain ⟨vs,h1,h2⟩:=r;exact ⟨vs,e.trans h1,h2.ext x⟩
 | z=>obtain ⟨ob,vs,h1⟩:=r;exact ⟨ob,vs,e.trans h1⟩
theorem jI.some (r:jI K m H a c):∃ o,H a=some o:=by
 cases c with
 | l xs=>obtain ⟨vs,h1,h2⟩:=r;exact ⟨_,h1⟩
 | o c fs=>obtain ⟨C,dx,vs,h1,h2,h3⟩:=r;exact ⟨_,h1⟩
 | d kvs=>obtain ⟨vs,h1,h2⟩:=r;exact ⟨_,h1⟩
 | z=>obtain ⟨ob,vs,h1⟩:=r;exact ⟨_,h1⟩
theorem RWs.ext (x:Ext m H m' H') (r:RWs P w K m H vs ds):RWs P w K m' H' vs ds:=by
 induction r with
 | nil=>exact .nil
 | cons r t ih=>exact .cons (r.ext x) ih
theorem RS.ext (x:Ext m H m' H') (r:RS P w K m H σ s):RS P w K m' H' σ s :=
 ⟨r.len,fun i y e=>by obtain ⟨v,h,q⟩:=r.get i y e;exact ⟨v,h,q.ext x⟩⟩
theorem RDs.length:∀ {vs:List V}{ds:List BT.D},RDs K m H vs ds->vs.length=ds.length
 | _,_,.nil=>rfl
 | _,_,.cons _ t=>by rw[RO,RO,RDs.length t]
theorem RWs.length:∀ {vs:List V}{ds:List BT.W},RWs P w K m H vs ds->vs.length=ds.length
 | _,_,.nil=>rfl
 | _,_,.cons _ t=>by rw[RO,RO,RWs.length t]
theorem RDs.get:∀ {vs:List V}{ds:List BT.D}{i:Nat}{d:BT.D},RDs K m H vs ds->ds[i]?=some d->∃ v,vs[i]?=some v/\RD K m H v d
 | _,_,_,_,.nil,e=>by simp at e
 | _,_,0,_,.cons r _,e=>by simp at e;subst e;exact ⟨_,rfl,r⟩
 | _,_,i+1,d,.cons _ t,e=>by
  obtain ⟨u,h1,h2⟩:=RDs.get (i:=i) (d:=d) t (by simpa using e)
  exact ⟨u,by simpa using h1,h2⟩
theorem RDs.append:∀ {vs ws:List V}{ds es:List BT.D},RDs K m H vs ds->RDs K m H ws es->RDs K m H (vs++ws) (ds++es)
 | _,_,_,_,.nil,s=>s
 | _,_,_,_,.cons r t,s=>.cons r (RDs.append t s)
theorem RDs.take:∀ {vs:List V}{ds:List BT.D} (n:Nat),RDs K m H vs ds->RDs K m H (vs.take n) (ds.take n)
 | _,_,0,_=>.nil
 | _,_,_+1,.nil=>.nil
 | _,_,n+1,.cons r t=>.cons r (RDs.take n t)
theorem RDs.drop:∀ {vs:List V}{ds:List BT.D} (n:Nat),RDs K m H vs ds->RDs K m H (vs.drop n) (ds.drop n)
 | _,_,0,r=>r
 | _,_,_+1,.nil=>.nil
 | _,_,n+1,.cons _ t=>RDs.drop n t
theorem RDs.set (r:RD K m H v d):∀ {vs:List V}{ds:List BT.D} (i:Nat),RDs K m H vs ds->RDs K m H (vs.set i v) (ds.set i d)
 | _,_,_,.nil=>.nil
 | _,_,0,.cons _ t=>.cons r t
 | _,_,i+1,.cons q t=>.cons q (RDs.set r i t)
theorem RDs.pick (r:RDs K m H vs ds):∀ l:List Nat,RDs K m H (l.filterMap fun i=>vs[i]?) (l.filterMap fun i=>ds[i]?)
 | []=>.nil
 | i :: l=>by
  rw[Sj,Sj]
  cases g:ds[i]? with
  | none =>
   have:vs[i]?=none:=by
    have h:=r.length
    rw[Wd] at g ⊢
    lia
   rw[this]
   exact RDs.pick r l
  | some d =>
   obtain ⟨v,e,q⟩:=r.get g
   rw[e]
   exact .cons q (RDs.pick r l)
theorem RDs.dropLast:∀ {vs:List V}{ds:List BT.D},RDs K m H vs ds->RDs K m H vs.dropLast ds.dropLast
 | _,_,.nil=>.nil
 | _,_,.cons _ .nil=>.nil
 | _,_,.cons r (.cons q t)=>.cons r (RDs.dropLast (.cons q t))
theorem RDs.rep (r:RDs K m H vs ds):∀ k:Nat,RDs K m H (RN k vs).flatten (RN k ds).flatten
 | 0=>.nil
 | k+1=>by
  rw[SJ,SJ,TN,TN]
  exact RDs.append r (RDs.rep r k)
theorem qI {N:List Rz} (hN:N.Nodup) {i j:Nat}{x:Rz} (a:N[i]?=some x) (b:N[j]?=some x):i=j:=by
 have hi:i < N.length:=by
  rcases R0 i N.length with z | z
  ·exact z
  ·rw[RC z] at a;exact cU a
 have hj:j < N.length:=by
  rcases R0 j N.length with z | z
  ·exact z
  ·rw[RC z] at b;exact cU b
 rw[Rv hi] at a
 rw[Rv hj] at b
 exact (List.getElem_inj hN).mp ((Ry a).trans (Ry b).symm)
inductive RR (K:Rj) (m:List Rz) (H:Hp):V->BT.D->Prop where
 | d {v:V}{d:BT.D} (r:RD K m H v d):RR K m H v d
 | l {a:Rz}{vs:List V}{ds:List BT.D} (h:H a=some (.lst vs)) (r:RDs K m H vs ds):RR K m H (.ref a) (.lst ds)
theorem dP (RHh:RH K m H h) (r:RW P w K m H v x) (e:BT.rd x h=some d):RR K m H v d:=by
 cases r with
 | p r=>cases e;exact .d r
 | @r a n q =>
  simp only[BT.rd] at e
  cases g:BT.lat h n with
  | none=>rw[g] at e;exact cU e
  | some xs =>
   rw[g] at e
   cases e
   obtain ⟨vs,h1,h2⟩:=RHh.cell n a xs q g
   exact .l h1 h2
 | k _ _=>exact cU e
 | kl _ _=>exact cU e
 | o _=>exact cU e
 | c _ _=>exact cU e
 | x _=>exact cU e
 | g _ _=>exact cU e
inductive RLs (K:Rj) (m:List Rz) (H:Hp) (v:V) (ds:List BT.D):Prop where
 | mk (a:Rz) (vs:List V) (e:v=.ref a) (l:LL K H a vs) (r:RDs K m H vs ds):RLs K m H v ds
inductive RTs (K:Rj) (m:List Rz) (H:Hp) (v:V) (ds:List BT.D):Prop where
 | mk (a:Rz) (vs:List V) (e:v=.ref a) (l:SqT K H a vs) (r:RDs K m H vs ds):RTs K m H v ds
theorem RR.lst {v:V}{ds:List BT.D} (r:RR K m H v (.lst ds)):RLs K m H v ds:=by
 cases r with
 | d r=>cases r with | lst h r=>exact ⟨_,_,rfl,h.elim (fun q=>.inl q.1) .inr,r⟩
 | l h r=>exact ⟨_,_,rfl,.inl (.inl h),r⟩
theorem RR.tup {v:V}{ds:List BT.D} (r:RR K m H v (.tup ds)):RTs K m H v ds:=by
 cases r with
 | d r=>cases r with | tup h r=>exact ⟨_,_,rfl,h.elim (fun q=>.inl q.1) (fun ⟨o,its,n,q,_⟩=>.inr ⟨o,its,n,q⟩),r⟩
theorem RR.int {v:V}{i:Int} (r:RR K m H v (.int i)):v=.int i:=by
 cases r with | d r=>cases r;rfl
theorem RR.str {v:V}{x:Str} (r:RR K m H v (.str x)):v=.str x/\PyData.strOk x=true:=by
 cases r with | d r=>cases r with | str _ h=>exact ⟨rfl,h⟩
theorem RR.bl {v:V}{b:Bool} (r:RR K m H v (.bl b)):v=.bl b:=by
 cases r with | d r=>cases r;rfl
theorem RR.non (r:RR K m H v .non):v=.non:=by
 cases r with | d r=>cases r;rfl
theorem TB.new (hp:H p=none) {K:Rj} (h:TB K H):TB K (upd H p o) :=
 h.mono (fun P ps e=>by rw[c6 (dw e hp)];exact e) fun a o _ _ e=>by rw[c6 (dw e hp)];exact e
theorem gF (hp:H p=none):Ext m H m (upd H p o) :=
 ⟨⟨[],by simp,by simp⟩,fun a q h _ _=>by rw[c6 (dw h hp)];exact h,fun a h=>by
  by_cases e:a=p
  ·rw[e];exact hp
  ·rw[c6 e] at h;exact h,fun a ob vs h=>by rw[c6 (dw h hp)];exact h⟩
theorem RH.gD (R:RH K m H h) (hp:H p=none):p∉m:=by
 intro q
 obtain ⟨i,hi⟩:=SZ q
 have hl:i < h.length:=by
  rw[← R.len]
  rcases R0 i m.length with z | z
  ·exact z
  ·rw[RC z] at hi;exact cU hi
 obtain ⟨o,e⟩:=(R.cl i p h[i] hi (Rv hl)).some
 rw[e] at hp;cases hp
noncomputable def Le (H H':Hp):Prop:=∀ a u,H a=some u->H' a=some u
theorem Le.tb (q:Le H H') {K:Rj} (t:TB K H):TB K H':=t.mono (fun _ _ e=>q _ _ e) fun _ _ _ _ e=>q _ _ e
theorem rN (hp:H p=none):Le H (upd H p o):=fun a u e=>by rw[c6 (dw e hp)];exact e
theorem RH.ext (R:RH K m H h) (x:Ext m H m H') (k:Le H H'):RH K m H' h :=
 ⟨R.nd,R.len,fun i a c e1 e2=>by
  obtain ⟨o,e⟩:=(R.cl i a c e1 e2).some
  exact (R.cl i a c e1 e2).ext x (by rw[e];exact k _ _ e),k.tb R.tb⟩
noncomputable def Mw:HO->Bool
 | .lst _=>true
 | .ins _ _ _=>true
 | .dK _=>true
 | _=>false
noncomputable def Ek:HO->Bool
 | .frz _ (.dK _)=>true
 | .lst _=>true
 | .ins _ _ _=>true
 | .dK _=>true
 | _=>false
theorem RH.mu (R:RH K m H h) (ha:a∈m):∃ o,H a=some o/\Ek o=true:=by
 obtain ⟨i,hi⟩:=SZ ha
 have hl:i < h.length:=by
  rw[← R.len]
  rcases R0 i m.length with z | z
  ·exact z
  ·rw[RC z] at hi;exact cU hi
 have z:=R.cl i a h[i] hi (Rv hl)
 cases g:h[i] with
 | l xs=>rw[g] at z;obtain ⟨vs,h1,h2⟩:=z;exact ⟨_,h1,rfl⟩
 | o c fs=>rw[g] at z;obtain ⟨C,dx,vs,h1,h2,h3⟩:=z;exact ⟨_,h1,rfl⟩
 | d kvs=>rw[g] at z;obtain ⟨vs,h1,h2⟩:=z;exact ⟨_,h1,rfl⟩
 | z=>rw[g] at z;obtain ⟨ob,vs,h1⟩:=z;exact ⟨_,h1,rfl⟩
theorem RH.nin (R:RH K m H h) (e:H a=some o) (n:Ek o=false):a∉m:=fun z=>by
 obtain ⟨u,h1,h2⟩:=R.mu z
 rw[e] at h1;cases h1
 rw[n] at h2;cases h2
theorem RH.new (R:RH K m H h) (hp:H p=none):RH K m (upd H p o) h :=
 R.ext (gF hp) (rN hp)
theorem jJ (hp:H p=none):Ext m H (m++[p]) (upd H p o) :=
 ⟨⟨[p],rfl,by simpa using hp⟩,fun a q h _ _=>by rw[c6 (dw h hp)];exact h,fun a h=>by
  by_cases e:a=p
  ·rw[e];exact hp
  ·rw[c6 e] at h;exact h,fun a ob vs h=>by rw[c6 (dw h hp)];exact h⟩
theorem RH.IB (R:RH K m H h) (hp:H p=none) (r:jI K (m++[p]) (upd H p o) p c):RH K (m++[p]) (upd H p o) (h++[c]):=by
 have np:=R.gD hp
 have x:Ext m H (m++[p]) (upd H p o):=jJ hp
 refine ⟨List.nodup_append.mpr ⟨R.nd,by simp,fun a ha b hb=>by simp at hb;subst hb;exact fun e=>np (e ▸ ha)⟩,by simp[R.len],fun i a ys e1 e2=>?_,R.tb.new hp⟩
 by_cases c:i < m.length
 ·rw[Rx c] at e1
  rw[Rx (by rw[← R.len];exact c)] at e2
  have ne:a≠p:=by
   intro e
   subst e
   exact np (RJ e1)
  exact (R.cl i a ys e1 e2).ext x (c6 ne)
 ·have e:i=m.length:=by
   rcases R0 i (m++[p]).length with z | z
   ·simp at z;lia
   ·rw[RC z] at e1;exact cU e1
  subst e
  simp at e1
  rw[R.len] at e2
  simp at e2
  subst e1 e2
  exact r
theorem RH.PV (R:RH K m H h) (hp:H p=none) (r:RDs K m H vs xs):RH K (m++[p]) (upd H p (.lst vs)) (h++[.l xs]) :=
 R.IB hp ⟨vs,dz,r.ext (jJ hp)⟩
theorem TB.set (hm:∃ u,H a=some u/\Ek u=true) {K:Rj} (h:TB K H):TB K (upd H a o):=by
 obtain ⟨w,hw,hu⟩:=hm
 refine h.mono (fun P ps e=>?_) fun b ob _ _ e=>?_
 ·rw[c6 (fun z=>by subst z;rw[hw] at e;cases e;exact BT.dQ hu)];exact e
 ·rw[c6 (fun z=>by subst z;rw[hw] at e;cases e;exact BT.dQ hu)];exact e
theorem jK {a:Rz}{o:HO} (ha:a∈m) (nf:∃ u,H a=some u/\Mw u=true):Ext m H m (upd H a o) :=
 ⟨⟨[],by simp,by simp⟩,fun b u q n _=>by
  have ne:b≠a:=by
   intro e
   subst e
   exact n ha
  rw[c6 ne];exact q,fun b q=>by
  by_cases e:b=a
  ·subst e;rw[dz] at q;cases q
  ·rw[c6 e] at q;exact q,fun b ob vs q=>by
  obtain ⟨u,hu,hm⟩:=nf
  rw[c6 (fun z=>by subst z;rw[hu] at q;cases q;exact BT.dQ hm)];exact q⟩
theorem i9 (ha:a∈m) (h:H a=some (.lst us)):Ext m H m (upd H a (.lst vs)):=jK ha ⟨_,h,rfl⟩
theorem RH.setC {h:BT.HH} (R:RH K m H h) {n:Nat}{a:Rz}{o:HO}{c:BT.Cl} (hn:m[n]?=some a) (nf:∃ u,H a=some u/\Mw u=true) (r:jI K m (upd H a o) a c):RH K m (upd H a o) (h.set n c):=by
 have x:Ext m H m (upd H a o):=jK (RJ hn) nf
 refine ⟨R.nd,by simp[R.len],fun i b ys e1 e2=>?_,R.tb.set (R.mu (RJ hn))⟩
 by_cases c:i=n
 ·subst c
  rw[hn] at e1;cases e1
  have hl:i < h.length:=by
   rw[← R.len]
   rcases R0 i m.length with z | z
   ·exact z
   ·rw[RC z] at hn;exact cU hn
  rw[Sg hl] at e2
  cases e2
  exact r
 ·rw[Se (SH c)] at e2
  have ne:b≠a:=by
   intro e
   subst e
   exact c (qI R.nd e1 hn)
  exact (R.cl i b ys e1 e2).ext x (c6 ne)
theorem RH.set (R:RH K m H h) (hn:m[n]?=some a) (hH:H a=some (.lst us)) (r:RDs K m H vs xs):RH K m (upd H a (.lst vs)) (h.set n (.l xs)) :=
 R.setC hn ⟨_,hH,rfl⟩ ⟨vs,dz,r.ext (i9 (RJ hn) hH)⟩
end
end BS
end
section
namespace BS
open PySem PySem.Spec PyProof.Rows L2 PySem.SeqAt
theorem nj {E:Rl->Rm->Prop} (f:Nat->β->Sem (ForInStep β)) (n:Nat) (I:Nat->β->Rm->Prop) (Q:β->Rm->Prop)
 (turn:∀ i b s,i < n->I i b s->wpAny M A (f i b) (fun r s'=>match r with | .yield b'=>I (i+1) b' s' | .done b'=>Q b' s') E s)
 (fin:∀ b s,I n b s->Q b s) (b:β) (h:I 0 b s):wpAny M A (forIn [:n] b f) Q E s:=by
 rw[Std.Legacy.Range.forIn_eq_forIn_range']
 have e:W5 [:n].start [:n].size [:n].step=W5 0 (n - 0):=by simp[Std.Legacy.Range.size]
 rw[e]
 refine wpAny_forIn_list f (fun rest b s=>∃ i,i<=n/\rest=W5 i (n - i)/\I i b s) Q (fun x rest b s ⟨i,hi,hr,q⟩=>?_) (fun b s ⟨i,hi,hr,q⟩=>?_) _ b ⟨0,Sz _,rfl,h⟩
 ·have hlt:i < n:=by
   rcases R0 i n with z | z
   ·exact z
   ·rw[show n - i=0 by lia] at hr;simp at hr
  rw[show n - i=(n - (i+1))+1 by lia,List.range'_succ] at hr
  injection hr with e1 e2
  subst e1
  refine SX (turn x b s hlt q) (fun r s' z=>?_) fun _ _ z=>z
  cases r with
  | yield b'=>exact ⟨x+1,hlt,e2,z⟩
  | done b'=>exact z
 ·have:i=n:=by
   rcases R0 i n with z | z
   ·rw[show n - i=(n - (i+1))+1 by lia,List.range'_succ] at hr;simp at hr
   ·lia
  subst this
  exact fin b s q
theorem qc (l:Rz) (items:Array Rl) (n:Nat) (dd:Option Rz) (sl:Array (Option Rl)) (x:Rl) (e:Rl->Bool) (j:Nat) (hj:j < items.size)
 (hit:e items[j]=true) (hno:∀ m (hm:m < items.size),m < j->e items[m]=false) :
 Meets (Builtin.«tuple.index» ⟨[.ref l,x],[]⟩)
  (fun A R s=>s.heap.get? l=some { cls:=.type "tuple",dict:=dd,data:=.seq items n,slots:=sl }/\(∀ y,y∈items->EqAt A.in1 s y x (e y))/\R (.ok (.ret (.int j s.toks))) { s with toks:=s.toks+1 }) :=
 .of_wp fun prog w A R s h=>by
 obtain ⟨hp,g,d,tk,os⟩:=s;obtain ⟨hl,he,h⟩:=h
 wp_walk using Ug hl,nj _ _ (fun i b s'=>i<=j/\b.1=none/\s'=⟨hp,g,d,tk,os⟩) _
 case turn =>
  rintro i b s' hi ⟨hij,hb,rfl⟩
  have hi':i < items.size:=by lia
  rw[Array.getElem?_eq_getElem hi']
  refine Ro (he _ (Array.getElem_mem hi') prog w _ _ ?_)
  by_cases c:i=j
  ·subst c
   rw[hit]
   wp_walk
   exact ⟨_,rfl,h⟩
  ·rw[hno i hi' (by lia)]
   wp_walk
   exact ⟨by lia,rfl,rfl⟩
 case fin =>
  rintro b s' ⟨hij,_,_⟩
  lia
 case h=>exact ⟨Sz _,rfl,rfl⟩
theorem vP (l:Rz) (items:Array Rl) (n:Nat) (dd:Option Rz) (sl:Array (Option Rl)) (k:Int) (t:Tok) (h1:-1000<=k) (h2:k<=1000) (c1:¬ items.isEmpty=true) (c2:k≠1) (c3:0 < k) (hz:items.size*k.toNat<=sizeLine) :
 Meets (Builtin.«tuple.__mul__» ⟨[.ref l,.int k t],[]⟩)
  (fun A R s=>s.heap.get? l=some { cls:=.type "tuple",dict:=dd,data:=.seq items n,slots:=sl }/\R (.ok (.ret (.ref s.heap.objs.size))) { s with heap:=s.heap.push { cls:=.type "tuple",data:=.seq ((RN k.toNat items).foldl (fun x1 x2=>x1++x2) #[]) } }) :=
 .of_wp fun prog w A R s h=>by
 obtain ⟨hp,g,d,tk,os⟩:=s;obtain ⟨hl,h⟩:=h
 have f1:=WW
 have a1:¬ (decide (k < -2 ^ 63)||decide (k ≥ 2 ^ 63))=true:=by simp;lia
 have a2:¬ (items.isEmpty||k==1)=true:=by simp at c1 ⊢;exact ⟨c1,c2⟩
 have a3:¬ (decide (k<=0)||items.isEmpty)=true:=by simp at c1 ⊢;exact ⟨by lia,c1⟩
 have kk:(k.toNat:Int)=k:=by lia
 have a4:¬ ((items.size:Int)*k > (2 ^ 63 - 1) / 8):=by
  have z:((items.size*k.toNat:Nat):Int)<=(sizeLine:Nat):=Int.ofNat_le.mpr hz
  rw[Int.natCast_mul,kk] at z
  have z2:((sizeLine:Nat):Int)<=(2 ^ 63 - 1) / 8:=by decide
  lia
 have a5:¬ Ve ((items.size:Int)*k)=true:=by
  have z:((items.size*k.toNat:Nat):Int)<=(sizeLine:Nat):=Int.ofNat_le.mpr hz
  rw[Int.natCast_mul,kk] at z
  simp only[Ve,decide_eq_true_eq]
  lia
 have hsz:sizeOk (.seq ((RN k.toNat items).foldl (fun x1 x2=>x1++x2) #[])):=by
  show ((RN k.toNat items).foldl (fun x1 x2=>x1++x2) #[]).size<=sizeLine
  rw[AutoListH.size_joined,Array.size_empty,T8];lia
 wp_walk using Ug hl
 rw[if_neg a1]
 wp_walk using Ug hl
 refine wpAny_ite_split (fun c=>absurd c ?_) (fun _=>?_)
 ·intro c;have a6:=a4;simp at a6 c;lia
 wp_walk using Ug hl
 refine wpAny_ite_false (decide_eq_false (Nat.not_lt.mpr hsz)) ?_
 wp_walk
 exact ⟨_,rfl,h⟩
theorem mz:fillsNumberSlot (.type "tuple") "mul"=pure false :=
 PySem.fillsNumberSlot_seq (id:="tuple.__mul__") (r:=some (.builtin "tuple.__rmul__")) F.slot_tuple_mul.lookup (by decide +kernel) F.slot_tuple_rmul.lookup (by decide +kernel)
theorem rO:seqRepeat? (.type "tuple")=pure (some (.builtin "tuple.__mul__")):=by
 unfold seqRepeat?
 rw[PySem.seqSlot_of (T:="tuple") (name:="__mul__") (id:="tuple.__mul__") F.slot_tuple_mul.lookup (by decide +kernel),PySem.seqSlot_of (T:="tuple") (name:="__rmul__") (id:="tuple.__rmul__") F.slot_tuple_rmul.lookup (by decide +kernel)]
 rfl
theorem oR (a:Int) (t:Tok) (l:Rz) (items:Array Rl) (n:Nat) (dd:Option Rz) (sl:Array (Option Rl)) :
 Meets (Builtin.«int.__rmul__» ⟨[.int a t,.ref l],[]⟩) (fun _ R s=>s.heap.get? l=some { cls:=.type "tuple",dict:=dd,data:=.seq items n,slots:=sl }/\R (.ok (.ret Value.notImplemented)) s) :=
 .of_wp fun prog w A R s h=>by obtain ⟨hp,g,d,tk,os⟩:=s;obtain ⟨hl,h⟩:=h;wp_walk;exact ⟨_,rfl,h⟩
theorem nk (l:Rz) (items:Array Rl) (n:Nat) (b:Rz) (items2:Array Rl) (n2:Nat) (dd:Option Rz) (sl:Array (Option Rl)) (hs0:¬(!items.isEmpty&&SD (items.size+items2.size))=true) (hs1:items.size<=sizeLine) (hs2:items.size+items2.size<=sizeLine+1) :
 Meets (Builtin.«list.extend» ⟨[.ref l,.ref b],[]⟩) (fun _ R s=>s.heap.get? l=some { cls:=.type "list",dict:=none,data:=.seq items n,slots:=#[] }/\s.heap.get? b=some { cls:=.type "tuple",dict:=dd,data:=.seq items2 n2,slots:=sl }/\R (.ok (.ret V9)) { s with heap:=s.heap.update l (U8 fun x=>x++items2),toks:=s.toks }) :=
 .of_wp fun prog w A R s h=>by
  obtain ⟨hp,g,d,tk,os⟩:=s;obtain ⟨hl,hb,h⟩:=h;have f1:=WW;have f2:=AutoSeq1.sub_tuple_tuple;have f3:=AutoSeq1.sub_list_list;have f4:=AutoSeq1.sub_tuple_list;have f5:=AutoSeq1.sub_list_tuple
  have hz':(items++items2).size<=sizeLine+1:=by rw[Array.size_append];exact hs2
  wp_walk using (wpAny_updateSeq hl rfl (hz:=hs1) (_hz':=hz')),Ug hl,Ug hb;exact ⟨_,rfl,h⟩
end BS
end
section
namespace BS
open PySem PySem.Spec PyProof.Rows L2
inductive Bnd {α β:Type} (x:Option (α×BT.HH)) (k:α->BT.HH->Option β) (r:β):Prop where
 | mk (a:α) (g:BT.HH) (h1:x=some (a,g)) (h2:k a g=some r):Bnd x k r
inductive Mx {α β:Type} (x:Option α) (f:α->β) (r:β):Prop where
 | mk (a:α) (h1:x=some a) (h2:f a=r):Mx x f r
inductive Bind (o:BT.Bin) (x y:BT.W) (h:BT.HH) (z:BT.W) (h':BT.HH):Prop where
 | mk (d d' q:BT.D) (h1:BT.rd x h=some d) (h2:BT.rd y h=some d') (h3:BT.k9 o d d'=some q) (h4:z=.p q) (h5:h'=h):Bind o x y h z h'
theorem cY {α β:Type}{x:Option (α×BT.HH)}{k:α->BT.HH->Option β}{r:β} (h:BT.bnd x k=some r):Bnd x k r:=by
 cases x with
 | none=>exact cU h
 | some q=>exact ⟨q.1,q.2,rfl,h⟩
theorem dh {α β:Type}{x:Option α}{f:α->β}{r:β} (h:x.map f=some r):Mx x f r:=by
 cases x with
 | none=>exact cU h
 | some a=>exact ⟨a,rfl,Ry h⟩
noncomputable def Post (P:RG) (w:Sb) (K:Rj) (m:List Rz) (H:Hp) (z:BT.W) (h':BT.HH) (Q:VK):Prop :=
 ∀ v H' m',Ext m H m' H'->RH K m' H' h'->RW P w K m' H' v z->Q v H'
inductive rOp (P:RG) (w:Sb) (K:Rj) (f:BT.W->BT.W->BT.HH->Option (BT.W×BT.HH)) (v u:V) (H:Hp) (Q:VK):Prop where
 | mk (m:List Rz) (h:BT.HH) (x y z:BT.W) (h':BT.HH) (R:RH K m H h) (rx:RW P w K m H v x) (ry:RW P w K m H u y) (e:f x y h=some (z,h')) (p:Post P w K m H z h' Q):rOp P w K f v u H Q
theorem j6 {o:BT.Bin}{x y:BT.W}{h:BT.HH}{z:BT.W}{h':BT.HH} (e:BT.pY o x y h=some (z,h')):Bind o x y h z h':=by
 unfold BT.pY at e
 cases e1:BT.rd x h with
 | none=>rw[e1] at e;exact cU e
 | some d =>
  cases e2:BT.rd y h with
  | none=>rw[e1,e2] at e;exact cU e
  | some d' =>
   rw[e1,e2] at e
   obtain ⟨q,eq,er⟩:=dh e
   cases er
   exact ⟨d,d',q,e1,e2,eq,rfl,rfl⟩
section
variable {X:Cx}
theorem fG:BT.lim<=sizeLine:=by decide
inductive Mz (s:Rm) (a:Rz) (xs:List V):Prop where
 | mk (z:xs.length<=sizeLine) (its:List Rl) (n:Nat) (r:c9 xs its) (l:xs.length=its.length) (e:s.heap.get? a=some { cls:=.type "list",data:=.seq its.toArray n }):Mz s a xs
theorem rdL (I:Inv X pins σ H s) (r:LL X.K H a xs):Mz s a xs:=by
 rcases r with r | ⟨its,n,h1,h2,h3⟩
 ·obtain ⟨z,its,n,r,e⟩:=r.ok I.hok
  exact ⟨z,its,n,r,r.length,e⟩
 ·exact ⟨by rw[h3.length];exact h2,its,n,h3,h3.length,I.kIn a _ h1⟩
theorem A4 (I:Inv X pins σ H s) (ha:LL X.K H a xs) (hb:LL X.K H b ys) (hz:xs.length+ys.length<=sizeLine)
 (q:∀ p,H p=none->Q (.ref p) (upd H p (.lst (xs++ys)))):wpAny (RX X.prog X.w) X.A (SK .Add (.ref a) (.ref b)) (EP X pins σ Q) X.xe s:=by
 obtain ⟨z,its,n,r,hl,e⟩:=rdL I ha
 obtain ⟨z2,its2,n2,r2,hl2,e2⟩:=rdL I hb
 refine PySem.P.add_list e e2 ?_ (by rw[Rp,Rp];lia)
 have ea:its.toArray++its2.toArray=(its++its2).toArray:=by simp
 rw[ea]
 exact ⟨.ref _,_,I.Lp (t':=s.toks) (r.append r2) (by rw[RT];lia),rfl,q _ I.fresh⟩
theorem zc (I:Inv X pins σ H s) (ha:SqT X.K H a xs) (hb:SqT X.K H b ys) (hz:xs.length+ys.length<=sizeLine)
 (q0:xs=[]->Q (.ref b) H) (q1:ys=[]->Q (.ref a) H) (q:∀ p,H p=none->Q (.ref p) (upd H p (.tup (xs++ys)))):wpAny (RX X.prog X.w) X.A (SK .Add (.ref a) (.ref b)) (EP X pins σ Q) X.xe s:=by
 by_cases c:xs=[]
 ·obtain ⟨its,r1,p1,_⟩:=I.tuple ha
  obtain ⟨its2,r2,p2,_⟩:=I.tuple hb
  obtain ⟨⟨cls,dd,data,sl⟩,ho,hc,n,hd⟩:=id p1
  obtain ⟨⟨cls2,dd2,data2,sl2⟩,ho2,hc2,n2,hd2⟩:=id p2
  simp only at hc hd hc2 hd2
  subst hc hd hc2 hd2
  have z:its=[]:=r1.kY.mpr c
  exact concat_meets ⟨_,ho,rfl⟩ ⟨_,ho2,rfl⟩ Wi Xb UF UB (Uv _ _)
   (tuple_addW0 a b its.toArray its2.toArray n n2 dd dd2 sl sl2 (by simp[z])) ⟨ho,ho2,⟨.ref b,H,I,rfl,q0 c⟩⟩
 ·exact DR pins s σ H (.ref a) (.ref b) _ _ Q I rfl rfl ⟨a,b,xs,ys,rfl,rfl,ha,hb,c,hz,q1,fun _=>q⟩
theorem lA (R:RH X.K m H h) (hp:H p=none) (r:RDs X.K m H vs ds) (post:Post X.prog X.w X.K m H (.p (.tup ds)) h Q):Q (.ref p) (upd H p (.tup vs)) :=
 post _ _ m (gF hp) (R.new hp) (.p (.tup (.inl ⟨.inl dz,R.gD hp⟩) (r.ext (gF hp))))
theorem ji (R:RH X.K m H h) (hp:H p=none) (r:RDs X.K m H vs ds) (post:Post X.prog X.w X.K m H (.p (.lst ds)) h Q):Q (.ref p) (upd H p (.lst vs)) :=
 post _ _ m (gF hp) (R.new hp) (.p (.lst (.inl ⟨.inl dz,R.gD hp⟩) (r.ext (gF hp))))
theorem rP (R:RH X.K m H h) (hp:H p=none) (r:RDs X.K m H vs ds) (post:Post X.prog X.w X.K m H (.r h.length) (h++[.l ds]) Q):Q (.ref p) (upd H p (.lst vs)) :=
 post _ _ (m++[p]) (jJ hp) (R.PV hp r) (.r (by rw[← R.len];simp))
theorem nI (R:RH X.K m H h) (hp:H p=none) (r:RDs X.K m H vs ds) (post:Post X.prog X.w X.K m H (BT.new mu ds h).1 (BT.new mu ds h).2 Q):Q (.ref p) (upd H p (.lst vs)):=by
 cases mu with
 | false=>exact ji R hp r post
 | true=>exact rP R hp r post
theorem Post.here (R:RH X.K m H h) (post:Post X.prog X.w X.K m H (.p d) h Q) (r:RD X.K m H v d):Q v H:=post v H m (.refl _ _) R (.p r)
theorem rQ (hx:PyData.strOk x=true) (hy:PyData.strOk y=true):PyData.strOk (x++y)=true:=by
 show (x.cps++y.cps).all _=true
 rw[Array.all_append]
 simp only[PyData.strOk] at hx hy
 rw[hx,hy];rfl
theorem IC:OpR X (SK .Add) (rOp X.prog X.w X.K (BT.pY .add)):=by
 intro pins s σ H v u v' u' Q I rv ru h
 obtain ⟨m,h,x,y,z,h',R,rx,ry,e,post⟩:=h
 obtain ⟨d,d',q,e1,e2,e3,rfl,rfl⟩:=j6 e
 have r1:=dP R rx e1
 have r2:=dP R ry e2
 cases d<;>cases d'<;>first | exact cU e3 | simp only[BT.tZ,BT.oq,BT.oz,BT.oA,BT.oB,BT.uc,BT.oE,BT.oF,BT.oG,BT.mj,BT.oH] at e3
 ·cases e3
  cases r1.int;cases r2.int
  exact Hu pins s σ H _ _ _ _ Q I rv ru ⟨_,_,rfl,rfl,post.here R (.int _)⟩
 ·obtain ⟨c,e3⟩:=dj e3
  cases e3
  obtain ⟨ev,ov⟩:=r1.str
  obtain ⟨eu,ou⟩:=r2.str
  subst ev;subst eu
  have:=fG
  exact vh pins s σ H _ _ _ _ Q I rv ru ⟨_,_,rfl,rfl,by lia,post.here R (.str _ (rQ ov ou))⟩
 ·obtain ⟨c,e3⟩:=dj e3
  cases e3
  obtain ⟨a,vs,rfl,ha,ra⟩:=r1.tup
  obtain ⟨b,us,rfl,hb,rb⟩:=r2.tup
  cases rv;cases ru
  have l1:=ra.length
  have l2:=rb.length
  have:=fG
  refine zc I ha hb (by lia) (fun z=>?_) (fun z=>?_) fun p hp=>lA R hp (ra.append rb) post
  ·subst z;cases ra
   cases r2 with | d r=>exact post.here R r
  ·subst z;cases rb
   rw[Sy] at post
   cases r1 with | d r=>exact post.here R r
 ·obtain ⟨c,e3⟩:=dj e3
  cases e3
  obtain ⟨a,vs,rfl,ha,ra⟩:=r1.lst
  obtain ⟨b,us,rfl,hb,rb⟩:=r2.lst
  cases rv;cases ru
  have l1:=ra.length
  have l2:=rb.length
  have:=fG
  exact A4 I ha hb (by lia) fun p hp=>ji R hp (ra.append rb) post
noncomputable def PX:BT.Bin->Bool
 | .add=>false
 | .mul=>false
 | _=>true
theorem nJ {o:BT.Bin}{d d' z:BT.D} (ho:PX o=true) (e:BT.k9 o d d'=some z):∃ i j,d=.int i/\d'=.int j:=by
 cases o<;>first | exact BT.dQ ho | (cases d<;>first | exact cU e | (cases d'<;>first | exact cU e | exact ⟨_,_,rfl,rfl⟩))
theorem ID:OpR X (SK .Sub) (rOp X.prog X.w X.K (BT.pY .sub)):=by
 intro pins s σ H v u v' u' Q I rv ru h
 obtain ⟨m,h,x,y,z,h',R,rx,ry,e,post⟩:=h
 obtain ⟨d,d',q,e1,e2,e3,rfl,rfl⟩:=j6 e
 obtain ⟨i,j,rfl,rfl⟩:=nJ rfl e3
 rw[BT.oB] at e3
 cases e3
 cases (dP R rx e1).int;cases (dP R ry e2).int
 exact Hv pins s σ H _ _ _ _ Q I rv ru ⟨_,_,rfl,rfl,post.here R (.int _)⟩
theorem IE:OpR X (SK .Mod) (rOp X.prog X.w X.K (BT.pY .mod)):=by
 intro pins s σ H v u v' u' Q I rv ru h
 obtain ⟨m,h,x,y,z,h',R,rx,ry,e,post⟩:=h
 obtain ⟨d,d',q,e1,e2,e3,rfl,rfl⟩:=j6 e
 obtain ⟨i,j,rfl,rfl⟩:=nJ rfl e3
 rw[BT.oG] at e3
 obtain ⟨c,e3⟩:=dj e3
 cases e3
 cases (dP R rx e1).int;cases (dP R ry e2).int
 exact Hx pins s σ H _ _ _ _ Q I rv ru ⟨_,_,rfl,rfl,c,post.here R (.int _)⟩
theorem El:OpR X (SK .FloorDiv) (rOp X.prog X.w X.K (BT.pY .fdiv)):=by
 intro pins s σ H v u v' u' Q I rv ru h
 obtain ⟨m,h,x,y,z,h',R,rx,ry,e,post⟩:=h
 obtain ⟨d,d',q,e1,e2,e3,rfl,rfl⟩:=j6 e
 obtain ⟨i,j,rfl,rfl⟩:=nJ rfl e3
 rw[BT.mj] at e3
 obtain ⟨c,e3⟩:=dj e3
 simp only[Rn,decide_eq_true_eq] at c
 cases e3
 cases (dP R rx e1).int;cases (dP R ry e2).int
 exact DF pins s σ H _ _ _ _ Q I rv ru ⟨_,_,rfl,rfl,⟨c.1,c.2⟩,post.here R (.int _)⟩
theorem rR (h:BT.big i=true):-(2 ^ 64) < i/\i < 2 ^ 64:=by
 unfold BT.big at h
 have:=of_decide_eq_true h
 lia
theorem IF:OpR X (SK .Pow) (rOp X.prog X.w X.K (BT.pY .pow)):=by
 intro pins s σ H v u v' u' Q I rv ru h
 obtain ⟨m,h,x,y,z,h',R,rx,ry,e,post⟩:=h
 obtain ⟨d,d',q,e1,e2,e3,rfl,rfl⟩:=j6 e
 obtain ⟨i,j,rfl,rfl⟩:=nJ rfl e3
 rw[BT.oH] at e3
 obtain ⟨c,e3⟩:=dj e3
 simp only[Rn,decide_eq_true_eq] at c
 cases e3
 cases (dP R rx e1).int;cases (dP R ry e2).int
 refine Hy pins s σ H _ _ _ _ Q I rv ru ⟨_,_,rfl,rfl,⟨c.1.1,by lia,?_⟩,post.here R (.int _)⟩
 exact of_decide_eq_true c.2
theorem zd (I:Inv X pins σ H s) (ha:SqT X.K H a xs) (h1:2<=k) (h2:k<=1000) (hne:xs≠[]) (hz:xs.length*k.toNat<=sizeLine)
 (q:∀ p,H p=none->Q (.ref p) (upd H p (.tup (RN k.toNat xs).flatten))):wpAny (RX X.prog X.w) X.A (SK .Mult (.ref a) (.int k t)) (EP X pins σ Q) X.xe s:=by
 obtain ⟨its,r,p,_⟩:=I.tuple ha
 obtain ⟨⟨cls,dd,data,sl⟩,e,hc,n,hd⟩:=id p
 simp only at hc hd
 subst hc hd
 have hl:=r.length
 have hlen:its.toArray.size*k.toNat<=sizeLine:=by rw[Rp,← hl];exact hz
 have f0:Wl (fun x1 x2=>x1++x2) #[] (RN k.toNat its.toArray)=(RN k.toNat its).flatten.toArray:=by
  have:=foldl_rep its k.toNat []
  rw[Tt] at this
  exact this
 have hi:¬ its.toArray.isEmpty=true:=by
  intro z
  have z2:its=[]:=by simpa using z
  exact hne (r.kY.mp z2)
 refine WR (T:="tuple") (U:="int") (by decide) ⟨_,e,rfl⟩ (fun s'=>typeIs_int s' k t) mz F.fills_int_mul F.slot_int_rmul rO F.slot_int_index.lookup
  (TV F.slot_int_rmul (typeIs_int s k t) F.entry_int_rmul (F.args_int_rmul_2 _ _) (oR k t a its.toArray n dd sl)
   ⟨e,rfl,⟨_,e,rfl⟩,TV F.slot_tuple_mul ⟨_,e,rfl⟩ F.entry_tuple_mul (F.args_tuple_mul_2 _ _) (vP a its.toArray n dd sl k t (by lia) h2 hi (by lia) (by lia) hlen) ⟨e,?_⟩⟩)
 rw[f0]
 have hf:H s.heap.objs.size=none:=I.hok.fresh (Rr _)
 refine ⟨.ref s.heap.objs.size,_,I.laid (t':=s.toks) (o:=.tup (RN k.toNat xs).flatten) (fun b ob q=>Rk _ q) (Rr _) ?_,rfl,q _ hf⟩
 exact ⟨by rw[len_rep,T8];exact hz,_,r.rep k.toNat,IsTup.new _ _⟩
theorem A5 (I:Inv X pins σ H s) (hH:LL X.K H l xs) (h1:-(2 ^ 63)<=k) (h2:k<=1000) (hz:xs.length*k.toNat<=sizeLine)
 (q:∀ p,H p=none->Q (.ref p) (upd H p (.lst (RN k.toNat xs).flatten))):wpAny (RX X.prog X.w) X.A (SK .Mult (.ref l) (.int k t)) (EP X pins σ Q) X.xe s:=by
 have h2':k < 2 ^ 63:=by lia
 obtain ⟨z,its,n,r,hl,e⟩:=rdL I hH
 have hlen:its.toArray.size*k.toNat<=sizeLine:=by rw[Rp,← hl];exact hz
 have hcap:¬ its.toArray.size*k.toNat > (2 ^ 63 - 1) / 8:=by
  have:(sizeLine:Nat)<=(2 ^ 63 - 1) / 8:=by decide
  lia
 have hfit:¬ (!Builtin.List.listFitsIndex k)=true:=by
  rw[fitsIndex_both h1 h2']
  exact Ti
 have hlong:¬ SD (its.toArray.size*k.toNat)=true:=by
  rw[nZ hlen]
  exact Ti
 have hnew:Wl (fun x1 x2=>x1++x2) #[] (RN (if its.toArray.isEmpty=true then 0 else k.toNat) its.toArray)=(RN k.toNat its).flatten.toArray:=by
  have f0:∀ m:Nat,Wl (fun x1 x2=>x1++x2) #[] (RN m its.toArray)=(RN m its).flatten.toArray:=fun m=>by
   have:=foldl_rep its m []
   rw[Tt] at this
   exact this
  rw[f0]
  cases its with
  | nil=>simp
  | cons a r'=>rw[if_neg (by simp)]
 refine WR (T:="list") (U:="int") (by decide) ⟨_,e,rfl⟩ (fun s'=>typeIs_int s' k t) noFill_list_mul F.fills_int_mul F.slot_int_rmul repeat_list F.slot_int_index.lookup
  (TV F.slot_int_rmul (typeIs_int s k t) F.entry_int_rmul (F.args_int_rmul_2 _ _) (int___rmul___int_list k t l its.toArray n)
   ⟨e,rfl,⟨_,e,rfl⟩,TV F.slot_list_mul ⟨_,e,rfl⟩ F.entry_list_mul (F.args_list_mul_2 _ _) (AutoListH.list___mul___list_int_3 l its.toArray n k t hfit hcap hlong) ⟨e,?_⟩⟩)
 rw[hnew]
 exact ⟨.ref _,_,I.Lp (t':=s.toks) (r.rep k.toNat) (by rw[len_rep,T8];exact hz),rfl,q _ I.fresh⟩
theorem IG:OpR X (SK .Mult) (rOp X.prog X.w X.K (BT.pY .mul)):=by
 intro pins s σ H v u v' u' Q I rv ru h
 obtain ⟨m,h,x,y,z,h',R,rx,ry,e,post⟩:=h
 obtain ⟨d,d',q,e1,e2,e3,rfl,rfl⟩:=j6 e
 have r1:=dP R rx e1
 have r2:=dP R ry e2
 cases d<;>cases d'<;>first | exact cU e3 | simp only[BT.tZ,BT.oq,BT.oz,BT.oA,BT.oB,BT.uc,BT.oE,BT.oF,BT.oG,BT.mj,BT.oH] at e3
 ·obtain ⟨c,e3⟩:=dj e3
  cases e3
  cases r1.int;cases r2.int
  refine Hw pins s σ H _ _ _ _ Q I rv ru ⟨_,_,rfl,rfl,?_,post.here R (.int _)⟩
  rcases TJ _ _ ▸ c with c | c
  ·exact .inl (rR c)
  ·exact .inr (rR c)
 ·obtain ⟨c,e3⟩:=dj e3
  simp only[Rn,decide_eq_true_eq] at c
  cases e3
  obtain ⟨a,vs,rfl,ha,ra⟩:=r1.tup
  cases r2.int
  obtain ⟨t,rfl⟩:=ru
  cases rv
  have l1:=ra.length
  have:=fG
  simp only[Ue,List.isEmpty_eq_false_iff] at c
  refine zd I ha (by lia) (by lia) (fun z=>?_) (by rw[l1];lia) fun p hp=>lA R hp (ra.rep _) post
  subst z
  cases ra
  exact c.1.2 rfl
 ·obtain ⟨c,e3⟩:=dj e3
  simp only[Rn,decide_eq_true_eq] at c
  cases e3
  obtain ⟨a,vs,rfl,ha,ra⟩:=r1.lst
  cases r2.int
  obtain ⟨t,rfl⟩:=ru
  cases rv
  have l1:=ra.length
  have:=fG
  refine A5 I ha (by lia) (by lia) (by rw[l1];lia) fun p hp=>ji R hp (ra.rep _) post
end
mutual
noncomputable def pd:BT.D->PyData
 | .non=>.none
 | .bl b=>.bool b
 | .int i=>.int i
 | .str x=>.str x
 | .tup xs=>.tuple (pds xs)
 | .lst xs=>.list (pds xs)
noncomputable def pds:List BT.D->List PyData
 | []=>[]
 | x :: r=>pd x :: pds r
end
mutual
theorem mC:∀ x y:BT.D,PyData.eqv (pd x) (pd y)=BT.eqv x y
 | .non,.non=>rfl
 | .non,.bl _=>rfl
 | .non,.int _=>rfl
 | .non,.str _=>rfl
 | .non,.tup _=>by simp[pd,PyData.eqv,BT.eqv]
 | .non,.lst _=>by simp[pd,PyData.eqv,BT.eqv]
 | .bl _,.non=>rfl
 | .bl _,.bl _=>rfl
 | .bl _,.int _=>rfl
 | .bl _,.str _=>rfl
 | .bl _,.tup _=>by simp[pd,PyData.eqv,BT.eqv]
 | .bl _,.lst _=>by simp[pd,PyData.eqv,BT.eqv]
 | .int _,.non=>rfl
 | .int _,.bl _=>rfl
 | .int _,.int _=>rfl
 | .int _,.str _=>rfl
 | .int _,.tup _=>by simp[pd,PyData.eqv,BT.eqv]
 | .int _,.lst _=>by simp[pd,PyData.eqv,BT.eqv]
 | .str _,.non=>rfl
 | .str _,.bl _=>rfl
 | .str _,.int _=>rfl
 | .str _,.str _=>rfl
 | .str _,.tup _=>by simp[pd,PyData.eqv,BT.eqv]
 | .str _,.lst _=>by simp[pd,PyData.eqv,BT.eqv]
 | .tup _,.non=>by simp[pd,PyData.eqv,BT.eqv]
 | .tup _,.bl _=>by simp[pd,PyData.eqv,BT.eqv]
 | .tup _,.int _=>by simp[pd,PyData.eqv,BT.eqv]
 | .tup _,.str _=>by simp[pd,PyData.eqv,BT.eqv]
 | .tup xs,.tup ys=>by simp only[pd,PyData.eqv,BT.eqv];exact rS xs ys
 | .tup _,.lst _=>by simp[pd,PyData.eqv,BT.eqv]
 | .lst _,.non=>by simp[pd,PyData.eqv,BT.eqv]
 | .lst _,.bl _=>by simp[pd,PyData.eqv,BT.eqv]
 | .lst _,.int _=>by simp[pd,PyData.eqv,BT.eqv]
 | .lst _,.str _=>by simp[pd,PyData.eqv,BT.eqv]
 | .lst _,.tup _=>by simp[pd,PyData.eqv,BT.eqv]
 | .lst xs,.lst ys=>by simp only[pd,PyData.eqv,BT.eqv];exact rS xs ys
theorem rS:∀ xs ys:List BT.D,PyData.eqvAll (pds xs) (pds ys)=BT.oh xs ys
 | [],[]=>by simp[pds,PyData.eqvAll,BT.oh]
 | [],_ :: _=>by simp[pds,PyData.eqvAll,BT.oh]
 | _ :: _,[]=>by simp[pds,PyData.eqvAll,BT.oh]
 | x :: xs,y :: ys=>by simp only[pds,PyData.eqvAll,BT.oh];rw[mC x y,rS xs ys]
end
theorem jL:∀ {xs:List BT.D},(∀ x∈xs,(pd x).depth<=n)->PyData.depthAll (pds xs)<=n
 | [],_=>by simp[pds,PyData.depthAll]
 | x :: xs,h=>by
  simp only[pds,PyData.depthAll]
  exact Nat.max_le.mpr ⟨h x RE,jL fun y hy=>h y (Ru _ hy)⟩
theorem ja:∀ (n:Nat) (d:BT.D),BT.dok n d=true->(pd d).depth<=n
 | n,.non,_=>by simp[pd,PyData.depth]
 | n,.bl _,_=>by simp[pd,PyData.depth]
 | n,.int _,_=>by simp[pd,PyData.depth]
 | n,.str _,_=>by simp[pd,PyData.depth]
 | 0,.tup _,h=>by simp[BT.dok] at h
 | 0,.lst _,h=>by simp[BT.dok] at h
 | n+1,.tup xs,h=>by
  simp only[pd,PyData.depth]
  rw[BT.wY,SA] at h
  exact Nat.succ_le_succ (jL fun x hx=>ja n x (h x hx))
 | n+1,.lst xs,h=>by
  simp only[pd,PyData.depth]
  rw[BT.rC,SA] at h
  exact Nat.succ_le_succ (jL fun x hx=>ja n x (h x hx))
section
variable {K:Rj}
mutual
theorem fQ:∀ {v:V}{d:BT.D},RD K m H v d->(pd d).canLay0=true
 | _,_,.non=>rfl
 | _,_,.bl _=>rfl
 | _,_,.int _=>rfl
 | _,_,.str _ h=>by simpa [pd,PyData.canLay0] using h
 | _,_,.tup _ r=>by simp only[pd,PyData.canLay0];exact jj r
 | _,_,.lst _ r=>by simp only[pd,PyData.canLay0];exact jj r
theorem jj:∀ {vs:List V}{ds:List BT.D},RDs K m H vs ds->PyData.canLayAll0 (pds ds)=true
 | _,_,.nil=>by simp[pds,PyData.canLayAll0]
 | _,_,.cons r t=>by simp only[pds,PyData.canLayAll0];rw[fQ r,jj t];rfl
end
mutual
theorem ig (I:Inv X pins σ H s):∀ {v:V}{d:BT.D}{u:Rl},RD X.K m H v d->RelV v u->∃ as,Reads s.heap u (pd d) as
 | _,_,_,.non,r=>by cases r;exact ⟨_,.none⟩
 | _,_,_,.bl b,r=>by cases r;exact ⟨_,.bool b⟩
 | _,_,_,.int i,r=>by obtain ⟨t,rfl⟩:=r;exact ⟨_,.int i t⟩
 | _,_,_,.str x _,r=>by obtain ⟨t,rfl⟩:=r;exact ⟨_,.str x t⟩
 | _,_,_,.tup h r,q=>by
  cases q
  obtain ⟨its,r1,⟨o,e1,e2,n,e3⟩,_⟩:=I.tuple (h.elim (fun q=>.inl q.1) (fun ⟨o,its,n,q,_⟩=>.inr ⟨o,its,n,q⟩))
  obtain ⟨as,ra⟩:=j7 I r r1
  exact ⟨_,.tuple e1 e2 e3 (by simpa using ra)⟩
 | _,_,_,.lst h r,q=>by
  cases q
  obtain ⟨z,its,n,r1,_,e⟩:=rdL I (h.elim (fun q=>.inl q.1) .inr)
  obtain ⟨as,ra⟩:=j7 I r r1
  exact ⟨_,.list e rfl rfl (by simpa using ra)⟩
theorem j7 (I:Inv X pins σ H s):∀ {vs:List V}{ds:List BT.D}{us:List Rl},RDs X.K m H vs ds->c9 vs us->∃ as,ReadsAll s.heap us (pds ds) as
 | _,_,_,.nil,q=>by cases q;exact ⟨_,.nil⟩
 | _,_,_,.cons r t,q=>by
  cases q with
  | cons q1 q2 =>
   obtain ⟨as,ra⟩:=ig I r q1
   obtain ⟨bs,rb⟩:=j7 I t q2
   exact ⟨_,.cons ra rb⟩
end
theorem jM (I:Inv X pins σ H s) (r:RR X.K m H v d) (q:RelV v u):∃ as,Reads s.heap u (pd d) as:=by
 cases r with
 | d r=>exact ig I r q
 | l h r =>
  cases q
  obtain ⟨z,its,n,r1,_,e⟩:=rdL I (.inl (.inl h))
  obtain ⟨as,ra⟩:=j7 I r r1
  exact ⟨_,.list e rfl rfl (by simpa using ra)⟩
theorem jb (r:RR K m H v d):(pd d).canLay0=true:=by
 cases r with
 | d r=>exact fQ r
 | l h r=>simp only[pd,PyData.canLay0];exact jj r
theorem rT (h:BT.dX x y=true):min (pd x).depth (pd y).depth<=100:=by
 unfold BT.dX at h
 rcases TJ _ _ ▸ h with h | h
 ·have:=ja 100 x h;lia
 ·have:=ja 100 y h;lia
theorem jk (e:BT.kI o x y h=some (z,h')) :
 (∃ kvs b,y=.k kvs/\BT.inK o x kvs=some b/\z=.p (.bl b)/\h'=h)\/∃ d d' b,BT.rd x h=some d/\BT.rd y h=some d'/\BT.gE o d d'=some b/\z=.p (.bl b)/\h'=h:=by
 unfold BT.kI at e
 split at e
 ·rename_i kvs
  obtain ⟨b,e1,e2⟩:=dh e
  cases e2
  exact .inl ⟨kvs,b,rfl,e1,rfl,rfl⟩
 ·refine .inr ?_
  cases e1:BT.rd x h with
  | none=>rw[e1] at e;exact cU e
  | some d =>
   cases e2:BT.rd y h with
   | none=>rw[e1,e2] at e;exact cU e
   | some d' =>
    rw[e1,e2] at e
    obtain ⟨q,eq,er⟩:=dh e
    cases er
    exact ⟨d,d',q,rfl,rfl,eq,rfl,rfl⟩
theorem MA (hu:X.A.units+150 < Wy):OpR X (Su .Eq) (rOp X.prog X.w X.K (BT.kI .eq)):=by
 intro pins s σ H v u v' u' Q I rv ru h
 obtain ⟨m,h,x,y,z,h',R,rx,ry,e,post⟩:=h
 rcases jk e with ⟨kvs,b,rfl,e1,_,_⟩ | ⟨d,d',b,e1,e2,e3,rfl,rfl⟩
 ·exact absurd e1 (BT.oN rfl)
 ·have r1:=dP R rx e1
  have r2:=dP R ry e2
  rw[BT.rF] at e3
  obtain ⟨c,e3⟩:=dj e3
  cases e3
  obtain ⟨as,ra⟩:=jM I r1 rv
  obtain ⟨bs,rb⟩:=jM I r2 ru
  have:=rT c
  refine SeqAt.compareEq_reads ra rb (jb r1) (jb r2) (by lia) ?_
  rw[mC]
  exact ⟨.bl _,H,I,rfl,post.here R (.bl _)⟩
theorem MB (hu:X.A.units+150 < Wy):OpR X (Su .NotEq) (rOp X.prog X.w X.K (BT.kI .ne)):=by
 intro pins s σ H v u v' u' Q I rv ru h
 obtain ⟨m,h,x,y,z,h',R,rx,ry,e,post⟩:=h
 rcases jk e with ⟨kvs,b,rfl,e1,_,_⟩ | ⟨d,d',b,e1,e2,e3,rfl,rfl⟩
 ·exact absurd e1 (BT.oN rfl)
 ·have r1:=dP R rx e1
  have r2:=dP R ry e2
  rw[BT.nC] at e3
  obtain ⟨c,e3⟩:=dj e3
  cases e3
  obtain ⟨as,ra⟩:=jM I r1 rv
  obtain ⟨bs,rb⟩:=jM I r2 ru
  have:=rT c
  refine SeqAt.compareNe_reads ra rb (jb r1) (jb r2) (by lia) ?_
  rw[mC]
  exact ⟨.bl _,H,I,rfl,post.here R (.bl _)⟩
noncomputable def MC:BT.Cm->Bool
 | .lt=>true
 | .le=>true
 | .gt=>true
 | .ge=>true
 | _=>false
theorem Em {o:BT.Cm}{d d':BT.D}{b:Bool} (ho:MC o=true) (e:BT.gE o d d'=some b):∃ i j,d=.int i/\d'=.int j:=by
 cases o<;>first | exact BT.dQ ho | (cases d<;>first | exact cU e | (cases d'<;>first | exact cU e | exact ⟨_,_,rfl,rfl⟩))
theorem rV {o:BT.Cm}{c:CmpOp}{f:Int->Int->Bool} (op:OpR X (Su c) (rI0 fun i j=>.bl (f i j))) (ho:MC o=true) (hm:BT.memC o=false) (hf:∀ i j,BT.gE o (.int i) (.int j)=some (f i j)):OpR X (Su c) (rOp X.prog X.w X.K (BT.kI o)):=by
 intro pins s σ H v u v' u' Q I rv ru h
 obtain ⟨m,h,x,y,z,h',R,rx,ry,e,post⟩:=h
 rcases jk e with ⟨kvs,b,rfl,e1,_,_⟩ | ⟨d,d',b,e1,e2,e3,rfl,rfl⟩
 ·exact absurd e1 (BT.oN hm)
 ·obtain ⟨i,j,rfl,rfl⟩:=Em ho e3
  rw[hf] at e3
  cases e3
  cases (dP R rx e1).int;cases (dP R ry e2).int
  exact op pins s σ H _ _ _ _ Q I rv ru ⟨_,_,rfl,rfl,post.here R (.bl _)⟩
theorem xu (r:RR K m H v d):decide (v=.non)=BT.jF d:=by
 cases r with
 | d r=>cases r<;>rfl
 | l h r=>rfl
theorem En {v:V}{d:BT.D}{u:Rl}{b:Bool} (r:RR K m H v d) (rv:RelV v u):isSame u (.bool b)=pure (BT.rD b d):=by
 cases r with
 | d r=>cases r<;>first | (cases rv;cases b<;>first | rfl | (rename_i c;cases c<;>rfl)) | (obtain ⟨t,rfl⟩:=rv;cases b<;>rfl)
 | l h r=>cases rv;rfl
theorem II:OpR X (Su .Is) (rOp X.prog X.w X.K (BT.kI .isN)):=by
 intro pins s σ H v u v' u' Q I rv ru h
 obtain ⟨m,h,x,y,z,h',R,rx,ry,e,post⟩:=h
 rcases jk e with ⟨kvs,b,rfl,e1,_,_⟩ | ⟨d,d',b,e1,e2,e3,rfl,rfl⟩
 ·exact absurd e1 (BT.oN rfl)
 ·have r1:=dP R rx e1
  have r2:=dP R ry e2
  cases d'<;>first | exact cU e3 | simp only[BT.nE,BT.nF,BT.nG,BT.nH,BT.lg,BT.j4,BT.gW,BT.jh,BT.iJ,BT.iK] at e3
  cases e3
  cases r2.non
  refine Hz pins s σ H _ _ _ _ Q I rv ru ⟨rfl,?_⟩
  rw[xu r1]
  exact post.here R (.bl _)
theorem Eo:OpR X (Su .IsNot) (rOp X.prog X.w X.K (BT.kI .notN)):=by
 intro pins s σ H v u v' u' Q I rv ru h
 obtain ⟨m,h,x,y,z,h',R,rx,ry,e,post⟩:=h
 rcases jk e with ⟨kvs,b,rfl,e1,_,_⟩ | ⟨d,d',b,e1,e2,e3,rfl,rfl⟩
 ·exact absurd e1 (BT.oN rfl)
 ·have r1:=dP R rx e1
  have r2:=dP R ry e2
  cases d'<;>first | exact cU e3 | simp only[BT.nE,BT.nF,BT.nG,BT.nH,BT.lg,BT.j4,BT.yW,BT.gW,BT.jh,BT.iJ,BT.iK] at e3
  ·cases e3
   cases r2.non
   refine DG pins s σ H _ _ _ _ Q I rv ru ⟨rfl,?_⟩
   rw[xu r1]
   exact post.here R (.bl _)
  ·cases e3
   cases r2.bl
   cases ru
   exact Ro (wpAny_of_eq (En r1 rv) (wpAny_pure ⟨.bl _,H,I,rfl,post.here R (.bl _)⟩))
open Classical in
noncomputable def fm (h:Heap) (dx:PyData) (y:Rl):Bool:=if q:∃ db as,Reads h y db as/\db.canLay0=true then PyData.eqv (Classical.choose q) dx else false
theorem vQ (r:Reads h y db as) (c:db.canLay0=true):fm h dx y=PyData.eqv db dx:=by
 have q:∃ db as,Reads h y db as/\db.canLay0=true:=⟨db,as,r,c⟩
 unfold fm
 rw[dif_pos q]
 obtain ⟨as',r',c'⟩:=Classical.choose_spec q
 rw[SeqAt.Reads.unique _ _ _ _ _ c r r']
theorem lB (I:Inv X pins σ H s):∀ {vs:List V}{ds:List BT.D}{us:List Rl},RDs X.K m H vs ds->c9 vs us->us.any (fm s.heap (pd d))=ds.any fun y=>BT.eqv y d
 | _,_,_,.nil,q=>by cases q;rfl
 | _,_,_,.cons r t,q=>by
  cases q with
  | cons q1 q2 =>
   obtain ⟨as,ra⟩:=ig I r q1
   rw[Ur,Ur,lB I t q2,vQ ra (fQ r),mC]
theorem iL (hu:X.A.units+150 < Wy) (I:Inv X pins σ H s) (rx:RR X.K m H v d) (rv:RelV v u):∀ {vs:List V}{ds:List BT.D}{us:List Rl},RDs X.K m H vs ds->c9 vs us->(ds.all fun y=>BT.dX y d)=true →
 ∀ y∈us,SeqAt.EqAt X.A.in1 s y u (fm s.heap (pd d) y)
 | _,_,_,.nil,q,_=>by cases q;intro y hy;simp at hy
 | _,_,_,.cons r t,q,c=>by
  cases q with
  | cons q1 q2 =>
   rw[Vt,Rn] at c
   intro y hy
   rcases List.mem_cons.mp hy with rfl | hy
   ·obtain ⟨as,ra⟩:=ig I r q1
    obtain ⟨bs,rb⟩:=jM I rx rv
    rw[vQ ra (fQ r)]
    have:=rT c.1
    refine SeqAt.eqAt_reads _ _ _ _ _ _ _ _ ra rb (fQ r) (jb rx) ?_
    show X.A.units+1+_ < _
    lia
   ·exact iL hu I rx rv t q2 c.2 y hy
theorem IJ (hu:X.A.units+150 < Wy) (hk:∀ {kvs:BT.Kd}{x:BT.W}{b:Bool}{m:List Rz}{H:Hp}{v u:V}{v' u':Rl}{pins σ s Q},Inv X pins σ H s->RelV v v'->RelV u u'->RW X.prog X.w X.K m H v x->RW X.prog X.w X.K m H u (.k kvs)->BT.inK .mem x kvs=some b->Q (V.bl b) H →
 wpAny (RX X.prog X.w) X.A (Su .In v' u') (EP X pins σ Q) X.xe s):OpR X (Su .In) (rOp X.prog X.w X.K (BT.kI .mem)):=by
 intro pins s σ H v u v' u' Q I rv ru h
 obtain ⟨m,h,x,y,z,h',R,rx,ry,e,post⟩:=h
 rcases jk e with ⟨kvs,b,rfl,e1,rfl,rfl⟩ | ⟨d,d',b,e1,e2,e3,rfl,rfl⟩
 ·exact hk I rv ru rx ry e1 (post.here R (.bl _))
 ·have r1:=dP R rx e1
  have r2:=dP R ry e2
  cases d'<;>first | exact cU e3 | simp only[BT.nE,BT.nF,BT.nG,BT.nH,BT.lg,BT.j4,BT.gW,BT.jh,BT.iJ,BT.iK] at e3
  ·obtain ⟨c,e3⟩:=dj e3
   cases e3
   obtain ⟨a,vs,rfl,ha,ra⟩:=r2.tup
   cases ru
   obtain ⟨its,q1,q2,_⟩:=I.tuple ha
   refine SeqAt.in_tupleAt (fm s.heap (pd d)) q2 (fun y hy=>iL hu I r1 rv ra q1 c y (by simpa using hy)) ⟨.bl _,H,I,rfl,?_⟩
   rw[show its.toArray.any (fm s.heap (pd d))=its.any (fm s.heap (pd d)) by simp,lB I ra q1]
   exact post.here R (.bl _)
  ·obtain ⟨c,e3⟩:=dj e3
   cases e3
   obtain ⟨a,vs,rfl,ha,ra⟩:=r2.lst
   cases ru
   obtain ⟨z,its,n,q1,_,q2⟩:=rdL I ha
   refine SeqAt.in_listAt (fm s.heap (pd d)) ⟨_,q2,rfl,_,rfl⟩ (fun y hy=>iL hu I r1 rv ra q1 c y (by simpa using hy)) ⟨.bl _,H,I,rfl,?_⟩
   rw[show its.toArray.any (fm s.heap (pd d))=its.any (fm s.heap (pd d)) by simp,lB I ra q1]
   exact post.here R (.bl _)
theorem Ep (hu:X.A.units+150 < Wy) (hk:∀ {kvs:BT.Kd}{x:BT.W}{b:Bool}{m:List Rz}{H:Hp}{v u:V}{v' u':Rl}{pins σ s Q},Inv X pins σ H s->RelV v v'->RelV u u'->RW X.prog X.w X.K m H v x->RW X.prog X.w X.K m H u (.k kvs)->BT.inK .nmem x kvs=some b->Q (V.bl b) H →
 wpAny (RX X.prog X.w) X.A (Su .NotIn v' u') (EP X pins σ Q) X.xe s):OpR X (Su .NotIn) (rOp X.prog X.w X.K (BT.kI .nmem)):=by
 intro pins s σ H v u v' u' Q I rv ru h
 obtain ⟨m,h,x,y,z,h',R,rx,ry,e,post⟩:=h
 rcases jk e with ⟨kvs,b,rfl,e1,rfl,rfl⟩ | ⟨d,d',b,e1,e2,e3,rfl,rfl⟩
 ·exact hk I rv ru rx ry e1 (post.here R (.bl _))
 ·have r1:=dP R rx e1
  have r2:=dP R ry e2
  cases d'<;>first | exact cU e3 | simp only[BT.nE,BT.nF,BT.nG,BT.nH,BT.lg,BT.j4,BT.gW,BT.jh,BT.iJ,BT.iK] at e3
  ·obtain ⟨c,e3⟩:=dj e3
   cases e3
   obtain ⟨a,vs,rfl,ha,ra⟩:=r2.tup
   cases ru
   obtain ⟨its,q1,q2,_⟩:=I.tuple ha
   refine SeqAt.notIn_tupleAt (fm s.heap (pd d)) q2 (fun y hy=>iL hu I r1 rv ra q1 c y (by simpa using hy)) ⟨.bl _,H,I,rfl,?_⟩
   rw[show its.toArray.any (fm s.heap (pd d))=its.any (fm s.heap (pd d)) by simp,lB I ra q1]
   exact post.here R (.bl _)
  ·obtain ⟨c,e3⟩:=dj e3
   cases e3
   obtain ⟨a,vs,rfl,ha,ra⟩:=r2.lst
   cases ru
   obtain ⟨z,its,n,q1,_,q2⟩:=rdL I ha
   refine SeqAt.notIn_listAt (fm s.heap (pd d)) ⟨_,q2,rfl,_,rfl⟩ (fun y hy=>iL hu I r1 rv ra q1 c y (by simpa using hy)) ⟨.bl _,H,I,rfl,?_⟩
   rw[show its.toArray.any (fm s.heap (pd d))=its.any (fm s.heap (pd d)) by simp,lB I ra q1]
   exact post.here R (.bl _)
end
section
variable {P:RG}{w:Sb}{K:Rj}{m m':List Rz}{H H':Hp}
theorem RKs.length (r:RKs K m H vs kvs):vs.length=kvs.length:=by
 induction r with
 | nil=>rfl
 | cons _ _ _ ih=>simp[ih]
theorem ze (e:p.1=k):BT.dZ (p :: r) k=some p.2:=by simp[BT.dZ,Tz,e]
theorem zf (e:¬ p.1=k):BT.dZ (p :: r) k=BT.dZ r k:=by simp[BT.dZ,Tz,e]
theorem RKs.get (r:RKs K m H vs kvs) (k:Key):(BT.dZ kvs k=none/\rf vs k=none)\/∃ v d,BT.dZ kvs k=some d/\rf vs k=some v/\RD K m H v d:=by
 induction r with
 | nil=>exact .inl ⟨rfl,rfl⟩
 | @cons j v d vs kvs hk r t ih =>
  by_cases c:j=k
  ·exact .inr ⟨v,d,ze c,tU c,r⟩
  ·rw[zf (p:=(j,d)) c,tV (p:=(j,v)) c];exact ih
theorem oS (r:RD K m H v d) (e:BT.jB d=some k):v=kV k:=by
 cases r<;>cases e<;>rfl
theorem A6 (r:RD K m H v d) (e:BT.jB d=some k):RD K m H (kV k) (BT.kH k):=by
 cases r with
 | int i=>cases e;exact .int i
 | str x h=>cases e;exact .str x h
 | _=>cases e
inductive A7 (X:Cx) (m:List Rz) (H:Hp) (s:Rm) (a:Rz) (kvs:List (BT.Ky×BT.D)) (k:Key):Prop where
 | no (vs:List (Key×Rl)) (d:s.heap.DictOf (dg X.prog X.w) a vs) (n:(a==Td)=false) (e1:BT.dZ kvs k=none) (e2:valueAt vs k=none):A7 X m H s a kvs k
 | is (vs:List (Key×Rl)) (d:s.heap.DictOf (dg X.prog X.w) a vs) (n:(a==Td)=false) (x:BT.D) (v:V) (u:Rl) (e1:BT.dZ kvs k=some x) (e2:valueAt vs k=some u) (r:RelV v u) (q:RD X.K m H v x):A7 X m H s a kvs k
theorem A8 (I:Inv X pins σ H s) (h:Rd H a (.dK ws)) (rk:RKs X.K m H ws kvs) (k:Key):A7 X m H s a kvs k:=by
 obtain ⟨z,hd,vs,rel,dd⟩:=kB I.hok h
 have rv:=rel.val k
 rcases rk.get k with ⟨g1,g2⟩ | ⟨v,d,g1,g2,g3⟩
 ·rw[g2] at rv
  cases e:valueAt vs k with
  | none=>exact .no vs dd hd g1 e
  | some u=>rw[e] at rv;exact rv.elim
 ·rw[g2] at rv
  cases e:valueAt vs k with
  | none=>rw[e] at rv;exact rv.elim
  | some u=>rw[e] at rv;exact .is vs dd hd d v u g1 e rv g3
end
section
theorem RDs.atI {K:Rj} (r:RDs K m H vs ds) (e:BT.atP ds i=some d):∃ v,L2.atI vs i=some v/\RD K m H v d:=by
 unfold BT.atP at e
 unfold L2.atI
 obtain ⟨j,h1,h2⟩:=Option.bind_eq_some_iff.mp e
 obtain ⟨v,q1,q2⟩:=r.get h2
 refine ⟨v,?_,q2⟩
 rw[r.length]
 show ((BT.place ds.length i).bind fun j=>vs[j]?)=some v
 rw[h1]
 exact q1
theorem Er {x y:BT.W}{h:BT.HH}{z:BT.W}{h':BT.HH} (e:BT.D4 x y h=some (z,h')) :
 (∃ kvs k d,x=.k (.t kvs)/\y=.p (.str k)/\BT.gj k kvs=some d/\z=.p d/\h'=h)\/(∃ kvs e k d,x=.k (.l kvs)/\y=.p e/\BT.jB e=some k/\BT.dZ kvs k=some d/\z=.p d/\h'=h)\/∃ d d' b,BT.rd x h=some d/\BT.rd y h=some d'/\BT.dF d d'=some b/\z=.p b/\h'=h:=by
 unfold BT.D4 at e
 split at e
 ·rename_i kvs
  obtain ⟨b,e1,e2⟩:=dh e
  cases e2
  cases kvs with
  | t kvs =>
   cases y with
   | p d =>
    cases d with
    | str x=>exact .inl ⟨kvs,_,b,rfl,rfl,e1,rfl,rfl⟩
    | _=>exact cU e1
   | _=>exact cU e1
  | l kvs =>
   cases y with
   | p d =>
    obtain ⟨k,g1,g2⟩:=Option.bind_eq_some_iff.mp (show (BT.jB d).bind (BT.dZ kvs)=some b from e1)
    exact .inr (.inl ⟨kvs,d,k,b,rfl,rfl,g1,g2,rfl,rfl⟩)
   | _=>exact cU e1
 ·refine .inr (.inr ?_)
  cases e1:BT.rd x h with
  | none=>rw[e1] at e;exact cU e
  | some d =>
   cases e2:BT.rd y h with
   | none=>rw[e1,e2] at e;exact cU e
   | some d' =>
    rw[e1,e2] at e
    obtain ⟨q,eq,er⟩:=dh e
    cases er
    exact ⟨d,d',q,rfl,rfl,eq,rfl,rfl⟩
theorem A9 {K:Rj}:∀ {es:List (Str×V)}{kvs:List (Str×BT.D)}{vs:List (Key×Rl)},RDk K es kvs->KV (es.map fun q=>((Sum.inr q.1:Key),q.2)) vs->BT.gj k kvs=some d →
 ∃ u v,valueAt vs (Sum.inr k)=some u/\RelV v u/\∀ m H,RD K m H v d
 | _,_,_,.nil,_,e=>by simp[BT.gj] at e
 | _,_,_,@RDk.cons _ x v dd es kvs r t,q,e=>by
  cases q with
  | @cons p z l1 l2 q1 q2 =>
   obtain ⟨z1,z2⟩:=z
   obtain ⟨q11,q12⟩:=q1
   simp only at q11 q12
   subst q11
   rw[BT.gj] at e
   by_cases c:k=x
   ·rw[if_pos c] at e
    cases e
    subst c
    exact ⟨z2,v,by simp[valueAt],q12,r⟩
   ·rw[if_neg c] at e
    obtain ⟨u,v',h1,h2,h3⟩:=A9 t q2 e
    refine ⟨u,v',?_,h2,h3⟩
    have ne:¬ ((Sum.inr x:Key)=Sum.inr k):=fun z=>c (Sum.inr.inj z).symm
    simp only[valueAt] at h1 ⊢
    rw[WC (by simpa using ne)]
    exact h1
theorem zg (h:PyData.strOk x=true) (hc:c∈x.cps.toList):PyData.strOk ⟨#[c]⟩=true:=by
 simp only[PyData.strOk,Array.all_eq_true_iff_forall_mem] at h ⊢
 intro y hy
 simp at hy
 subst hy
 exact h y (by simpa using hc)
theorem IK:IxR X (rOp X.prog X.w X.K BT.D4):=by
 intro value slice pins s σ H v u v' u' Q I rv ru h hs
 obtain ⟨m,h,x,y,z,h',R,rx,ry,e,post⟩:=h
 rcases Er e with ⟨kvs,k,d,rfl,rfl,e1,rfl,rfl⟩ | ⟨kvs,e',k,d,rfl,rfl,e0,e1,rfl,rfl⟩ | ⟨d,d',b,e1,e2,e3,rfl,rfl⟩
 ·cases rx with
  | @k a es _ kd rk =>
   cases rv
   cases ry with
   | p ry =>
    cases ry with
    | str _ ok =>
     obtain ⟨t,rfl⟩:=ru
     obtain ⟨hm,vs,kv,dd⟩:=kd
     obtain ⟨w',z,h1,h2,h3⟩:=A9 rk kv e1
     have D:=dd s.heap I.kIn
     refine W9 (ops:=[.ref a,.str k t]) D.typeIs slot_dict_getitem.lookup ?_ hs
     exact wpAny_getItem_of (knd:=dg X.prog X.w) (iI _ _ k t) D.mapOf h1 ⟨z,H,I.tok _,h2,post.here R (h3 _ _)⟩
 ·cases rx with
  | @kl a ob ws _ hh rk =>
   cases rv
   cases ry with
   | p ry =>
    have ek:=oS ry e0
    subst ek
    cases A8 I (.inr ⟨_,hh.1⟩) rk k with
    | no _ _ _ g1 _=>rw[g1] at e1;exact cU e1
    | is vs dd n x v1 u1 g1 g2 g3 g4 =>
     rw[g1] at e1
     cases e1
     refine W9 (ops:=[.ref a,u']) dd.typeIs slot_dict_getitem.lookup ?_ hs
     exact wpAny_getItem_of (knd:=dg X.prog X.w) (qB ru) dd.mapOf g2 ⟨v1,H,I.tok _,g3,post.here R g4⟩
 ·have r1:=dP R rx e1
  have r2:=dP R ry e2
  cases d<;>cases d'<;>first | exact cU e3 | simp only[BT.gk,BT.fF,BT.jG] at e3
  ·split at e3
   ·rename_i c
    obtain ⟨cc,e4,e5⟩:=dh e3
    subst e5
    obtain ⟨rfl,ok⟩:=r1.str
    cases r2.int
    have:=fG
    refine HK value slice pins s σ H _ _ _ _ Q I rv ru ⟨_,_,cc,rfl,rfl,by lia,e4,post.here R (.str _ (zg ok ?_))⟩ hs
    obtain ⟨j,h1,h2⟩:=Option.bind_eq_some_iff.mp e4
    exact RJ h2
   ·exact cU e3
  ·obtain ⟨a,vs,rfl,ha,ra⟩:=r1.tup
   cases r2.int
   obtain ⟨z,q1,q2⟩:=ra.atI e3
   exact HJ value slice pins s σ H _ _ _ _ Q I rv ru ⟨a,vs,_,z,rfl,rfl,ha,q1,post.here R q2⟩ hs
  ·obtain ⟨a,vs,rfl,ha,ra⟩:=r1.lst
   cases r2.int
   obtain ⟨z,q1,q2⟩:=ra.atI e3
   exact DS value slice pins s σ H _ _ _ _ Q I rv ru ⟨a,vs,_,z,rfl,rfl,ha.sq,q1,post.here R q2⟩ hs
theorem lC (n d:Nat) (o:Option Int):BT.clip n d o=HT.sIx n d o:=by
 cases o with
 | none=>rfl
 | some v =>
  simp only[BT.clip,HT.sIx]
  split
  ·rfl
  ·split
   ·lia
   ·lia
theorem qd {E:Rl->Rm->Prop}{lo:Option Int} (ht:IsTup s.heap t items) (hs:s.heap.IsSliceOf sl vl vu .none) (pl:Wf vl lo) (pu:Wf vu hi)
 (hw:HT.sIx items.size 0 lo=0/\HT.sIx items.size items.size hi=items.size) (h:Q (.ref t) s):wpAny (RX prog w) A (VX (.ref t) (.ref sl)) Q E s:=by
 obtain ⟨os,hos,hcs,hds⟩:=id hs
 have hTs:s.TypeIs (.ref sl) "slice":=⟨os,hos,hcs⟩
 unfold VX
 try with_reducible refine Tf ?_
 first | refine Ro (wpAny_pure ?_) | skip
 refine Ro (wpAny_sequenceKey ht.typeIs (by decide) ?_)
 refine Ro (W7 (name:=RM "__getitem__") ht.typeIs SN
  (Wh SN ht.typeIs entry_tuple_getitem ?_ (args_tuple_getitem _ _)))
 show wpAny _ _ (Vf (.ref t) >>= _) _ _ s
 refine Ro (tupleItemsOf_ ht ?_)
 refine Ro (UH hTs ?_)
 rw[if_pos (by decide)]
 refine Ro (HT.i6 hs pl pu ?_)
 have hno:(((HT.sIx items.size 0 lo:Nat):Int)==0&&(1:Int)==1&&(HT.sIx items.size items.size hi - HT.sIx items.size 0 lo)==items.size)=true:=by
  rw[hw.1,hw.2];simp
 show wpAny _ _ (if (((HT.sIx items.size 0 lo:Nat):Int)==0&&(1:Int)==1&&(HT.sIx items.size items.size hi - HT.sIx items.size 0 lo)==items.size)=true then _ else _) _ _ s
 rw[if_pos hno]
 unfold Builtin.Tuple.tupleIsExact
 refine Ro (Ro (UH ht.typeIs (wpAny_pure ?_)))
 rw[if_pos (by decide)]
 refine Ro (wpAny_rule ?_)
 first
  | exact wpAny_pure ⟨_,rfl,wpAny_pure h⟩
  | exact wpAny_pure ⟨_,rfl,h⟩
  | exact Ro (wpAny_pure (wpAny_pure ⟨_,rfl,wpAny_pure h⟩))
inductive rSl (P:RG) (w:Sb) (K:Rj) (v:V) (lo hi:Option Int) (H:Hp) (Q:VK):Prop where
 | mk (m:List Rz) (h:BT.HH) (x:BT.W) (d b:BT.D) (R:RH K m H h) (rx:RW P w K m H v x) (e:BT.rd x h=some d) (e2:BT.vD d lo hi=some b) (p:Post P w K m H (.p b) h Q):rSl P w K v lo hi H Q
theorem RDs.cut {K:Rj} (r:RDs K m H vs ds) (lo hi:Option Int):RDs K m H (tS vs lo hi) (BT.cut ds lo hi):=by
 unfold tS BT.cut
 rw[lC,lC,r.length]
 exact (r.drop _).take _
theorem zh {lo:Option Int} (h1:HT.sIx ds.length 0 lo=0) (h2:HT.sIx ds.length ds.length hi=ds.length):BT.cut ds lo hi=ds:=by
 unfold BT.cut
 rw[lC,lC,h1,h2]
 simp
theorem osl:SlR X (rSl X.prog X.w X.K):=by
 intro pins s σ H v v' vl vu lo hi sl Q I rv hs pl pu h
 obtain ⟨m,h,x,d,b,R,rx,e1,e2,post⟩:=h
 have r1:=dP R rx e1
 cases d<;>simp only[BT.vD] at e2<;>try contradiction
 ·cases e2
  obtain ⟨a,vs,rfl,ha,ra⟩:=r1.tup
  cases rv
  by_cases c:HT.sIx vs.length 0 lo=0/\HT.sIx vs.length vs.length hi=vs.length
  ·obtain ⟨its,q1,q2,_⟩:=I.tuple ha
   have hl:its.toArray.size=vs.length:=by rw[Rp];exact q1.length.symm
   refine ⟨"tuple",_,PyProof.Rows.slot_tuple_getitem.lookup,q2.typeIs,qd q2 hs pl pu (by rw[hl];exact c) ⟨.ref a,H,I,rfl,?_⟩⟩
   cases r1 with
   | d r =>
    refine post.here R ?_
    rw[zh (by rw[← ra.length];exact c.1) (by rw[← ra.length];exact c.2)]
    exact r
  ·exact HG pins s σ H (.ref a) (.ref a) vl vu lo hi sl Q I rfl hs pl pu ⟨a,vs,rfl,ha,c,fun p hp=>lA R hp (ra.cut lo hi) post⟩
 ·cases e2
  obtain ⟨a,vs,rfl,ha,ra⟩:=r1.lst
  exact DT pins s σ H _ _ vl vu lo hi sl Q I rv hs pl pu ⟨a,vs,rfl,ha.sq,fun p hp=>ji R hp (ra.cut lo hi) post⟩
end
theorem uv (m:BT.Me) (d:BT.D) (as:List BT.W) (h:BT.HH):BT.meW m (.p d) as h=(match BT.dG as with | some ds=>(BT.meD m d ds).map fun x=>(.p x,h) | none=>none):=by cases m<;>rfl
section
inductive rMe (P:RG) (w:Sb) (K:Rj) (me:BT.Me) (v:V) (vs:List V) (H:Hp) (Q:VK):Prop where
 | mk (m:List Rz) (h:BT.HH) (x:BT.W) (ws:List BT.W) (z:BT.W) (h':BT.HH) (R:RH K m H h) (rx:RW P w K m H v x) (rs:RWs P w K m H vs ws) (e:BT.meW me x ws h=some (z,h')) (p:Post P w K m H z h' Q):rMe P w K me v vs H Q
theorem getD_some {α:Type}{xs:List α}{n:Nat}{a:α} (h:xs[n]?=some a):n < xs.length:=by
 rcases R0 n xs.length with z | z
 ·exact z
 ·rw[RC z] at h;exact cU h
theorem zj:MtR X "list.append" (rMe X.prog X.w X.K .append):=by
 intro pins s σ H v vs v' us Q I rv rus h
 obtain ⟨m,h,x,ws,z,h',R,rx,rws,e,post⟩:=h
 cases x with
 | p d=>cases ws with
  | nil=>exact cU e
  | cons _ _=>rw[uv] at e;split at e<;>(try exact cU e)
 | k kvs=>(first | exact cU e | simp[BT.meW] at e)
 | c _ _=>(first | exact cU e | simp[BT.meW] at e)
 | x _=>(first | exact cU e | simp[BT.meW] at e)
 | o kvs=>(first | exact cU e | simp[BT.meW] at e)
 | r n =>
  cases rws with
  | nil=>(first | exact cU e | simp[BT.meW] at e)
  | @cons y wy _ _ ry t =>
   cases t with
   | cons _ _=>cases ry<;>(first | exact cU e | simp[BT.meW] at e)
   | nil =>
    cases ry with
    | r _=>(first | exact cU e | simp[BT.meW] at e)
    | k _ _=>(first | exact cU e | simp[BT.meW] at e)
    | kl _ _=>(first | exact cU e | simp[BT.meW] at e)
    | c _ _=>(first | exact cU e | simp[BT.meW] at e)
    | x _=>(first | exact cU e | simp[BT.meW] at e)
    | g _ _=>(first | exact cU e | simp[BT.meW] at e)
    | o _=>(first | exact cU e | simp[BT.meW] at e)
    | p ry =>
     rw[BT.vE] at e
     cases g:BT.lat h n with
     | none=>rw[g] at e;exact cU e
     | some xs =>
      rw[g] at e
      simp only at e
      obtain ⟨c,e⟩:=dj e
      cases e
      cases rx with
      | @r a _ hn =>
       obtain ⟨us',hH,r⟩:=R.cell n a xs hn g
       have:=fG
       have hl:=r.length
       exact yL pins s σ H _ _ _ _ Q I rv rus ⟨a,us',y,rfl,rfl,hH,by lia,post _ _ m (i9 (RJ hn) hH) (R.set hn hH (r.append (.cons ry .nil))) (.p .non)⟩
theorem Ba {α:Type}{xs:List α}{d:α} (h:xs.getLast?=some d):xs[xs.length - 1]?=some d:=by rw[← List.getLast?_eq_getElem?];exact h
theorem IL:MtR X "list.pop" (rMe X.prog X.w X.K .pop):=by
 intro pins s σ H v vs v' us Q I rv rus h
 obtain ⟨m,h,x,ws,z,h',R,rx,rws,e,post⟩:=h
 cases x with
 | p d=>cases ws with
  | nil=>exact cU e
  | cons _ _=>rw[uv] at e;split at e<;>(try exact cU e)
 | k kvs=>(first | exact cU e | simp[BT.meW] at e)
 | c _ _=>(first | exact cU e | simp[BT.meW] at e)
 | x _=>(first | exact cU e | simp[BT.meW] at e)
 | o kvs=>(first | exact cU e | simp[BT.meW] at e)
 | r n =>
  cases rws with
  | cons _ _=>(first | exact cU e | simp[BT.meW] at e)
  | nil =>
   rw[BT.D3] at e
   cases g:BT.lat h n with
   | none=>rw[g] at e;exact cU e
   | some xs =>
    rw[g] at e
    simp only at e
    cases gl:xs.getLast? with
    | none=>rw[gl] at e;exact cU e
    | some d =>
     rw[gl] at e
     cases e
     cases rx with
     | @r a _ hn =>
      obtain ⟨us',hH,r⟩:=R.cell n a xs hn g
      have hl:=r.length
      obtain ⟨y,hy,ry⟩:=r.get (Ba gl)
      have x1:Ext m H m (upd H a (.lst us'.dropLast)):=i9 (RJ hn) hH
      exact HN pins s σ H _ _ _ _ Q I rv rus ⟨a,us',y,rfl,rfl,hH,by rw[hl];exact hy,post _ _ m x1 (R.set hn hH r.dropLast) (.p (ry.ext x1))⟩
theorem Bb (I:Inv X pins σ H s) (hH:H l=some (.lst xs)) (hB:LL X.K H b zs) (hz:xs.length+zs.length<=sizeLine) (q:Q .non (upd H l (.lst (xs++zs)))) :
 wpAny (RX X.prog X.w) X.A (call (.builtin "list.extend") [.ref l,.ref b]) (EP X pins σ Q) X.xe s:=by
 obtain ⟨z,its,n,r,hl,e⟩:=I.DV hH
 obtain ⟨z2,its2,n2,r2,hl2,e2⟩:=rdL I hB
 have hsz:its.toArray.size+its2.toArray.size<=sizeLine:=by rw[Rp,Rp];lia
 have hlong:¬ (!its.toArray.isEmpty&&SD (its.toArray.size+its2.toArray.size))=true:=by
  rw[nZ hsz,Bool.and_false]
  exact Ti
 refine TV F.slot_list_extend ⟨_,e,rfl⟩ F.entry_list_extend (F.args_list_extend_2 _ _)
  (AutoSeq1.list_extend_list_list_0 l its.toArray n b its2.toArray n2 hlong (by rw[Rp];lia) (by lia)) ⟨e,e2,?_⟩
 refine ⟨.non,_,I.DU (its':=its++its2) hH e (by simp) (r.append r2) ?_,rfl,q⟩
 rw[RT]
 lia
theorem Et (I:Inv X pins σ H s) (hH:H l=some (.lst xs)) (hB:SqT X.K H b zs) (hz:xs.length+zs.length<=sizeLine) (q:Q .non (upd H l (.lst (xs++zs)))) :
 wpAny (RX X.prog X.w) X.A (call (.builtin "list.extend") [.ref l,.ref b]) (EP X pins σ Q) X.xe s:=by
 obtain ⟨z,its,n,r,hl,e⟩:=I.DV hH
 obtain ⟨its2,r2,p2,_⟩:=I.tuple hB
 obtain ⟨⟨cls,dd,data,sl⟩,e2,hc,n2,hd⟩:=id p2
 simp only at hc hd
 subst hc hd
 have hl2:=r2.length
 have hsz:its.toArray.size+its2.toArray.size<=sizeLine:=by rw[Rp,Rp];lia
 have hlong:¬ (!its.toArray.isEmpty&&SD (its.toArray.size+its2.toArray.size))=true:=by
  rw[nZ hsz,Bool.and_false]
  exact Ti
 refine TV F.slot_list_extend ⟨_,e,rfl⟩ F.entry_list_extend (F.args_list_extend_2 _ _)
  (nk l its.toArray n b its2.toArray n2 dd sl hlong (by rw[Rp];lia) (by lia)) ⟨e,e2,?_⟩
 refine ⟨.non,_,I.DU (its':=its++its2) hH e (by simp) (r.append r2) ?_,rfl,q⟩
 rw[RT]
 lia
theorem zk:MtR X "list.extend" (rMe X.prog X.w X.K .extend):=by
 intro pins s σ H v vs v' us Q I rv rus h
 obtain ⟨m,h,x,ws,z,h',R,rx,rws,e,post⟩:=h
 cases x with
 | p d=>cases ws with
  | nil=>exact cU e
  | cons _ _=>rw[uv] at e;split at e<;>(try exact cU e)
 | k kvs=>(first | exact cU e | simp[BT.meW] at e)
 | c _ _=>(first | exact cU e | simp[BT.meW] at e)
 | x _=>(first | exact cU e | simp[BT.meW] at e)
 | o kvs=>(first | exact cU e | simp[BT.meW] at e)
 | r n =>
  cases rws with
  | nil=>(first | exact cU e | simp[BT.meW] at e)
  | @cons y wy _ _ ry t =>
   cases t with
   | cons _ _=>(first | exact cU e | simp[BT.meW] at e)
   | nil =>
    rw[BT.vF] at e
    cases g:BT.lat h n with
    | none=>rw[g] at e;exact cU e
    | some xs =>
     cases g2:(BT.rd wy h).bind BT.rE with
     | none=>rw[g,g2] at e;exact cU e
     | some ys =>
      rw[g,g2] at e
      simp only at e
      obtain ⟨c,e⟩:=dj e
      cases e
      obtain ⟨d,e1,e2⟩:=Option.bind_eq_some_iff.mp g2
      have r2:=dP R ry e1
      cases rx with
      | @r a _ hn =>
       obtain ⟨us',hH,r⟩:=R.cell n a xs hn g
       cases rv
       obtain ⟨u,rfl,ru⟩:=rus.one
       have:=fG
       have hl:=r.length
       cases d<;>simp only[BT.rE] at e2<;>try contradiction
       ·cases e2
        obtain ⟨b,vb,rfl,hb,rb⟩:=r2.tup
        cases ru
        have hl2:=rb.length
        exact Et I hH hb (by lia) (post _ _ m (i9 (RJ hn) hH) (R.set hn hH (r.append rb)) (.p .non))
       ·cases e2
        obtain ⟨b,vb,rfl,hb,rb⟩:=r2.lst
        cases ru
        have hl2:=rb.length
        exact Bb I hH hb (by lia) (post _ _ m (i9 (RJ hn) hH) (R.set hn hH (r.append rb)) (.p .non))
theorem RWs.pure {K:Rj}:∀ {vs:List V}{ws:List BT.W}{ds:List BT.D},RWs P w K m H vs ws->BT.dG ws=some ds->RDs K m H vs ds:=by
 intro vs ws
 induction ws generalizing vs with
 | nil =>
  intro ds r e
  cases r
  cases e
  exact .nil
 | cons x ws ih =>
  intro ds r e
  cases r with
  | cons r t =>
   cases r with
   | p r =>
    simp only[BT.dG] at e
    obtain ⟨q,e1,e2⟩:=dh e
    subst e2
    exact .cons r (ih t e1)
   | _=>exact cU e
theorem kM:∀ {ds:List BT.D}{k j:Nat},BT.jg x ds k=some j->∃ i,j=k+i/\∃ (hi:i < ds.length),BT.eqv ds[i] x=true/\∀ m (hm:m < ds.length),m < i->BT.eqv ds[m] x=false
 | [],_,_,e=>by exact cU e
 | y :: r,k,j,e=>by
  simp only[BT.jg] at e
  split at e
  ·rename_i c
   cases e
   exact ⟨0,rfl,by simp,c,fun m _ h=>by lia⟩
  ·rename_i c
   obtain ⟨i,rfl,hi,h1,h2⟩:=kM e
   refine ⟨i+1,by lia,by simp;lia,by simpa using h1,fun m hm hlt=>?_⟩
   cases m with
   | zero=>simpa using c
   | succ m=>simpa using h2 m (by simpa using hm) (by lia)
theorem j8 (I:Inv X pins σ H s):∀ {vs:List V}{ds:List BT.D}{us:List Rl},RDs X.K m H vs ds->c9 vs us->∀ (i:Nat) (h1:i < us.length) (h2:i < ds.length),fm s.heap (pd d) us[i]=BT.eqv ds[i] d
 | _,_,_,.nil,q=>by cases q;intro i h1;simp at h1
 | _,_,_,.cons r t,q=>by
  cases q with
  | cons q1 q2 =>
   intro i h1 h2
   cases i with
   | zero =>
    obtain ⟨as,ra⟩:=ig I r q1
    simp only[List.getElem_cons_zero]
    rw[vQ ra (fQ r),mC]
   | succ i=>simpa using j8 I t q2 i (by simpa using h1) (by simpa using h2)
theorem zm (hu:X.A.units+150 < Wy):MtR X "tuple.index" (rMe X.prog X.w X.K .tindex):=by
 intro pins s σ H v vs v' us Q I rv rus h
 obtain ⟨m,h,x,ws,z,h',R,rx,rws,e,post⟩:=h
 cases x with
 | r n=>cases ws with
  | nil=>(first | exact cU e | simp[BT.meW] at e)
  | cons _ _=>(first | exact cU e | simp[BT.meW] at e)
 | k kvs=>(first | exact cU e | simp[BT.meW] at e)
 | c _ _=>(first | exact cU e | simp[BT.meW] at e)
 | x _=>(first | exact cU e | simp[BT.meW] at e)
 | o kvs=>(first | exact cU e | simp[BT.meW] at e)
 | p d =>
  rw[BT.oj] at e
  cases g:BT.dG ws with
  | none=>rw[g] at e;exact cU e
  | some ds =>
   rw[g] at e
   obtain ⟨b,e1,e2⟩:=dh e
   cases e2
   have rds:=rws.pure g
   cases d<;>first | exact cU e1 | skip
   rename_i xs
   cases ds with
   | nil=>exact cU e1
   | cons d0 dr =>
    cases dr with
    | cons _ _=>exact cU e1
    | nil =>
     rw[BT.AE] at e1
     split at e1
     ·rename_i c
      obtain ⟨j,e3,e4⟩:=dh e1
      subst e4
      obtain ⟨i,rfl,hi,h1,h2⟩:=kM e3
      cases rds with
      | cons r0 rn =>
       cases rn
       obtain ⟨u,rfl,ru⟩:=rus.one
       cases rx with
       | p rx =>
        obtain ⟨a,vt,rfl,ha,ra⟩:=RR.tup (.d rx)
        cases rv
        obtain ⟨its,q1,q2,_⟩:=I.tuple ha
        obtain ⟨⟨cls,dd,data,sl⟩,ho,hc,n,hd⟩:=id q2
        simp only at hc hd
        subst hc hd
        have hl:=q1.length
        have hl2:=ra.length
        have hi':i < its.toArray.size:=by rw[Rp];lia
        refine TV F.slot_tuple_index ⟨_,ho,rfl⟩ F.entry_tuple_index (F.args_tuple_index_2 _ _)
         (qc a its.toArray n dd sl u (fm s.heap (pd d0)) i hi' ?_ ?_) ⟨ho,?_,?_⟩
        ·rw[show its.toArray[i]=its[i]'(by lia) by simp,j8 I ra q1 i (by lia) hi];exact h1
        ·intro k hk hlt
         have hk':k < its.length:=by simpa using hk
         rw[show its.toArray[k]=its[k]'hk' by simp,j8 I ra q1 k hk' (by lia)];exact h2 k (by lia) hlt
        ·intro y hy
         exact iL hu I (.d r0) ru ra q1 c y (by simpa using hy)
        ·refine ⟨.int (((0+i:Nat):Nat):Int),H,I.tok _,⟨s.toks,?_⟩,post.here R (.int _)⟩
         simp
     ·exact cU e1
theorem zo:MtR X "str.index" (rMe X.prog X.w X.K .sindex):=by
 intro pins s σ H v vs v' us Q I rv rus h
 obtain ⟨m,h,x,ws,z,h',R,rx,rws,e,post⟩:=h
 cases x with
 | r n=>cases ws with
  | nil=>(first | exact cU e | simp[BT.meW] at e)
  | cons _ _=>(first | exact cU e | simp[BT.meW] at e)
 | k kvs=>(first | exact cU e | simp[BT.meW] at e)
 | c _ _=>(first | exact cU e | simp[BT.meW] at e)
 | x _=>(first | exact cU e | simp[BT.meW] at e)
 | o kvs=>(first | exact cU e | simp[BT.meW] at e)
 | p d =>
  rw[BT.om] at e
  cases g:BT.dG ws with
  | none=>rw[g] at e;exact cU e
  | some ds =>
   rw[g] at e
   obtain ⟨b,e1,e2⟩:=dh e
   cases e2
   have rds:=rws.pure g
   cases d<;>first | exact cU e1 | skip
   cases ds with
   | nil=>exact cU e1
   | cons d0 dr =>
    cases dr with
    | cons _ _=>cases d0<;>exact cU e1
    | nil =>
     cases d0<;>first | exact cU e1 | skip
     rename_i x y
     rw[BT.HU] at e1
     cases ho:Uu x y 0 x.length 1 with
     | nil=>rw[ho] at e1;exact cU e1
     | cons j rest =>
      rw[ho] at e1
      cases e1
      cases rds with
      | cons r0 rn =>
       cases rn
       cases r0
       obtain ⟨u,rfl,t0,rfl⟩:=rus.one
       cases rx with
       | p rx =>
        cases rx
        obtain ⟨t,rfl⟩:=rv
        exact call_gives F.slot_str_index (typeIs_str s x t) F.entry_str_index (F.args_str_index_2 _ _) (gives_str_index x y t t0 j rest ho) ⟨.int j,H,I.tok _,⟨_,rfl⟩,post.here R (.int _)⟩
end
section
inductive rBi (P:RG) (w:Sb) (K:Rj) (b:BT.Bi) (mu:Bool) (vs:List V) (H:Hp) (Q:VK):Prop where
 | mk (m:List Rz) (h:BT.HH) (ws:List BT.W) (z:BT.W) (h':BT.HH) (R:RH K m H h) (rs:RWs P w K m H vs ws) (e:BT.kBi b mu ws h=some (z,h')) (p:Post P w K m H z h' Q):rBi P w K b mu vs H Q
inductive RRs (K:Rj) (m:List Rz) (H:Hp):List V->List BT.D->Prop where
 | nil:RRs K m H [] []
 | cons {v:V}{d:BT.D}{vs:List V}{ds:List BT.D} (r:RR K m H v d) (t:RRs K m H vs ds):RRs K m H (v :: vs) (d :: ds)
theorem iW {K:Rj} (R:RH K m H h):∀ {vs:List V}{ws:List BT.W}{ds:List BT.D},RWs P w K m H vs ws->BT.rds ws h=some ds->RRs K m H vs ds
 | _,_,_,.nil,e=>by cases e;exact .nil
 | _,_,_,.cons r t,e=>by
  simp only[BT.rds] at e
  obtain ⟨d,e1,e2⟩:=Option.bind_eq_some_iff.mp e
  obtain ⟨q,e3,e4⟩:=dh e2
  subst e4
  exact .cons (dP R r e1) (iW R t e3)
inductive BiI (b:BT.Bi) (mu:Bool) (ws:List BT.W) (h:BT.HH) (z:BT.W) (h':BT.HH):Prop where
 | mk (ds:List BT.D) (d:BT.D) (h1:BT.rds ws h=some ds) (h2:BT.biD b ds=some d) (h3:(mu=false/\z=.p d/\h'=h)\/∃ xs,mu=true/\d=.lst xs/\z=.r h.length/\h'=h++[.l xs]):BiI b mu ws h z h'
theorem jN (e:BT.kBi b mu ws h=some (z,h')):BiI b mu ws h z h':=by
 unfold BT.kBi at e
 cases e1:BT.rds ws h with
 | none=>rw[e1] at e;exact cU e
 | some ds =>
  rw[e1] at e
  simp only at e
  cases e2:BT.biD b ds with
  | none=>rw[e2] at e;exact cU e
  | some d =>
   rw[e2] at e
   simp only at e
   cases mu with
   | false=>cases e;exact ⟨ds,d,e1,e2,.inl ⟨rfl,rfl,rfl⟩⟩
   | true =>
    simp only[if_true] at e
    cases d<;>simp only at e<;>try contradiction
    cases e
    exact ⟨ds,_,e1,e2,.inr ⟨_,rfl,rfl,rfl,rfl⟩⟩
theorem RRs.one {K:Rj}{m:List Rz}{H:Hp}{vs:List V}{d:BT.D} (r:RRs K m H vs [d]):∃ v,vs=[v]/\RR K m H v d:=by
 cases r with
 | cons r t=>cases t;exact ⟨_,rfl,r⟩
theorem IM:fO X (.builtin "len") (rBi X.prog X.w X.K .len false):=by
 intro pins s σ H vs us Q I rus h
 obtain ⟨m,h,ws,z,h',R,rws,e,post⟩:=h
 obtain ⟨ds,d,e1,e2,⟨_,rfl,rfl⟩ | ⟨_,q,_⟩⟩:=jN e
 ·have rr:=iW R rws e1
  match ds,e2 with
  | [.tup xs],e2 =>
   cases e2
   obtain ⟨v,rfl,r⟩:=rr.one
   obtain ⟨a,vt,rfl,ha,ra⟩:=r.tup
   exact kZ pins s σ H _ us Q I rus ⟨a,vt,rfl,.inr ha,by rw[ra.length];exact post.here R (.int _)⟩
  | [.lst xs],e2 =>
   cases e2
   obtain ⟨v,rfl,r⟩:=rr.one
   obtain ⟨a,vt,rfl,ha,ra⟩:=r.lst
   exact kZ pins s σ H _ us Q I rus ⟨a,vt,rfl,.inl ha.sq,by rw[ra.length];exact post.here R (.int _)⟩
  | [.str x],e2 =>
   rw[BT.yX] at e2
   split at e2
   ·rename_i c
    cases e2
    obtain ⟨v,rfl,r⟩:=rr.one
    obtain ⟨rfl,_⟩:=r.str
    have:=fG
    exact q9 pins s σ H _ us Q I rus ⟨x,rfl,by lia,post.here R (.int _)⟩
   ·exact cU e2
 ·exact BT.dQ q
theorem IP:fO X (.builtin "abs") (rBi X.prog X.w X.K .abs false):=by
 intro pins s σ H vs us Q I rus h
 obtain ⟨m,h,ws,z,h',R,rws,e,post⟩:=h
 obtain ⟨ds,d,e1,e2,⟨_,rfl,rfl⟩ | ⟨_,q,_⟩⟩:=jN e
 ·have rr:=iW R rws e1
  match ds,e2 with
  | [.int i],e2 =>
   cases e2
   obtain ⟨v,rfl,r⟩:=rr.one
   cases r.int
   exact An pins s σ H _ us Q I rus ⟨i,rfl,post.here R (.int _)⟩
 ·exact BT.dQ q
theorem IQ:fO X (.type "int") (rBi X.prog X.w X.K .int false):=by
 intro pins s σ H vs us Q I rus h
 obtain ⟨m,h,ws,z,h',R,rws,e,post⟩:=h
 obtain ⟨ds,d,e1,e2,⟨_,rfl,rfl⟩ | ⟨_,q,_⟩⟩:=jN e
 ·have rr:=iW R rws e1
  match ds,e2 with
  | [.int i],e2 =>
   cases e2
   obtain ⟨v,rfl,r⟩:=rr.one
   cases r.int
   exact qw pins s σ H _ us Q I rus (.inl ⟨i,rfl,post.here R (.int _)⟩)
  | [.bl i],e2 =>
   cases e2
   obtain ⟨v,rfl,r⟩:=rr.one
   cases r.bl
   exact qw pins s σ H _ us Q I rus (.inr ⟨i,rfl,post.here R (.int _)⟩)
 ·exact BT.dQ q
theorem xw:fO X (.type "list") (rBi X.prog X.w X.K .list mu):=by
 intro pins s σ H vs us Q I rus h
 obtain ⟨m,h,ws,z,h',R,rws,e,post⟩:=h
 obtain ⟨ds,d,e1,e2,hz⟩:=jN e
 have rr:=iW R rws e1
 have fin:∀ {p:Rz}{vt:List V}{xs:List BT.D},d=.lst xs->H p=none->RDs X.K m H vt xs->Q (.ref p) (upd H p (.lst vt)):=by
  intro p vt xs ed hp r
  rcases hz with ⟨_,rfl,rfl⟩ | ⟨ys,_,e3,rfl,rfl⟩
  ·subst ed;exact ji R hp r post
  ·rw[ed] at e3;cases e3;exact rP R hp r post
 match ds,e2 with
 | [.tup xs],e2 =>
  cases e2
  obtain ⟨v,rfl,r⟩:=rr.one
  obtain ⟨a,vt,rfl,ha,ra⟩:=r.tup
  exact k8 pins s σ H _ us Q I rus ⟨a,vt,rfl,.inr ha,fun p hp=>fin rfl hp ra⟩
 | [.lst xs],e2 =>
  cases e2
  obtain ⟨v,rfl,r⟩:=rr.one
  obtain ⟨a,vt,rfl,ha,ra⟩:=r.lst
  exact k8 pins s σ H _ us Q I rus ⟨a,vt,rfl,.inl ha.sq,fun p hp=>fin rfl hp ra⟩
theorem oU:∀ {xs:List BT.D}{ns:List Int},BT.intsOf xs=some ns->xs=ns.map BT.D.int
 | [],ns,h=>by cases h;rfl
 | .int i :: r,ns,h=>by
  simp only[BT.intsOf] at h
  obtain ⟨q,e1,e2⟩:=dh h
  subst e2
  rw[oU e1];rfl
 | .non :: _,_,h=>by exact cU h
 | .bl _ :: _,_,h=>by exact cU h
 | .str _ :: _,_,h=>by exact cU h
 | .tup _ :: _,_,h=>by exact cU h
 | .lst _ :: _,_,h=>by exact cU h
theorem jO {K:Rj}:∀ {ns:List Int}{vs:List V},RDs K m H vs (ns.map BT.D.int)->vs=ns.map V.int
 | [],vs,r=>by cases r;rfl
 | n :: ns,vs,r=>by
  cases r with
  | cons r t=>cases r;rw[jO t];rfl
theorem lD {K:Rj}:∀ (ns:List Int),RDs K m H (ns.map V.int) (ns.map BT.D.int)
 | []=>.nil
 | n :: ns=>.cons (.int n) (lD ns)
theorem uw:fO X (.builtin "sorted") (fun xs H Q=>∃ (a:Rz) (ns:List Int),xs=[.ref a]/\SqL X.K H a (ns.map V.int)/\ns.length < 64/\∀ (l:Rz) (ns':List Int),H l=none->ns'.Perm ns->ns'.Pairwise (·<=·)->Q (.ref l) (upd H l (.lst (ns'.map V.int)))):=by
 intro pins s σ H xs us Q I r h
 obtain ⟨a,ns,rfl,hl,h64,q⟩:=h
 obtain ⟨u,rfl,e⟩:=vals1 r
 cases e
 obtain ⟨its,rv,p,hz⟩:=I.list hl
 have hi:=intsAre_of rv
 have len:=rv.length
 rw[RP] at len
 refine sorted_ints p.isList hi (by lia) fun out ns' a1 a2 a3=>?_
 obtain ⟨e,he⟩:=sortedAll_at s.heap its out
 have hv:=j0 a1
 have ln:=a2.length_eq
 refine ⟨.ref _,_,I.laid (t':=s.toks) (fun b u q=>sortedAll_old q) (Te _) ?_,rfl,q _ ns' (I.hok.fresh (Te _)) a2 a3⟩
 have sl:sizeLine=16777216:=U1
 exact ⟨by rw[RP];lia,out.toList,e,hv,he⟩
theorem qJ:fO X (.builtin "sorted") (rBi X.prog X.w X.K .sorted mu):=by
 intro pins s σ H vs us Q I rus h
 obtain ⟨m,h,ws,z,h',R,rws,e,post⟩:=h
 obtain ⟨ds,d,e1,e2,hz⟩:=jN e
 have rr:=iW R rws e1
 have fin:∀ {p:Rz}{vt:List V}{xs:List BT.D},d=.lst xs->H p=none->RDs X.K m H vt xs->Q (.ref p) (upd H p (.lst vt)):=by
  intro p vt xs ed hp r
  rcases hz with ⟨_,rfl,rfl⟩ | ⟨ys,_,e3,rfl,rfl⟩
  ·subst ed;exact ji R hp r post
  ·rw[ed] at e3;cases e3;exact rP R hp r post
 match ds,e2 with
 | [.lst xs],e2 =>
  rw[BT.oJ] at e2
  obtain ⟨ns,q1,q2⟩:=Option.bind_eq_some_iff.mp e2
  by_cases c:ns.length < 64
  ·rw[if_pos c] at q2
   have ed:=(Ry q2).symm
   obtain ⟨v,rfl,r⟩:=rr.one
   obtain ⟨a,vt,rfl,ha,ra⟩:=r.lst
   rw[oU q1] at ra
   have ev:=jO ra
   subst ev
   refine uw pins s σ H _ us Q I rus ⟨a,ns,rfl,ha.sq,c,fun l ns' hl m1 m2=>?_⟩
   have:ns'=BT.sortI ns:=W0 (m1.trans (BT.sortI_perm ns).symm) m2 (BT.oK ns)
   subst this
   exact fin ed hl (lD _)
  ·rw[if_neg c] at q2;exact cU q2
theorem Bc:fO X (.type "tuple") (rBi X.prog X.w X.K .tuple false):=by
 intro pins s σ H vs us Q I rus h
 obtain ⟨m,h,ws,z,h',R,rws,e,post⟩:=h
 obtain ⟨ds,d,e1,e2,⟨_,rfl,rfl⟩ | ⟨_,q,_⟩⟩:=jN e
 ·have rr:=iW R rws e1
  match ds,e2 with
  | [.tup xs],e2 =>
   cases e2
   obtain ⟨v,rfl,r⟩:=rr.one
   obtain ⟨a,vt,rfl,ha,ra⟩:=r.tup
   refine ku pins s σ H _ us Q I rus ⟨a,vt,rfl,.inr ⟨ha,?_⟩⟩
   cases r with
   | d r=>exact post.here R r
  | [.lst xs],e2 =>
   cases e2
   obtain ⟨v,rfl,r⟩:=rr.one
   obtain ⟨a,vt,rfl,ha,ra⟩:=r.lst
   exact ku pins s σ H _ us Q I rus ⟨a,vt,rfl,.inl ⟨ha.sq,fun p hp=>lA R hp ra post⟩⟩
 ·exact BT.dQ q
noncomputable def tyD:BT.D->String
 | .non=>"NoneType"
 | .bl _=>"bool"
 | .int _=>"int"
 | .str _=>"str"
 | .tup _=>"tuple"
 | .lst _=>"list"
theorem Eu {E:Rl->Rm->Prop}
 (I:Inv X pins σ H s) (r:RR X.K m H v d) (rv:RelV v u) (e:SO X.K (.type (tyD d)) (.type c)=some b) (h:∀ tk,Q (.bool b) { s with toks:=tk }) :
 wpAny (RX X.prog X.w) A (call (.builtin "isinstance") [u,.type c]) Q E s:=by
 cases d with
 | non=>cases r.non;cases rv;exact T4 PySem.W.kitx_none I.kIn TM e (fun z=>nomatch z) h
 | bl y=>cases r.bl;cases rv;exact T4 PySem.W.kitx_bool I.kIn TM e (fun z=>nomatch z) h
 | int i=>cases r.int;obtain ⟨t,rfl⟩:=rv;exact T4 PySem.W.kitx_int I.kIn TM e (fun z=>nomatch z) h
 | str y=>obtain ⟨rfl,_⟩:=r.str;obtain ⟨t,rfl⟩:=rv;exact T4 PySem.W.kitx_str I.kIn TM e (fun z=>nomatch z) h
 | tup xs =>
  obtain ⟨a,vt,rfl,ha,_⟩:=r.tup
  cases rv
  obtain ⟨its,_,⟨o,h1,h2,_⟩,_⟩:=I.tuple ha
  exact T4 PySem.W.kitx_tuple I.kIn ⟨o,h1,h2⟩ e (fun z=>nomatch z) h
 | lst xs =>
  obtain ⟨a,vt,rfl,ha,_⟩:=r.lst
  cases rv
  obtain ⟨_,its,n,_,_,h1⟩:=rdL I ha
  exact T4 PySem.W.kitx_list I.kIn ⟨_,h1,rfl⟩ e (fun z=>nomatch z) h
theorem Bd (K:Rj) (t:String):SO K (.type t) (.type t)=some true:=by
 unfold SO
 rw[if_pos (by simp)]
theorem Be (h:uq b=some (c,f)) (d:BT.D):BT.biD b [d]=some (.bl (f d)):=by
 cases b<;>simp only[uq] at h<;>try contradiction
 all_goals (cases h;rfl)
theorem Bf (h:uq b=some (c,f)) (K:Rj) (d:BT.D):SO K (.type (tyD d)) (.type c)=some (f d):=by
 cases b<;>simp only[uq] at h<;>try contradiction
 all_goals (cases h;cases d)
 all_goals first
  | exact Bd K _
  | (simp only[tyD];unfold SO;rw[if_neg (by decide)];unfold PySem.W.kitCls;first | rfl | kernel_rfl | decide +kernel)
end
end BS
end
section
namespace BX
open PySem PySem.Spec PyProof.Rows
section
variable {prog:RG}{w:Sb}{A:Sw}{R:Wa->Rm->Prop}{I:Rz}{fp wr:List Rz}{n:Nat}{P:Nat->Rl->Prop}{St:Nat->Heap->Prop}{kw:List (Str×Rl)}
end
end BX
end
section
namespace BS
open PySem PySem.Spec PyProof.Rows L2
noncomputable abbrev FT:=BT.FK->List BT.W->BT.HH->Option (BT.W×BT.HH)
inductive spF (P:RG) (w:Sb) (K:Rj) (g:List BT.W->BT.HH->Option (BT.W×BT.HH)) (vs:List V) (H:Hp) (Q:VK) (E:XK):Prop where
 | mk (m:List Rz) (ws:List BT.W) (h:BT.HH) (z:BT.W) (h':BT.HH) (R:RH K m H h) (r:RWs P w K m H vs ws) (e:g ws h=some (z,h')) (p:Post P w K m H z h' Q):spF P w K g vs H Q E
inductive tD (X:Cx) (F:FT) (G:Str->Option BT.W) (e:BT.E) (σ:L2.St) (H:Hp) (Q:VK):Prop where
 | mk (m:List Rz) (s:BT.Sl) (h:BT.HH) (z:BT.W) (h':BT.HH) (R:RH X.K m H h) (S:RS X.prog X.w X.K m H σ s) (q:BT.ev F G e s h=some (z,h')) (p:Post X.prog X.w X.K m H z h' Q):tD X F G e σ H Q
inductive tDs (X:Cx) (F:FT) (G:Str->Option BT.W) (es:BT.Es) (σ:L2.St) (H:Hp) (Q:List V->Hp->Prop):Prop where
 | mk (m:List Rz) (s:BT.Sl) (h:BT.HH) (zs:List BT.W) (h':BT.HH) (R:RH X.K m H h) (S:RS X.prog X.w X.K m H σ s) (q:BT.evs F G es s h=some (zs,h')) (p:∀ vs H' m',Ext m H m' H'->RH X.K m' H' h'->RWs X.prog X.w X.K m' H' vs zs->Q vs H'):tDs X F G es σ H Q
inductive tDT (X:Cx) (F:FT) (G:Str->Option BT.W) (e:BT.E) (σ:L2.St) (H:Hp) (Q:Bool->Hp->Prop):Prop where
 | mk (m:List Rz) (s:BT.Sl) (h:BT.HH) (b:Bool) (h':BT.HH) (R:RH X.K m H h) (S:RS X.prog X.w X.K m H σ s) (q:BT.ev F G e s h=some (.p (.bl b),h')) (p:∀ H' m',Ext m H m' H'->RH X.K m' H' h'->Q b H'):tDT X F G e σ H Q
noncomputable def ux (P:RG) (w:Sb) (K:Rj) (mg:Str->Option Rl) (base:Heap) (k L:Nat) (g:List BT.W->BT.HH->Option (BT.W×BT.HH)):Prop :=
 ∀ (A:Sw) (outer:List Env) (s:Rm) (H:Hp) (f:Rz) (us:List Rl) (vs cvs:List V) (m:List Rz) (ws:List BT.W) (cs:List BT.Cp) (h:BT.HH) (z:BT.W) (h':BT.HH) (Q:VK) (E:XK),fz k A->nW P w K mg base A outer s H->c9 vs us →
  RH K m H h->RWs P w K m H vs ws->BT.noC ws=true->jz m H f L cvs->RCs K m H cvs cs->g (ws++cs.map BT.Cp.w) h=some (z,h')->Post P w K m H z h' Q->codeAny (RX P w) A (.call (.ref f) ⟨us,[]⟩) (CR CX0 outer P w H s Q E) s
structure LX (X:Cx) (x:Str):Prop where
 mem:x∈BT.gn
 ex:∃ c P,Sn X.K x=some (c,P)/\X.env.code=.ref c/\PySem.W.CodeHd X.base c P/\∀ y∈BT.gn,∀ c2,Sn X.K y=some (c2,P)->y=x
 ql:X.env.qual=x++".<locals>."
 bm:∃ bm ob,X.mg "__builtins__"=some (.ref bm)/\bm≠To/\X.base.get? bm=some ob/\ob.cls=.type "module"/\ob.dict=some To/\ob.data=.plain
noncomputable def MD:List Str:=["len","abs","int","list","tuple","isinstance","str","bool","range","reversed","enumerate","zip","min","max","sorted","sum","all","any","set","ValueError","dict"]
inductive OkC (P:RG) (w:Sb) (K:Rj) (mg:Str->Option Rl) (base:Heap) (A:Sw) (f:Str) (sp:Sp):Prop where
 | mk (fa:Rz) (fd:S9) (ps:List Str) (k:Nat) (h1:mg f=some (.ref fa)) (h2:SC K (.ref fa)=true) (h3:Binds K fd ps []) (h4:fz k A) (h5:je P w K mg base CX0 k fa fd ps sp):OkC P w K mg base A f sp
inductive OkM (P:RG) (w:Sb) (K:Rj) (mg:Str->Option Rl) (base:Heap) (A:Sw) (CX:CXT) (c m:Str) (sp:Sp):Prop where
 | mk (C g:Rz) (fd:S9) (ps:List Str) (k:Nat) (h1:mX K c C) (h2:yI K C m g) (h3:Binds K fd ps []) (h4:fz k A) (h5:je P w K mg base CX k g fd ps sp):OkM P w K mg base A CX c m sp
inductive OkN (P:RG) (w:Sb) (K:Rj) (mg:Str->Option Rl) (base:Heap) (A:Sw) (c:Str) (sp:Sp):Prop where
 | mk (C g:Rz) (fd:S9) (ps:List Str) (k:Nat) (h1:mX K c C) (h2:mg c=some (.ref C)) (h3:Mk K C g) (h4:Binds K fd ps []) (h5:fz (k+1) A) (h6:je P w K mg base CX0 k g fd ps sp):OkN P w K mg base A c sp
structure Ok (X:Cx) (F:FT) (G:Str->Option BT.W) (sc:Sx) (N:List Str):Prop where
 hsc:X.env.scope=sc
 hN:X.N=N
 nd:X.N.Nodup
 calm:fX N=true->X.calm=true
 hu:X.A.units+150 < Wy
 own:PassesOwn (RX X.prog X.w) X.A X.env X.xe
 glob:∀ x z,G x=some z->∃ u v,X.mg x=some u/\RelV v u/\∀ m H,RW X.prog X.w X.K m H v z
 call:∀ (f:Str) ws h r,F (.f f) ws h=some r->OkC X.prog X.w X.K X.mg X.base X.A f (spF X.prog X.w X.K (F (.f f)))
 meth:∀ (c m:Str) ws h r,F (.m c m) ws h=some r->OkM X.prog X.w X.K X.mg X.base X.A CX0 c m (spF X.prog X.w X.K (F (.m c m)))
 mkc:∀ (c:Str) ws h r,F (.m c "__init__") ws h=some r->OkN X.prog X.w X.K X.mg X.base X.A c (spF X.prog X.w X.K (F (.m c "__init__")))
 blt:∀ x∈MD,X.mg x=none
 lam:∀ (L:Nat) ws h r,F (.l L) ws h=some r->∃ k,fz k X.A/\ux X.prog X.w X.K X.mg X.base k L (F (.l L))
 lamx:(∀ x,X.fn x=true)->∀ x,N.contains (BT.fu x)=true->LX X x
theorem PE.weak (h:PE X e t) (q:∀ σ H Q,t' σ H Q->t σ H Q):PE X e t':=fun pins s σ H Q I hw=>h pins s σ H Q I (q _ _ _ hw)
theorem PT.weak (h:PT X e t) (q:∀ σ H Q,t' σ H Q->t σ H Q):PT X e t':=fun pins s σ H Q I hw=>h pins s σ H Q I (q _ _ _ hw)
theorem PW.weak (h:PW X e t) (q:∀ σ H Q,t' σ H Q->t σ H Q):PW X e t':=fun wh pins s σ H Q I hw=>h wh pins s σ H Q I (q _ _ _ hw)
theorem PA.weak (h:PA X es t) (q:∀ σ H Q,t' σ H Q->t σ H Q):PA X es t':=fun pos pins s σ H Q I hw=>h pos pins s σ H Q I (q _ _ _ hw)
theorem cX (h:noStar e=true):R8 (e :: es) env=(false,eval e env) :: R8 es env:=by
 cases e<;>first | rfl | exact BT.dQ h
theorem Bg (h:lz b=true):wW b:=fun o i=>by
 cases b<;>first | rfl | exact BT.dQ h
theorem j9 (h:dB o=true):U4 o name env (eval o env)=eval o env:=by
 cases o with
 | Call fn as ks p =>
  cases fn with
  | Attribute _ _ _=>rfl
  | _=>exact BT.dQ h
 | _=>first | rfl | exact cU h
noncomputable def c5:List Rq->Bool
 | []=>true
 | e :: es=>noStar e&&c5 es
theorem dD:∀ {es:List Rq},c5 es=true->(T9 pos (R8 es env)).any (·.1)=false
 | [],_=>rfl
 | e :: es,h=>by
  simp only[c5,Rn] at h
  rw[cX h.1]
  show (false||(T9 pos (R8 es env)).any (·.1))=false
  rw[dD h.2];rfl
theorem jP:∀ {es:List Rq},c5 es=true->(T9 pos (R8 es env)).all (fun x=>!x.1)=true
 | [],_=>rfl
 | e :: es,h=>by
  simp only[c5,Rn] at h
  rw[cX h.1]
  show (!false&&(T9 pos (R8 es env)).all (fun x=>!x.1))=true
  rw[jP h.2];rfl
noncomputable def ME:Tq->Prop
 | .es _ xs=>c5 xs=true
 | _=>True
theorem Bh (h:CQ sc N t):ME t:=by
 induction h with
 | es_nil=>exact rfl
 | es_cons hs _ _ _ ih =>
  show (noStar _&&c5 _)=true
  rw[Rn];exact ⟨hs,ih⟩
 | _=>exact TM
theorem gQ (h:CEs sc N as es):c5 es=true:=Bh h
noncomputable def noM:Tq->Prop
 | .es (.cons _ _) []=>False
 | _=>True
theorem IR (h:CQ sc N t):noM t:=by
 induction h with
 | _=>exact TM
theorem oV (h:CEs sc N (.cons a r) []):False:=IR h
section
theorem mD (he:∀ s h,BT.ev F G e s h=BT.bnd (BT.ev F G a s h) (BT.k2 (BT.ev F G b s) f)) (σ:L2.St) (H:Hp) (Q:VK) (q:tD X F G e σ H Q) :
 tOp (rOp X.prog X.w X.K f) (tD X F G a) (tD X F G b) σ H Q:=by
 obtain ⟨m,s,h,z,h',R,S,ee,post⟩:=q
 rw[he] at ee
 obtain ⟨x,h1,e1,e2⟩:=cY ee
 simp only[BT.k2] at e2
 obtain ⟨y,h2,e3,e4⟩:=cY e2
 refine ⟨m,s,h,x,h1,R,S,e1,fun v H1 m1 x1 R1 r1=>?_⟩
 refine ⟨m1,s,h1,y,h2,R1,S.ext x1,e3,fun u H2 m2 x2 R2 r2=>?_⟩
 exact ⟨m2,h2,x,y,z,h',R2,r1.ext x2,r2,e4,fun w' H3 m3 x3 R3 r3=>post w' H3 m3 ((x1.trans x2).trans x3) R3 r3⟩
theorem oW (h:∀ σ H Q,tD X F G e σ H Q->t σ H Q) (σ:L2.St) (H:Hp) (Q:Bool->Hp->Prop) (q:tDT X F G e σ H Q):Ak t σ H Q:=by
 obtain ⟨m,s,h0,b,h',R,S,ee,post⟩:=q
 refine h σ H _ ⟨m,s,h0,_,h',R,S,ee,fun v H' m' x R' r=>?_⟩
 cases r with
 | p r=>cases r;exact ⟨b,rfl,post H' m' x R'⟩
theorem opB (h:GJ o op=true):OpR X (SK op) (rOp X.prog X.w X.K (BT.pY o)):=by
 rw[of_decide_eq_true h]
 cases o
 ·exact IC
 ·exact ID
 ·exact IG
 ·exact IE
 ·exact El
 ·exact IF
theorem GN:∀ {es:List (Str×V)}{kvs:List (Str×BT.D)}{K:Rj},RDk K es kvs->KV (es.map fun q=>((Sum.inr q.1:Key),q.2)) vs->(valueAt vs (Sum.inr k)).isSome=(BT.gj k kvs).isSome:=by
 intro es
 induction es generalizing vs with
 | nil =>
  intro kvs K r q
  cases r
  cases q
  rfl
 | cons p es ih =>
  intro kvs K r q
  cases r with
  | @cons x v dd _ kvs r t =>
   cases q with
   | @cons p z l1 l2 q1 q2 =>
    obtain ⟨z1,z2⟩:=z
    obtain ⟨q11,q12⟩:=q1
    simp only at q11 q12
    subst q11
    rw[BT.gj]
    by_cases c:k=x
    ·subst c
     simp[valueAt]
    ·rw[if_neg c]
     have ne:¬ ((Sum.inr x:Key)=Sum.inr k):=fun z=>c (Sum.inr.inj z).symm
     have:=ih t q2
     simp only[valueAt] at this ⊢
     rw[WC (by simpa using ne)]
     exact this
theorem opC (O:Ok X F G sc N) (h:Ei o op=true):OpR X (Su op) (rOp X.prog X.w X.K (BT.kI o)):=by
 rw[of_decide_eq_true h]
 cases o
 ·exact MA O.hu
 ·exact MB O.hu
 ·exact rV Lc rfl rfl fun _ _=>rfl
 ·exact rV Ld rfl rfl fun _ _=>rfl
 ·exact rV Lf rfl rfl fun _ _=>rfl
 ·exact rV Lg rfl rfl fun _ _=>rfl
 ·exact II
 ·exact Eo
 ·refine IJ O.hu ?_
  intro kvs x b m H v u v' u' pins σ s Q I rv ru rx rk e q
  cases kvs with
  | t kvs =>
   cases x with
   | p d =>
    cases d<;>first | exact cU e | skip
    obtain rfl:=Ry e
    cases rk with
    | @k a es _ kd rk =>
     cases ru
     cases rx with
     | p rx =>
      cases rx with
      | str x ok =>
       obtain ⟨t,rfl⟩:=rv
       obtain ⟨hm,vs,kv,dd⟩:=kd
       have D:=dd s.heap I.kIn
       refine wpAny_in_of (knd:=dg X.prog X.w) (iI _ _ _ t) hm D.mapOf ?_
       rw[GN rk kv]
       exact ⟨.bl _,H,I.tok _,rfl,q⟩
   | _=>exact cU e
  | l kvs =>
   cases x with
   | p d =>
    obtain ⟨k,g1,g2⟩:=dh (show (BT.jB d).map (fun k=>(BT.dZ kvs k).isSome)=some b from e)
    subst g2
    cases rk with
    | @kl a ob ws _ hh rk =>
     cases ru
     cases rx with
     | p rx =>
      have ek:=oS rx g1
      subst ek
      cases A8 I (.inr ⟨_,hh.1⟩) rk k with
      | no vs dd n g1 g2 =>
       refine wpAny_in_of (knd:=dg X.prog X.w) (qB rv) n dd.mapOf ?_
       rw[g2]
       exact ⟨.bl _,H,I.tok _,rfl,by rw[g1] at q;exact q⟩
      | is vs dd n x v1 u1 g1 g2 g3 g4 =>
       refine wpAny_in_of (knd:=dg X.prog X.w) (qB rv) n dd.mapOf ?_
       rw[g2]
       exact ⟨.bl _,H,I.tok _,rfl,by rw[g1] at q;exact q⟩
   | _=>exact cU e
 ·refine Ep O.hu ?_
  intro kvs x b m H v u v' u' pins σ s Q I rv ru rx rk e q
  cases kvs with
  | t kvs =>
   cases x with
   | p d =>
    cases d<;>first | exact cU e | skip
    obtain rfl:=Ry e
    cases rk with
    | @k a es _ kd rk =>
     cases ru
     cases rx with
     | p rx =>
      cases rx with
      | str x ok =>
       obtain ⟨t,rfl⟩:=rv
       obtain ⟨hm,vs,kv,dd⟩:=kd
       have D:=dd s.heap I.kIn
       refine wpAny_notIn_of (knd:=dg X.prog X.w) (iI _ _ _ t) hm D.mapOf ?_
       rw[GN rk kv]
       exact ⟨.bl _,H,I.tok _,rfl,q⟩
   | _=>exact cU e
  | l kvs=>exact cU e
end
section
variable {X:Cx}{F:FT}{G:Str->Option BT.W}{sc:Sx}{N:List Str}
theorem Ew (O:Ok X F G sc N) (x:Str):X.env.kindOf x=sc.names.lookup x:=by rw[← O.hsc];rfl
theorem gx (h:fy x=true):(x==("__debug__":Str))=false/\(x==("__classdict__":Str))=false/\x≠"__name__":=by
 simp only[fy,Rn,Ue] at h
 exact ⟨h.1.1,h.1.2,fun e=>by rw[e] at h;simp at h⟩
theorem dR (O:Ok X F G sc N) (h:dM sc x=true):Gl X x:=by
 show X.env.kindOf x=_
 rw[Ew O]
 exact eq_of_beq h
theorem Bj (O:Ok X F G sc N) (h:mW sc x=true):Vis X.env.scope x:=by
 rw[O.hsc]
 unfold mW at h
 unfold Vis
 cases e:sc.names.lookup x with
 | none=>rw[e] at h;exact BT.dQ h
 | some k=>rw[e] at h;cases k<;>first | (exact .inl rfl) | (exact .inr (.inl rfl)) | (exact .inr (.inr rfl)) | exact BT.dQ h
theorem rW (O:Ok X F G sc N) (h2:N[i]?=some y) (h3:mW sc y=true) (h4:fy y=true):PE X (.Name y pos) (tD X F G (.var i)):=by
 obtain ⟨d1,d2,_⟩:=gx h4
 refine PE.weak (z6 (i:=i) (by rw[O.hN];exact h2) (Bj O h3) d1 d2) fun σ H Q q=>?_
 obtain ⟨m,s,h,z,h',R,S,ee,post⟩:=q
 simp only[BT.ev] at ee
 split at ee
 ·rename_i w e
  cases ee
  obtain ⟨v,hv,r⟩:=S.get i _ e
  exact ⟨v,hv,post v H m (.refl _ _) R r⟩
 ·exact cU ee
theorem Ex (h:GK d c=true):PE X (.Constant c k pos) (tD X F G (.cst d)):=by
 have fin:∀ {v:V},(∀ m H,RD X.K m H v d)->∀ σ H Q,tD X F G (.cst d) σ H Q->tC v σ H Q:=fun r σ H Q q=>by
  obtain ⟨m,s,h,z,h',R,S,ee,post⟩:=q
  simp only[BT.ev] at ee
  cases ee
  exact post _ H m (.refl _ _) R (.p (r m H))
 cases d<;>cases c<;>first | exact BT.dQ h | skip
 ·exact PE.weak G5 (fin fun _ _=>.non)
 ·cases eq_of_beq h;exact PE.weak KR (fin fun _ _=>.bl _)
 ·cases eq_of_beq h;exact PE.weak u6 (fin fun _ _=>.int _)
 ·have h:=Bool.and_eq_true_iff.mp h
  cases eq_of_beq h.1;exact PE.weak G6 (fin fun _ _=>.str _ h.2)
theorem Ey (O:Ok X F G sc N) (h2:dM sc y=true) (h3:fy y=true):PE X (.Name y pos) (tD X F G (.glo y)):=by
 obtain ⟨d1,d2,_⟩:=gx h3
 intro pins s σ H Q I q
 obtain ⟨m,s',h,z,h',R,S,ee,post⟩:=q
 simp only[BT.ev] at ee
 obtain ⟨w,e1,e2⟩:=dh ee
 cases e2
 obtain ⟨u,v,hm,r,rw⟩:=O.glob _ _ e1
 exact wJ (dR O h2) hm r d1 pins s σ H Q I (post v H m (.refl _ _) R (rw m H))
theorem GO (he:∀ s h,BT.ev F G e s h=BT.bnd (BT.ev F G a s h) k) (q:tD X F G e σ H Q)
 (h1:∀ m h x z h' v H1,RH X.K m H1 h->RW X.prog X.w X.K m H1 v x->k x h=some (z,h')->Post X.prog X.w X.K m H1 z h' Q->R' v H1):tD X F G a σ H R':=by
 obtain ⟨m,s,h,z,h',R,S,ee,post⟩:=q
 rw[he] at ee
 obtain ⟨x,g,e1,e2⟩:=cY ee
 exact ⟨m,s,h,x,g,R,S,e1,fun v H1 m1 x1 R1 r1=>h1 m1 g x z h' v H1 R1 r1 e2 fun w' H3 m3 x3 R3 r3=>post w' H3 m3 (x1.trans x3) R3 r3⟩
theorem lE (he:∀ s h,BT.ev F G e s h=BT.bnd (BT.evs F G as s h) k) (q:tD X F G e σ H Q)
 (h1:∀ m h xs z h' vs H1,RH X.K m H1 h->RWs X.prog X.w X.K m H1 vs xs->k xs h=some (z,h')->Post X.prog X.w X.K m H1 z h' Q->R' vs H1):tDs X F G as σ H R':=by
 obtain ⟨m,s,h,z,h',R,S,ee,post⟩:=q
 rw[he] at ee
 obtain ⟨x,g,e1,e2⟩:=cY ee
 exact ⟨m,s,h,x,g,R,S,e1,fun v H1 m1 x1 R1 r1=>h1 m1 g x z h' v H1 R1 r1 e2 fun w' H3 m3 x3 R3 r3=>post w' H3 m3 (x1.trans x3) R3 r3⟩
theorem ty_list (R:RH X.K m H h) (r:RW X.prog X.w X.K m H v (.r n)) (ok:BT.pZ (.r n) h=true):tyV X.K "list" v H:=by
 cases r with
 | @r a _ hn =>
  obtain ⟨xs,e⟩:=Option.isSome_iff_exists.mp ok
  obtain ⟨vs,e,_⟩:=R.cell n a xs hn e
  exact .inl ⟨rfl,vs,.inl (.inl e)⟩
theorem xy (e:BT.kMe m ea x h=some r):BT.pZ x h=true/\BT.bnd (ea h) (BT.meW m x)=some r:=by
 unfold BT.kMe at e
 split at e
 ·rename_i c;exact ⟨c,e⟩
 ·exact cU e
theorem PY (hm:m=.append\/m=.pop\/m=.extend) (e:BT.meW m x ws h=some (z,h')):∃ n,x=.r n:=by
 cases x with
 | r n=>exact ⟨n,rfl⟩
 | p d =>
  rcases hm with rfl | rfl | rfl<;>cases ws<;>rw[uv] at e<;>(split at e<;>(try exact cU e))<;>exact cU e
 | k q =>
  rcases hm with rfl | rfl | rfl<;>cases ws<;>(first | exact cU e | simp[BT.meW] at e)
 | x _ =>
  rcases hm with rfl | rfl | rfl<;>cases ws<;>(first | exact cU e | simp[BT.meW] at e)
 | c _ _ =>
  rcases hm with rfl | rfl | rfl<;>cases ws<;>(first | exact cU e | simp[BT.meW] at e)
 | o q =>
  rcases hm with rfl | rfl | rfl<;>cases ws<;>(first | exact cU e | simp[BT.meW] at e)
end
section
theorem rX {X:Cx}{e a:BT.E}{k:BT.Sl->BT.W->BT.HH->Option (BT.W×BT.HH)} (he:∀ s h,BT.ev F G e s h=BT.bnd (BT.ev F G a s h) (k s)) {σ:L2.St}{H:Hp}{Q:VK} (q:tD X F G e σ H Q) {R':V->Hp->Prop}
 (h1:∀ m s h x z h' v H1,RH X.K m H1 h->RS X.prog X.w X.K m H1 σ s->RW X.prog X.w X.K m H1 v x->k s x h=some (z,h')->Post X.prog X.w X.K m H1 z h' Q->R' v H1):tD X F G a σ H R':=by
 obtain ⟨m,s,h,z,h',R,S,ee,post⟩:=q
 rw[he] at ee
 obtain ⟨x,g,e1,e2⟩:=cY ee
 exact ⟨m,s,h,x,g,R,S,e1,fun v H1 m1 x1 R1 r1=>h1 m1 s g x z h' v H1 R1 (S.ext x1) r1 e2 fun w' H3 m3 x3 R3 r3=>post w' H3 m3 (x1.trans x3) R3 r3⟩
theorem IS {X:Cx}{e a:BT.E}{k:BT.Sl->Bool->BT.HH->Option (BT.W×BT.HH)}{kk:BT.Sl->BT.W->BT.HH->Option (BT.W×BT.HH)} (he:∀ s h,BT.ev F G e s h=BT.bnd (BT.ev F G a s h) (kk s))
 (hk:∀ s x h r,kk s x h=some r->∃ b,x=.p (.bl b)/\k s b h=some r) {σ:L2.St}{H:Hp}{Q:VK} (q:tD X F G e σ H Q) {R':Bool->Hp->Prop}
 (h1:∀ m s h b z h' H1,RH X.K m H1 h->RS X.prog X.w X.K m H1 σ s->k s b h=some (z,h')->Post X.prog X.w X.K m H1 z h' Q->R' b H1):tDT X F G a σ H R':=by
 obtain ⟨m,s,h,z,h',R,S,ee,post⟩:=q
 rw[he] at ee
 obtain ⟨x,g,e1,e2⟩:=cY ee
 obtain ⟨b,rfl,e3⟩:=hk _ _ _ _ e2
 exact ⟨m,s,h,b,g,R,S,e1,fun H1 m1 x1 R1=>h1 m1 s g b z h' H1 R1 (S.ext x1) e3 fun w' H3 m3 x3 R3 r3=>post w' H3 m3 (x1.trans x3) R3 r3⟩
theorem mE {K:Rj} (r:RW P w K m H v (.p (.bl b))):v=.bl b:=by
 cases r with | p r=>cases r;rfl
theorem xA (e:BT.D7 eb x h=some r):∃ b,x=.p (.bl b)/\(if b=true then eb h else some (.p (.bl false),h))=some r:=by
 cases x with
 | p d =>
  cases d<;>simp only[BT.D7] at e<;>try contradiction
  exact ⟨_,rfl,e⟩
 | r n=>exact cU e
 | k q=>exact cU e
 | c _ _=>exact cU e
 | x _=>exact cU e
 | o q=>exact cU e
theorem Bk (e:BT.kOr eb x h=some r):∃ b,x=.p (.bl b)/\(if b=true then some (.p (.bl true),h) else eb h)=some r:=by
 cases x with
 | p d =>
  cases d<;>simp only[BT.kOr] at e<;>try contradiction
  exact ⟨_,rfl,e⟩
 | r n=>exact cU e
 | k q=>exact cU e
 | c _ _=>exact cU e
 | x _=>exact cU e
 | o q=>exact cU e
theorem Ez (e:BT.D8 ea eb x h=some r):∃ b,x=.p (.bl b)/\(if b=true then ea h else eb h)=some r:=by
 cases x with
 | p d =>
  cases d<;>simp only[BT.D8] at e<;>try contradiction
  exact ⟨_,rfl,e⟩
 | r n=>exact cU e
 | k q=>exact cU e
 | c _ _=>exact cU e
 | x _=>exact cU e
 | o q=>exact cU e
theorem xB (e:BT.D6 x h=some r):∃ b,x=.p (.bl b)/\r=(.p (.bl (!b)),h):=by
 cases x with
 | p d =>
  cases d<;>simp only[BT.D6] at e<;>try contradiction
  cases e;exact ⟨_,rfl,rfl⟩
 | r n=>exact cU e
 | k q=>exact cU e
 | c _ _=>exact cU e
 | x _=>exact cU e
 | o q=>exact cU e
theorem EA (e:BT.D5 x h=some r):∃ i,x=.p (.int i)/\r=(.p (.int (-i)),h):=by
 cases x with
 | p d =>
  cases d<;>simp only[BT.D5] at e<;>try contradiction
  cases e;exact ⟨_,rfl,rfl⟩
 | r n=>exact cU e
 | k q=>exact cU e
 | c _ _=>exact cU e
 | x _=>exact cU e
 | o q=>exact cU e
theorem xC {X:Cx}{a b:BT.E} (σ:L2.St) (H:Hp) (Q:VK) (q:tD X F G (.and a b) σ H Q):Gy (tD X F G a) (tD X F G b) σ H Q:=by
 refine rX (k:=fun s=>BT.D7 (BT.ev F G b s)) (fun s h=>by simp only[BT.ev]) q fun m s h x z h' v H1 R S r e post=>?_
 obtain ⟨c,rfl,e2⟩:=xA e
 refine ⟨c,mE r,?_⟩
 cases c with
 | true=>rw[if_pos rfl] at e2 ⊢;exact ⟨m,s,h,z,h',R,S,e2,post⟩
 | false=>rw[if_neg (by decide)] at e2 ⊢;cases e2;exact post.here R (.bl _)
theorem Bl {X:Cx}{a b:BT.E} (σ:L2.St) (H:Hp) (Q:VK) (q:tD X F G (.or a b) σ H Q):KW (tD X F G a) (tD X F G b) σ H Q:=by
 refine rX (k:=fun s=>BT.kOr (BT.ev F G b s)) (fun s h=>by simp only[BT.ev]) q fun m s h x z h' v H1 R S r e post=>?_
 obtain ⟨c,rfl,e2⟩:=Bk e
 refine ⟨c,mE r,?_⟩
 cases c with
 | true=>rw[if_pos rfl] at e2 ⊢;cases e2;exact post.here R (.bl _)
 | false=>rw[if_neg (by decide)] at e2 ⊢;exact ⟨m,s,h,z,h',R,S,e2,post⟩
theorem xD (σ:L2.St) (H:Hp) (Q:Bool->Hp->Prop) (q:tDT X F G (.and a b) σ H Q):KS (tDT X F G a) (tDT X F G b) σ H Q:=by
 obtain ⟨m,s,h,c,h',R,S,ee,post⟩:=q
 simp only[BT.ev] at ee
 obtain ⟨x,g,e1,e2⟩:=cY ee
 obtain ⟨d,rfl,e3⟩:=xA e2
 refine ⟨m,s,h,d,g,R,S,e1,fun H1 m1 x1 R1=>?_⟩
 cases d with
 | true=>rw[if_pos rfl] at e3 ⊢;exact ⟨m1,s,g,c,h',R1,S.ext x1,e3,fun H2 m2 x2 R2=>post H2 m2 (x1.trans x2) R2⟩
 | false=>rw[if_neg (by decide)] at e3 ⊢;cases e3;exact post H1 m1 x1 R1
theorem Bm (σ:L2.St) (H:Hp) (Q:Bool->Hp->Prop) (q:tDT X F G (.or a b) σ H Q):tOr (tDT X F G a) (tDT X F G b) σ H Q:=by
 obtain ⟨m,s,h,c,h',R,S,ee,post⟩:=q
 simp only[BT.ev] at ee
 obtain ⟨x,g,e1,e2⟩:=cY ee
 obtain ⟨d,rfl,e3⟩:=Bk e2
 refine ⟨m,s,h,d,g,R,S,e1,fun H1 m1 x1 R1=>?_⟩
 cases d with
 | true=>rw[if_pos rfl] at e3 ⊢;cases e3;exact post H1 m1 x1 R1
 | false=>rw[if_neg (by decide)] at e3 ⊢;exact ⟨m1,s,g,c,h',R1,S.ext x1,e3,fun H2 m2 x2 R2=>post H2 m2 (x1.trans x2) R2⟩
theorem EB (σ:L2.St) (H:Hp) (Q:Bool->Hp->Prop) (q:tDT X F G (.not a) σ H Q):KU (tDT X F G a) σ H Q:=by
 obtain ⟨m,s,h,c,h',R,S,ee,post⟩:=q
 simp only[BT.ev] at ee
 obtain ⟨x,g,e1,e2⟩:=cY ee
 obtain ⟨d,rfl,e3⟩:=xB e2
 cases e3
 exact ⟨m,s,h,d,h',R,S,e1,fun H1 m1 x1 R1=>post H1 m1 x1 R1⟩
theorem EC {X:Cx}{a:BT.E} (σ:L2.St) (H:Hp) (Q:VK) (q:tD X F G (.not a) σ H Q):Gz (tD X F G a) σ H Q:=by
 refine rX (k:=fun s=>BT.D6) (fun s h=>by simp only[BT.ev]) q fun m s h x z h' v H1 R S r e post=>?_
 obtain ⟨c,rfl,e2⟩:=xB e
 cases e2
 exact ⟨c,mE r,post.here R (.bl _)⟩
theorem IT {X:Cx}{c a b:BT.E} (σ:L2.St) (H:Hp) (Q:VK) (q:tD X F G (.ite c a b) σ H Q):tIf (tDT X F G c) (tD X F G a) (tD X F G b) σ H Q:=by
 refine IS (k:=fun s t h=>if t=true then BT.ev F G a s h else BT.ev F G b s h) (kk:=fun s=>BT.D8 (BT.ev F G a s) (BT.ev F G b s)) (fun s h=>by simp only[BT.ev]) (fun s x h r e=>Ez e) q fun m s h t z h' H1 R S e post=>?_
 cases t with
 | true=>rw[if_pos rfl] at e ⊢;exact ⟨m,s,h,z,h',R,S,e,post⟩
 | false=>rw[if_neg (by decide)] at e ⊢;exact ⟨m,s,h,z,h',R,S,e,post⟩
theorem IU {X:Cx}{a:BT.E} (σ:L2.St) (H:Hp) (Q:VK) (q:tD X F G (.neg a) σ H Q):tUn (rU fun i=>.int (-i)) (tD X F G a) σ H Q:=by
 refine rX (k:=fun s=>BT.D5) (fun s h=>by simp only[BT.ev]) q fun m s h x z h' v H1 R S r e post=>?_
 obtain ⟨c,rfl,e2⟩:=EA e
 cases e2
 cases r with | p r=>cases r;exact ⟨c,rfl,post.here R (.int _)⟩
theorem uy (σ:L2.St) (H:Hp) (Q:VK) (q:tD X F G (.chain o o' a b c) σ H Q) :
 vg (rOp X.prog X.w X.K (BT.kI o)) (rOp X.prog X.w X.K (BT.kI o')) (tD X F G a) (tD X F G b) (tD X F G c) σ H Q:=by
 obtain ⟨m,s,h,z,h',R,S,ee,post⟩:=q
 simp only[BT.ev] at ee
 obtain ⟨x,h1,e1,e2⟩:=cY ee
 simp only[BT.k2] at e2
 obtain ⟨y,h2,e3,e4⟩:=cY e2
 refine ⟨m,s,h,x,h1,R,S,e1,fun v H1 m1 x1 R1 r1=>?_⟩
 refine ⟨m1,s,h1,y,h2,R1,S.ext x1,e3,fun u H2 m2 x2 R2 r2=>?_⟩
 unfold BT.oCh at e4
 cases g1:BT.rd x h2 with
 | none=>rw[g1] at e4;exact cU e4
 | some d =>
  cases y with
  | r _=>rw[g1] at e4;exact cU e4
  | k _=>rw[g1] at e4;exact cU e4
  | c _ _=>rw[g1] at e4;exact cU e4
  | x _=>rw[g1] at e4;exact cU e4
  | o _=>rw[g1] at e4;exact cU e4
  | p d' =>
   rw[g1] at e4
   simp only at e4
   have ho:∀ (o:BT.Cm) (x':BT.W) (hh:BT.HH) dd,BT.rd x' hh=some dd->∀ y' dd',BT.rd y' hh=some dd'->BT.kI o x' y' hh=(BT.gE o dd dd').map fun z=>(.p (.bl z),hh):=by
    intro o x' hh dd q1 y' dd' q2
    unfold BT.kI
    cases y' with
    | p _=>simp only[q1,q2]
    | r _=>simp only[q1,q2]
    | k _=>exact cU q2
    | c _ _=>exact cU q2
    | x _=>exact cU q2
    | o _=>exact cU q2
   cases g3:BT.gE o d d' with
   | none=>rw[g3] at e4;exact cU e4
   | some t =>
    rw[g3] at e4
    refine ⟨m2,h2,x,.p d',.p (.bl t),h2,R2,r1.ext x2,r2,by rw[ho o x h2 d g1 (.p d') d' rfl,g3];rfl,fun v3 H3 m3 x3 R3 r3=>⟨t,mE r3,?_⟩⟩
    cases t with
    | false =>
     rw[if_neg (by decide)]
     cases e4
     exact post _ H3 m3 ((x1.trans x2).trans x3) R3 (.p (.bl _))
    | true =>
     rw[if_pos rfl]
     obtain ⟨w3,h3,e5,e6⟩:=cY e4
     refine ⟨m3,s,h2,w3,h3,R3,((S.ext x1).ext x2).ext x3,e5,fun v4 H4 m4 x4 R4 r4=>?_⟩
     unfold BT.L0 at e6
     cases g4:BT.rd w3 h3 with
     | none=>rw[g4] at e6;exact cU e6
     | some f =>
      rw[g4] at e6
      simp only at e6
      refine ⟨m4,h3,.p d',w3,z,h',R4,(r2.ext x3).ext x4,r4,by rw[ho o' (.p d') h3 d' rfl w3 f g4];exact e6,fun v5 H5 m5 x5 R5 r5=>post v5 H5 m5 ((((x1.trans x2).trans x3).trans x4).trans x5) R5 r5⟩
theorem IV {lo:BT.Es} (hl:∀ σ H (Q:Option Int->Hp->Prop),(∃ m s h l zs h',RH X.K m H h/\RS X.prog X.w X.K m H σ s/\BT.evs F G lo s h=some (zs,h')/\(BT.dG zs).bind BT.rB=some l/\∀ H' m',Ext m H m' H'->RH X.K m' H' h'->Q l H')->tl σ H Q)
 (hh:∀ σ H (Q:Option Int->Hp->Prop),(∃ m s h l zs h',RH X.K m H h/\RS X.prog X.w X.K m H σ s/\BT.evs F G hi s h=some (zs,h')/\(BT.dG zs).bind BT.rB=some l/\∀ H' m',Ext m H m' H'->RH X.K m' H' h'->Q l H')->th σ H Q)
 (σ:L2.St) (H:Hp) (Q:VK) (q:tD X F G (.slc a lo hi) σ H Q):tSl (rSl X.prog X.w X.K) (tD X F G a) tl th σ H Q:=by
 obtain ⟨m,s,h,z,h',R,S,ee,post⟩:=q
 simp only[BT.ev] at ee
 obtain ⟨x,h1,e1,e2⟩:=cY ee
 simp only[BT.L5] at e2
 obtain ⟨ls,h2,e3,e4⟩:=cY e2
 simp only[BT.L4] at e4
 obtain ⟨us,h3,e5,e6⟩:=cY e4
 unfold BT.L1 at e6
 cases g1:BT.rd x h3 with
 | none=>rw[g1] at e6;exact cU e6
 | some d =>
  cases g2:(BT.dG ls).bind BT.rB with
  | none=>rw[g1,g2] at e6;exact cU e6
  | some l =>
   cases g3:(BT.dG us).bind BT.rB with
   | none=>rw[g1,g2,g3] at e6;exact cU e6
   | some u =>
    rw[g1,g2,g3] at e6
    simp only at e6
    obtain ⟨b,e7,e8⟩:=dh e6
    cases e8
    refine ⟨m,s,h,x,h1,R,S,e1,fun v H1 m1 x1 R1 r1=>hl σ H1 _ ⟨m1,s,h1,l,ls,h2,R1,S.ext x1,e3,g2,fun H2 m2 x2 R2=>hh σ H2 _ ⟨m2,s,h2,u,us,h',R2,(S.ext x1).ext x2,e5,g3,fun H3 m3 x3 R3=>?_⟩⟩⟩
    exact ⟨m3,h',x,d,b,R3,(r1.ext x2).ext x3,g1,e7,fun v5 H5 m5 x5 R5 r5=>post v5 H5 m5 (((x1.trans x2).trans x3).trans x5) R5 r5⟩
end
section
theorem xE (hs:sp=spF X.prog X.w X.K (F (.f f))) (q:tD X F G (.call f as) σ H Q):As sp [] E0 (tDs X F G as) σ H Q:=by
 subst hs
 refine lE (k:=fun ws h=>F (.f f) ws h) (fun s h=>by simp only[BT.ev]) q fun m h xs z h' vs H1 R r e post=>?_
 rw[Sy]
 exact ⟨m,xs,h,z,h',R,r,e,post⟩
theorem jl (q:tDs X F G .nil σ H Q):Ar σ H Q:=by
 obtain ⟨m,s,h,zs,h',R,S,ee,post⟩:=q
 simp only[BT.evs] at ee
 cases ee
 exact post [] H m (.refl _ _) R .nil
theorem Bo (O:Ok X F G sc N) (hg:dM sc f=true) (hn:fy f=true) (hc:CEs sc N as es) (ha:PA X es (tDs X F G as)) :
 PE X (.Call (.Name f p) es [] pos) (tD X F G (.call f as)):=by
 have hst:=gQ hc
 intro pins s σ H Q I q
 have q0:=q
 obtain ⟨m,s',h,z,h',R,S,ee,post⟩:=q
 simp only[BT.ev] at ee
 obtain ⟨ws,h1,e1,e2⟩:=cY ee
 obtain ⟨fa,fd,ps,k,hm,hk,hb,hr,ok⟩:=O.call _ _ _ _ e2
 cases es with
 | nil =>
  cases as with
  | cons a r=>exact (oV hc).elim
  | nil=>exact (PE.weak (Aw ok hr (dR O hg) hm hk hb .nil n8 (gx hn).1) (fun σ H Q z=>jl (xE (X:=X) rfl z))) pins s σ H Q I q0
 | cons e es =>
  simp only[c5,Rn] at hst
  exact (PE.weak (DJ ok hr (dR O hg) hm hk hb .nil n8 ha (gx hn).1 (cX hst.1) (dD hst.2)) (fun σ H Q z=>xE rfl z)) pins s σ H Q I q0
theorem mF {id:String} (pa:PlainAttrs T) (slot:Slot T name id)
 (hty:typeOf (.builtin id)=pure (.type "method_descriptor")) (hm:MtR X id (rMe X.prog X.w X.K me)) (hb:dB oe=true) (hl:(apos.endLine==cpos.line)=true) (hlen:es.length < 20) (ho:PE X oe (tD X F G o)) (hc:CEs sc N as es) (ha:PA X es (tDs X F G as))
 (ty:∀ (m:List Rz) (h h2:BT.HH) (H:Hp) (v:V) (x:BT.W) ws r,RH X.K m H h->RW X.prog X.w X.K m H v x->BT.pZ x h=true->BT.meW me x ws h2=some r->(∃ σ s,RS X.prog X.w X.K m H σ s/\∃ h0,BT.ev F G o s h0=some (x,h))->tyV X.K T v H) :
 PE X (.Call (.Attribute oe name apos) es [] cpos) (tD X F G (.me me o as)):=by
 have hst:=gQ hc
 have key:∀ σ H Q,tD X F G (.me me o as) σ H Q->tBM X.K T (rMe X.prog X.w X.K me) (tD X F G o) (tDs X F G as) σ H Q:=by
  intro σ H Q q
  obtain ⟨m,s,h,z,h',R,S,ee,post⟩:=q
  simp only[BT.ev] at ee
  obtain ⟨x,h1,e1,e2⟩:=cY ee
  obtain ⟨ok,e2⟩:=xy e2
  obtain ⟨ws,h2,e3,e4⟩:=cY e2
  refine ⟨m,s,h,x,h1,R,S,e1,fun v H1 m1 x1 R1 r1=>⟨ty m1 h1 h2 H1 v x ws _ R1 r1 ok e4 ⟨σ,s,S.ext x1,h,e1⟩,m1,s,h1,ws,h2,R1,S.ext x1,e3,fun vs H2 m2 x2 R2 r2=>?_⟩⟩
  exact ⟨m2,h2,x,ws,z,h',R2,r1.ext x2,r2,e4,fun v5 H5 m5 x5 R5 r5=>post v5 H5 m5 ((x1.trans x2).trans x5) R5 r5⟩
 cases es with
 | nil =>
  cases as with
  | cons a r=>exact (oV hc).elim
  | nil =>
   refine PE.weak (HM pa slot hty hm ho (j9 hb) hl) fun σ H Q q=>?_
   obtain ⟨m,s,h,z,h',R,S,ee,post⟩:=key σ H Q q
   exact ⟨m,s,h,z,h',R,S,ee,fun v H1 m1 x1 R1 r1=>⟨(post v H1 m1 x1 R1 r1).1,jl (post v H1 m1 x1 R1 r1).2⟩⟩
 | cons e es =>
  simp only[c5,Rn] at hst
  refine PE.weak (AB pa slot hty hm ho ha (j9 hb) ?_ hl (cX hst.1) (dD hst.2)) key
  rw[jP (es:=e :: es) (by simp only[c5,Rn];exact hst)]
  have h30:decide ((e :: es).length+([]:List Vn).length+(if ([]:List Vn).isEmpty then 0 else 1) < 30)=true:=decide_eq_true (by
   simp only[RO,Tw,List.isEmpty_nil,if_true] at hlen ⊢;lia)
  rw[h30];rfl
theorem kC (q:tD X F G (.bi b mu as) σ H Q):tCB (rBi X.prog X.w X.K b mu) (tDs X F G as) σ H Q:=by
 refine lE (k:=fun ws h=>BT.kBi b mu ws h) (fun s h=>by simp only[BT.ev]) q fun m h xs z h' vs H1 R r e post=>?_
 exact ⟨m,h,xs,z,h',R,r,e,post⟩
theorem IW (O:Ok X F G sc N) (hu:fX N=true) (hb:GL b mu x=true) (hg:dM sc x=true) (hst:c5 (e :: es)=true) (ha:PA X (e :: es) (tDs X F G as)) :
 PE X (.Call (.Name x p) (e :: es) [] pos) (tD X F G (.bi b mu as)):=by
 simp only[c5,Rn] at hst
 have hx:AW b mu=some x:=eq_of_beq hb
 have hB:=O.blt
 cases b<;>cases mu<;>first | exact cU hx | (change some _=some _ at hx)
 all_goals (cases hx)
 ·exact PE.weak (gT IM (dR O hg) (hB _ (by decide)) PySem.boot_len ha (by decide) (by decide) (cX hst.1) (dD hst.2)) (fun σ H Q z=>kC z)
 ·exact PE.weak (gT IP (dR O hg) (hB _ (by decide)) (by decide +kernel) ha (by decide) (by decide) (cX hst.1) (dD hst.2)) (fun σ H Q z=>kC z)
 ·exact PE.weak (jZ IQ (dR O hg) (hB _ (by decide)) (by decide +kernel) ha (by decide) (by decide) (cX hst.1) (dD hst.2)) (fun σ H Q z=>kC z)
 ·exact PE.weak (jZ xw (dR O hg) (hB _ (by decide)) (by decide +kernel) ha (by decide) (by decide) (cX hst.1) (dD hst.2)) (fun σ H Q z=>kC z)
 ·exact PE.weak (jZ xw (dR O hg) (hB _ (by decide)) (by decide +kernel) ha (by decide) (by decide) (cX hst.1) (dD hst.2)) (fun σ H Q z=>kC z)
 ·exact PE.weak (jZ Bc (dR O hg) (hB _ (by decide)) (by decide +kernel) ha (by decide) (by decide) (cX hst.1) (dD hst.2)) (fun σ H Q z=>kC z)
 ·exact PE.weak (gT qJ (dR O hg) (hB _ (by decide +kernel)) (by decide +kernel) ha (by decide) (by decide) (cX hst.1) (dD hst.2)) (fun σ H Q z=>kC z)
 ·exact PE.weak (gT qJ (dR O hg) (hB _ (by decide +kernel)) (by decide +kernel) ha (by decide) (by decide) (cX hst.1) (dD hst.2)) (fun σ H Q z=>kC z)
theorem zu (hb:uq b=some (c,f)):fO X (.builtin "isinstance") (fun vs H Q=>∃ v,vs=[v,.ty c]/\rBi X.prog X.w X.K b false [v] H Q):=by
 intro pins s σ H vs us Q I rus h
 obtain ⟨v,rfl,m,h,ws,z,h',R,rws,e,post⟩:=h
 obtain ⟨u,u2,rfl,ru,ru2⟩:=rus.two
 cases ru2
 obtain ⟨ds,d,e1,e2,⟨_,rfl,rfl⟩ | ⟨_,q,_⟩⟩:=jN e
 ·have rr:=iW R rws e1
  cases rr with
  | cons r t =>
   cases t
   rw[Be hb] at e2
   cases e2
   exact Eu I r ru (Bf hb X.K _) fun tk=>⟨.bl _,H,I.tok tk,rfl,post.here R (.bl _)⟩
 ·exact BT.dQ q
theorem Bp (O:Ok X F G sc N) (hb:uq b=some (c,f)) (hg:dM sc "isinstance"=true) (hg2:dM sc (RM c)=true) (hst:noStar e=true) (ha:PE X e (tD X F G a)) :
 PE X (.Call (.Name "isinstance" p) [e,.Name (RM c) p2] [] pos) (tD X F G (.bi b false (.cons a .nil))):=by
 have hB:=O.blt
 have hc:PE X (.Name (RM c) p2) (tC (.ty c)):=by
  cases b<;>simp only[uq] at hb<;>try contradiction
  all_goals (cases hb)
  ·exact kU (dR O hg2) (hB _ (by decide)) (u:=.type "int") (by decide +kernel) rfl (by decide) (by decide)
  ·exact kU (dR O hg2) (hB _ (by decide)) (u:=.type "bool") (by decide +kernel) rfl (by decide) (by decide)
  ·exact kU (dR O hg2) (hB _ (by decide)) (u:=.type "str") (by decide +kernel) rfl (by decide) (by decide)
  ·exact kU (dR O hg2) (hB _ (by decide)) (u:=.type "tuple") (by decide +kernel) rfl (by decide) (by decide)
  ·exact kU (dR O hg2) (hB _ (by decide)) (u:=.type "list") (by decide +kernel) rfl (by decide) (by decide)
 refine PE.weak (gT (zu hb) (dR O hg) (hB _ (by decide)) (by decide +kernel) (fT ha (fT hc kG) (cX hst)) (by decide) (by decide) (cX hst) rfl) fun σ H Q q=>?_
 obtain ⟨m,s,h,z,h',R,S,ee,post⟩:=q
 simp only[BT.ev,BT.evs] at ee
 obtain ⟨ws,h1,e1,e2⟩:=cY ee
 obtain ⟨x,h2,e3,e4⟩:=cY e1
 simp only[BT.ly,BT.dW,BT.jH] at e4
 cases e4
 refine ⟨m,s,h,x,h1,R,S,e3,fun v H1 m1 x1 R1 r1=>?_⟩
 exact ⟨v,rfl,m1,h1,[x],z,h',R1,.cons r1 .nil,e2,fun v5 H5 m5 x5 R5 r5=>post v5 H5 m5 (x1.trans x5) R5 r5⟩
theorem IX (σ:L2.St) (H:Hp) (Q:VK) (q:tD X F G (.tup as) σ H Q):Lj (tDs X F G as) σ H Q:=by
 refine lE (k:=fun ws h=>BT.Ib ws h) (fun s h=>by simp only[BT.ev]) q fun m h xs z h' vs H1 R r e post=>?_
 unfold BT.Ib at e
 cases g:BT.dG xs with
 | none=>rw[g] at e;exact cU e
 | some ds =>
  rw[g] at e
  simp only at e
  obtain ⟨c,e⟩:=dj e
  cases e
  have rd:=r.pure g
  have:=fG
  have hl:=rd.length
  exact ⟨by lia,fun p hp=>lA R hp rd post⟩
theorem IY (σ:L2.St) (H:Hp) (Q:VK) (q:tD X F G (.lst mu as) σ H Q):Lk (tDs X F G as) σ H Q:=by
 refine lE (k:=fun ws h=>BT.Ic mu ws h) (fun s h=>by simp only[BT.ev]) q fun m h xs z h' vs H1 R r e post=>?_
 unfold BT.Ic at e
 cases g:BT.dG xs with
 | none=>rw[g] at e;exact cU e
 | some ds =>
  rw[g] at e
  simp only at e
  split at e
  ·rename_i c
   have rd:=r.pure g
   have:=fG
   have hl:=rd.length
   have ez:BT.new mu ds h=(z,h'):=Ry e
   exact ⟨by lia,fun p hp=>nI (mu:=mu) R hp rd (by rw[ez];exact post)⟩
  ·exact cU e
theorem cons_of (σ:L2.St) (H:Hp) (Q:List V->Hp->Prop) (q:tDs X F G (.cons a as) σ H Q):GC (tD X F G a) (tDs X F G as) σ H Q:=by
 obtain ⟨m,s,h,zs,h',R,S,ee,post⟩:=q
 simp only[BT.evs] at ee
 obtain ⟨x,h1,e1,e2⟩:=cY ee
 simp only[BT.ly] at e2
 obtain ⟨xs,h2,e3,e4⟩:=cY e2
 simp only[BT.jH] at e4
 cases e4
 exact ⟨m,s,h,x,h1,R,S,e1,fun v H1 m1 x1 R1 r1=>⟨m1,s,h1,xs,h',R1,S.ext x1,e3,fun vs H2 m2 x2 R2 r2=>post _ H2 m2 (x1.trans x2) R2 (.cons (r1.ext x2) r2)⟩⟩
end
section
variable {K:Rj}
theorem RFs.get:∀ {vs:List (Str×V)}{fs:List (Str×BT.W)},RFs K m H vs fs->BT.d7 f fs=some x->∃ v,vs.lookup f=some v/\RA K m H v x
 | _,_,.nil,e=>by exact cU e
 | _,_,.cons (f:=g) r t,e=>by
  rw[BT.qF] at e
  by_cases c:f=g
  ·rw[if_pos c] at e;cases e;subst c;exact ⟨_,by simp,r⟩
  ·rw[if_neg c] at e
   obtain ⟨v,h1,h2⟩:=RFs.get t e
   exact ⟨v,by rw[SQ];rw[beq_false_of_ne c];exact h1,h2⟩
theorem RFs.none:∀ {vs:List (Str×V)}{fs:List (Str×BT.W)},RFs K m H vs fs->(BT.d7 f fs).isNone=true->vs.lookup f=none
 | _,_,.nil,_=>rfl
 | _,_,.cons (f:=g) r t,e=>by
  rw[BT.qF] at e
  by_cases c:f=g
  ·rw[if_pos c] at e;exact BT.dQ e
  ·rw[if_neg c] at e
   rw[SQ,beq_false_of_ne c]
   exact RFs.none t e
theorem RFs.put (q:RA K m H v x):∀ {vs:List (Str×V)}{fs:List (Str×BT.W)},RFs K m H vs fs->RFs K m H (L2.d9 f v vs) (BT.d9 f x fs)
 | _,_,.nil=>.cons q .nil
 | _,_,.cons (f:=g) r t=>by
  rw[L2.d9,BT.yY]
  by_cases c:f=g
  ·rw[if_pos c,if_pos c.symm];subst c;exact .cons q t
  ·rw[if_neg c,if_neg (SH c)];exact .cons r (RFs.put q t)
theorem RFs.length:∀ {vs:List (Str×V)}{fs:List (Str×BT.W)},RFs K m H vs fs->vs.length=fs.length
 | _,_,.nil=>rfl
 | _,_,.cons _ t=>by rw[RO,RO,RFs.length t]
end
section
theorem ED (e:BT.D9 f x h=some r):∃ n c fs w,x=.o n/\BT.oat h n=some (c,fs)/\BT.d7 f fs=some w/\r=(w,h):=by
 cases x with
 | o n =>
  rw[BT.Ig] at e
  cases g:BT.oat h n with
  | none=>rw[g] at e;exact cU e
  | some q =>
   obtain ⟨c,fs⟩:=q
   rw[g] at e
   obtain ⟨w,e1,e2⟩:=dh e
   exact ⟨n,c,fs,w,rfl,g,e1,e2.symm⟩
 | p d=>exact cU e
 | r n=>exact cU e
 | k q=>exact cU e
 | c _ _=>exact cU e
 | x _=>exact cU e
theorem EE {sc:Sx}{N:List Str} (hb:dB x=true) (hf:attrName f=true) (ha:PE X x (tD X F G a)):PE X (.Attribute x f p) (tD X F G (.fld a f)):=by
 refine PE.weak (HA ha (j9 hb)) fun σ H Q q=>?_
 refine GO (k:=BT.D9 f) (fun s h=>by simp only[BT.ev]) q fun m h x z h' v H1 R r e post=>?_
 obtain ⟨n,c,fs,w,rfl,e1,e2,e3⟩:=ED e
 cases e3
 cases r with
 | o hn =>
  obtain ⟨C,dx,vs,h1,h2,h3⟩:=R.qH _ _ _ _ hn e1
  obtain ⟨u,l,ra⟩:=h3.get e2
  exact ⟨_,C,dx,vs,u,rfl,h1,h2.cls,h2.no f hf,l,post u H1 m (.refl _ _) R ra.rw⟩
theorem mG (hb:dB o=true) (hst:c5 args=true) (hlen:args.length < 20) (hl:(apos.endLine==pos.line)=true) :
 eval (.Call (.Attribute o m apos) args [] pos) env=(do
  let ov ← eval o env
  Wu apos.atName
  let (f,first) ← UK [ov] (Ww ov m (do return (← importBound o env).getD true))
  callWith pos f first (T9 pos (R8 args env)) (Wo pos (U3 [] env))):=by
 have hf:methodCallForm (args.length+([]:List Vn).length) (T9 pos (R8 args env)) (Wo pos (U3 [] env))=true:=by
  unfold methodCallForm
  have h30:decide (args.length+([]:List Vn).length+(if (Wo pos (U3 [] env)).isEmpty then 0 else 1) < 30)=true:=decide_eq_true (by
   show args.length+0+0 < 30
   lia)
  rw[h30,jP hst];rfl
 rw[arm_eval_Call,j9 hb]
 unfold methodCall
 rw[hf]
 have hp:methodCallPos true o env apos pos=pure pos:=by
  unfold methodCallPos
  rw[hl];rfl
 rw[hp]
 rfl
theorem Bq (e:BT.AI F m ea x h=some r) :
 ∃ n c fs ws g,x=.o n/\BT.oat h n=some (c,fs)/\(BT.d7 m fs).isNone=true/\ea h=some (ws,g)/\F (.m c m) (.o n :: ws) g=some r:=by
 cases x with
 | o n =>
  rw[BT.Ea] at e
  cases g:BT.oat h n with
  | none=>rw[g] at e;exact cU e
  | some q =>
   obtain ⟨c,fs⟩:=q
   rw[g] at e
   simp only at e
   split at e
   ·rename_i c1
    obtain ⟨ws,g2,e1,e2⟩:=cY e
    exact ⟨n,c,fs,ws,g2,rfl,g,c1,e1,e2⟩
   ·exact cU e
 | p d=>exact cU e
 | r n=>exact cU e
 | k q=>exact cU e
 | c _ _=>exact cU e
 | x _=>exact cU e
theorem Br (O:Ok X F G sc N) (hb:dB oe=true) (hl:(apos.endLine==cpos.line)=true) (hlen:es.length < 20) (ho:PE X oe (tD X F G o)) (hc:CEs sc N as es) (ha:PA X es (tDs X F G as)) :
 PE X (.Call (.Attribute oe m apos) es [] cpos) (tD X F G (.meth o m as)):=by
 have hst:=gQ hc
 intro pins s σ H Q I q
 obtain ⟨m0,s',h,z,h',R,S,ee,post⟩:=q
 simp only[BT.ev] at ee
 obtain ⟨x,h1,e1,e2⟩:=cY ee
 obtain ⟨n,c,fs,ws,g,rfl,e3,e4,e5,e6⟩:=Bq e2
 obtain ⟨C,ga,fd,ps,k,hC,hM,hB,hR,ok⟩:=O.meth _ _ _ _ _ e6
 have key:Au C m (spF X.prog X.w X.K (F (.m c m))) [] E0 (tD X F G o) (tDs X F G as) σ H Q:=by
  refine ⟨m0,s',h,.o n,h1,R,S,e1,fun v H1 m1 x1 R1 r1=>?_⟩
  cases r1 with
  | @o a _ hn =>
   obtain ⟨C',dx,vs,q1,q2,q3⟩:=R1.qH _ _ _ _ hn e3
   cases q2.cn.inj hC.cn
   refine ⟨a,dx,vs,rfl,q1,q3.none e4,m1,s',h1,ws,g,R1,S.ext x1,e5,fun us H2 m2 x2 R2 r2=>?_⟩
   show spF X.prog X.w X.K (F (.m c m)) (V.ref a :: (us++[])) H2 Q E0
   rw[Sy]
   exact ⟨m2,.o n :: ws,g,z,h',R2,.cons (.o (x2.ix hn)) r2,e6,fun v5 H5 m5 x5 R5 r5=>post v5 H5 m5 ((x1.trans x2).trans x5) R5 r5⟩
 cases es with
 | nil =>
  cases as with
  | cons a r=>exact (oV hc).elim
  | nil =>
   refine Ax ho hC.cls hM ok hR hB .nil n8 (mG hb hst hlen hl) pins s σ H Q I ?_
   obtain ⟨m,s,h,z,h',R,S,ee,post⟩:=key
   refine ⟨m,s,h,z,h',R,S,ee,fun v H1 m1 x1 R1 r1=>?_⟩
   obtain ⟨a,dx,fs,q1,q2,q3,q4⟩:=post v H1 m1 x1 R1 r1
   exact ⟨a,dx,fs,q1,q2,q3,jl q4⟩
 | cons e es =>
  have hst':=hst
  simp only[c5,Rn] at hst'
  exact DK ho hC.cls hM ok hR hB .nil n8 ha (cX hst'.1) (dD hst'.2) (mG hb hst hlen hl) pins s σ H Q I key
theorem Bs (O:Ok X F G sc N) (hg:dM sc c=true) (hn:fy c=true) (hc:CEs sc N as es) (ha:PA X es (tDs X F G as)) :
 PE X (.Call (.Name c p) es [] pos) (tD X F G (.make c as)):=by
 have hst:=gQ hc
 intro pins s σ H Q I q
 obtain ⟨m0,s',h,z,h',R,S,ee,post⟩:=q
 simp only[BT.ev] at ee
 obtain ⟨ws,h1,e1,e2⟩:=cY ee
 rw[BT.AJ] at e2
 obtain ⟨y,h2,e3,e4⟩:=cY e2
 have e5:y=.p .non/\(z,h')=(.o h1.length,h2):=by
  cases y with
  | p d=>cases d<;>simp[BT.xh] at e4;exact ⟨rfl,by rw[e4.1,e4.2]⟩
  | r n=>exact cU e4
  | k q=>exact cU e4
  | c _ _=>exact cU e4
  | x _=>exact cU e4
  | o n=>exact cU e4
 obtain ⟨rfl,e5⟩:=e5
 cases e5
 obtain ⟨C,ga,fd,ps,k,hC,hmg,hM,hB,hR,ok⟩:=O.mkc _ _ _ _ e3
 have key:Av C (spF X.prog X.w X.K (F (.m c "__init__"))) [] E0 (tDs X F G as) σ H Q:=by
  refine ⟨m0,s',h,ws,h1,R,S,e1,fun us H1 m1 x1 R1 r1 x dx nx ndx ne=>?_⟩
  rw[Sy]
  have xa:Ext m1 H1 m1 (upd H1 dx (.own x)):=gF ndx
  have Ra:RH X.K m1 (upd H1 dx (.own x)) h1:=R1.new ndx
  have nx':upd H1 dx (.own x) x=none:=by rw[c6 (SH ne)];exact nx
  have xb:Ext m1 (upd H1 dx (.own x)) (m1++[x]) (upd (upd H1 dx (.own x)) x (.ins C dx [])):=jJ nx'
  have Rb:RH X.K (m1++[x]) (upd (upd H1 dx (.own x)) x (.ins C dx [])) (h1++[.o c []]):=Ra.IB nx' ⟨C,dx,[],dz,hC,.nil⟩
  have ix:(m1++[x])[h1.length]?=some x:=by rw[← R1.len];simp
  refine ⟨m1++[x],.o h1.length :: ws,h1++[.o c []],.p .non,h',Rb,.cons (.o ix) (r1.ext (xa.trans xb)),e3,fun v H2 m2 x2 R2 r2=>?_⟩
  cases r2 with
  | p r2 =>
   cases r2
   exact ⟨rfl,post _ H2 m2 (((x1.trans xa).trans xb).trans x2) R2 (.o (x2.ix ix))⟩
 cases es with
 | nil =>
  cases as with
  | cons a r=>exact (oV hc).elim
  | nil =>
   refine Ay hM ok hR (dR O hg) hmg hB .nil n8 (gx hn).1 pins s σ H Q I ?_
   exact jl key
 | cons e es =>
  simp only[c5,Rn] at hst
  exact DL hM ok hR (dR O hg) hmg hB .nil n8 ha (gx hn).1 (cX hst.1) (dD hst.2) pins s σ H Q I key
noncomputable def IZ (o:BT.Bin):TIp:=fun x y H Q=>∃ i j z,x=.int i/\y=.int j/\BT.oi o (.int i) (.int j)=some (.int z)/\Q (.int z) H
noncomputable def Bt:BT.Bin->UJ->Bool
 | .add,.Add=>true
 | .sub,.Sub=>true
 | .mul,.Mult=>true
 | _,_=>false
theorem xF (h:Bt o op=true):PIp X op (IZ o):=by
 rintro pins s σ H x y u v Q I rx ry ⟨i,j,z,rfl,rfl,e,q⟩
 obtain ⟨t,rfl⟩:=(show ∃ t,u=US i t from rx)
 obtain ⟨t',rfl⟩:=(show ∃ t',v=US j t' from ry)
 cases o<;>cases op<;>cases h
 ·cases e;exact PyProof.Rows.iadd_int ⟨.int (i+j),H,I.tok _,⟨_,rfl⟩,q⟩
 ·cases e;exact PyProof.Rows.isub_int ⟨.int (i - j),H,I.tok _,⟨_,rfl⟩,q⟩
 ·rw[BT.tY] at e
  obtain ⟨c,e⟩:=dj e
  cases e
  have hc:DE i j:=by
   rcases TJ _ _ ▸ c with c | c
   ·exact .inl (rR c)
   ·exact .inr (rR c)
  exact PyProof.Rows.imul_int ⟨.int (i*j),H,I.tok _,⟨_,rfl⟩,q⟩ hc.ok
theorem xG (h:BT.oi o d e=some z):∃ i j k,d=.int i/\e=.int j/\z=.int k:=by
 cases d with
 | int i =>
  cases e with
  | int j =>
   refine ⟨i,j,?_⟩
   cases o with
   | add=>exact ⟨_,rfl,rfl,(Ry h).symm⟩
   | sub=>exact ⟨_,rfl,rfl,(Ry h).symm⟩
   | mul =>
    rw[BT.tY] at h
    split at h
    ·exact ⟨_,rfl,rfl,(Ry h).symm⟩
    ·exact cU h
   | _=>exact cU h
  | _=>cases o<;>exact cU h
 | _=>cases o<;>exact cU h
end
section
variable {K:Rj}
end
theorem mH (r:c9 vs us):∀ l:List Nat,c9 (l.filterMap fun i=>vs[i]?) (l.filterMap fun i=>us[i]?)
 | []=>.nil
 | i :: l=>by
  rw[Sj,Sj]
  cases g:vs[i]? with
  | none =>
   have:us[i]?=none:=by
    have h:=r.length
    rw[Wd] at g ⊢
    lia
   rw[this]
   exact mH r l
  | some d =>
   obtain ⟨v,e,q⟩:=r.get g
   rw[e]
   exact .cons q (mH r l)
noncomputable def uz (k:Int) (xs:List V):List V:=(Vq (Sd none none (some k) xs.length).1 (Sd none none (some k) xs.length).2.1 (Sd none none (some k) xs.length).2.2).filterMap fun i=>xs[i]?
section
theorem Ja (hk:k≠0) (he:PE X e te) (hs:PE X se (tC (.int k))) :
 PE X (.Subscript e (.Slice none none (some se) p2) pos) (fun σ H Q=>te σ H fun x H1=>∃ a xs,x=.ref a/\SqL X.K H1 a xs/\∀ p,H1 p=none->Q (.ref p) (upd H1 p (.lst (uz k xs)))):=by
 intro pins s σ H Q I h
 refine Subscript_ (thn (he pins s σ H _ I h) fun v s1 zq=>?_)
 obtain ⟨x,H1,I1,r1,a,xs,ex,hx,q⟩:=zq
 subst ex
 cases r1
 refine wpAny_Slice ?_
 rw[Xd]
 refine wpAny_pure (wpAny_pure ?_)
 rw[evalPart_some]
 refine thn (hs pins s1 σ H1 (fun v H'=>v=.int k/\H'=H1) I1 ⟨rfl,rfl⟩) fun vs s3 zq=>?_
 obtain ⟨y,H3,I3,r3,hy,hh⟩:=zq
 subst hy hh
 obtain ⟨t,rfl⟩:=r3
 have I4:Inv X pins σ H3 { s3 with heap:=s3.heap.push { cls:=.type "slice",data:=.fields #[.none,.none,.int k t] } }:=I3.kept (t':=s3.toks) fun b ob q=>Rk _ q
 obtain ⟨its,rv,p,hz⟩:=I4.list hx
 have hg:wpAny (RX X.prog X.w) X.A (VX (.ref a) (.ref s3.heap.objs.size)) (EP X pins σ Q) X.xe { s3 with heap:=s3.heap.push { cls:=.type "slice",data:=.fields #[.none,.none,.int k t] } }:=by
  have hlen:=rv.length
  refine WX p.isList (VR ..) .none .none (.int k t) (by intro z;exact hk (Ry z)) ?_ (by rw[Rp];lia)
  have hp:slicePick its.toArray none none (some k)=((Vq (Sd none none (some k) xs.length).1 (Sd none none (some k) xs.length).2.1 (Sd none none (some k) xs.length).2.2).filterMap fun i=>its[i]?).toArray:=by
   unfold slicePick
   rw[Rp,← hlen]
   simp
  rw[hp]
  have hq:=mH rv (Vq (Sd none none (some k) xs.length).1 (Sd none none (some k) xs.length).2.1 (Sd none none (some k) xs.length).2.2)
  have hz':(uz k xs).length<=xs.length:=by
   have:=slicePick_size_le its.toArray none none (some k)
   rw[hp,Rp,Rp] at this
   have e:=hq.length
   unfold uz
   lia
  refine ⟨.ref (s3.heap.push { cls:=.type "slice",data:=.fields #[.none,.none,.int k t] }).objs.size,_,I4.laid (t':=s3.toks) (o:=.lst (uz k xs)) (fun b ob q=>Rk _ q) (Rr _) ?_,rfl,q _ (I4.hok.fresh (Rr _))⟩
  exact ⟨by lia,_,0,hq,RB _ rfl⟩
 show wpAny (RX X.prog X.w) X.A (Xa e (.Slice none none (some se) p2) (.ref a) (.ref s3.heap.objs.size)) (EP X pins σ Q) X.xe { s3 with heap:=s3.heap.push { cls:=.type "slice",data:=.fields #[.none,.none,.int k t] } }
 exact W9 (ops:=[.ref a,.ref s3.heap.objs.size]) p.isList.typeIs slot_list_getitem.lookup hg (by with_unfolding_all rfl)
theorem xH (h:(Ej e).bind cInt=some k):∃ a b,e=.Constant (.int k) a b:=by
 cases e with
 | Constant c a b =>
  cases c with
  | int j=>cases h;exact ⟨a,b,rfl⟩
  | _=>exact absurd (show (none:Option Int)=some _ from h) (fun z=>nomatch z)
 | _=>exact absurd (show (none:Option Int)=some _ from h) (fun z=>nomatch z)
theorem Bu (h:rM k e=true):(∃ a b,e=.Constant (.int k) a b/\0 < k)\/∃ j a b p,e=.UnaryOp .USub (.Constant (.int j) a b) p/\k=-j/\0 < j:=by
 unfold rM at h
 rw[TJ,Rn,Rn,decide_eq_true_eq,decide_eq_true_eq] at h
 rcases h with ⟨h1,h2⟩ | ⟨h1,h2⟩
 ·obtain ⟨a,b,e1⟩:=xH (eq_of_beq h1)
  exact .inl ⟨a,b,e1,h2⟩
 ·have h1:=eq_of_beq h1
  cases e with
  | UnaryOp o e p =>
   by_cases c:o=.USub
   ·subst c
    have h3:(Ej e).bind cInt=some (-k):=h1
    obtain ⟨a,b,rfl⟩:=xH h3
    exact .inr ⟨-k,a,b,p,rfl,by lia,by lia⟩
   ·have:unE (.UnaryOp o e p)=none:=if_neg c
    rw[this] at h1
    exact cU h1
  | _=>exact absurd (show (none:Option Int)=some _ from h1) (fun z=>nomatch z)
theorem EF (hk:rM k se=true) (ha:PE X x (tD X F G a)):PE X (.Subscript x (.Slice none none (some se) p2) p) (tD X F G (.stp mu k a)):=by
 have hs:k≠0/\PE X se (tC (.int k)):=by
  rcases Bu hk with ⟨a,b,rfl,h⟩ | ⟨j,a,b,p,rfl,rfl,h⟩
  ·exact ⟨by lia,u6⟩
  ·exact ⟨by lia,PE.weak (GB Ai u6) fun σ H Q q=>⟨_,rfl,q⟩⟩
 refine PE.weak (Ja hs.1 ha hs.2) fun σ H Q q=>?_
 refine GO (k:=BT.Ie mu k) (fun s h=>by simp only[BT.ev]) q fun m h x z h' v H1 R r e post=>?_
 unfold BT.Ie at e
 cases g:BT.rd x h with
 | none=>rw[g] at e;exact cU e
 | some d =>
  rw[g] at e
  cases d with
  | lst xs =>
   simp only at e
   have r1:=dP R r g
   obtain ⟨a,vs,rfl,hl,rr⟩:=r1.lst
   have ez:BT.new mu (BT.ug k xs) h=(z,h'):=Ry e
   refine ⟨a,vs,rfl,hl.sq,fun p hp=>nI (mu:=mu) R hp ?_ (by rw[ez];exact post)⟩
   unfold uz BT.ug
   rw[rr.length]
   exact RDs.pick rr _
  | _=>exact cU e
theorem Bv {X:Cx}{b:BT.Bi}{g:Int->Int->Int} (hb:∀ ds d,BT.biD b ds=some d->∃ i j,ds=[.int i,.int j]/\d=.int (g i j)) {id:String} (hc:fO X (.builtin id) (fun xs H Q=>∃ i j,xs=[.int i,.int j]/\Q (.int (g i j)) H)):fO X (.builtin id) (rBi X.prog X.w X.K b false):=by
 intro pins s σ H vs us Q I rus h
 obtain ⟨m,h,ws,z,h',R,rws,e,post⟩:=h
 obtain ⟨ds,d,e1,e2,⟨_,rfl,rfl⟩ | ⟨_,q,_⟩⟩:=jN e
 ·have rr:=iW R rws e1
  obtain ⟨i,j,rfl,rfl⟩:=hb _ _ e2
  cases rr with
  | cons r t =>
   cases t with
   | cons r' t' =>
    cases t'
    cases r.int
    cases r'.int
    exact hc pins s σ H _ us Q I rus ⟨i,j,rfl,post.here R (.int _)⟩
 ·exact BT.dQ q
theorem EG {X:Cx}{sc:Sx}{N:List Str} (O:Ok X F G sc N) (hu:fX N=true) {b:BT.Bi}{as:BT.Es}{x:Str}{e:Rq}{es:List Rq}{p pos:Pos} (hb:AX b x=true) (hg:dM sc x=true) (hst:c5 (e :: es)=true) (ha:PA X (e :: es) (tDs X F G as)) :
 PE X (.Call (.Name x p) (e :: es) [] pos) (tD X F G (.bi b false as)):=by
 simp only[c5,Rn] at hst
 have hB:=O.blt
 cases b<;>first | exact BT.dQ hb | (replace hb:=eq_of_beq hb)
 ·subst hb
  refine PE.weak (gT (Bv (b:=.min2) (g:=fun i j=>if j < i then j else i) (fun ds d h=>?_) (yF (O.calm hu))) (dR O hg) (hB _ (by decide +kernel)) (by decide +kernel) ha (by decide) (by decide) (cX hst.1) (dD hst.2)) (fun σ H Q z=>kC z)
  match ds,h with
  | [.int i,.int j],h=>exact ⟨i,j,rfl,(Ry h).symm⟩
 ·subst hb
  refine PE.weak (gT (Bv (b:=.max2) (g:=fun i j=>if j > i then j else i) (fun ds d h=>?_) (yE (O.calm hu))) (dR O hg) (hB _ (by decide +kernel)) (by decide +kernel) ha (by decide) (by decide) (cX hst.1) (dD hst.2)) (fun σ H Q z=>kC z)
  match ds,h with
  | [.int i,.int j],h=>exact ⟨i,j,rfl,(Ry h).symm⟩
end
section
variable {K:Rj}
noncomputable def oX (H H':Hp):Prop:=(∀ a vs,Rd H a (.tup vs)->Rd H' a (.tup vs))/\∀ a vs,Rd H a (.lst vs)->Rd H' a (.lst vs)
mutual
theorem RD.tr (q:oX H H'):∀ {v:V}{d:BT.D},RD K m H v d->RD K m H' v d
 | _,_,.non=>.non
 | _,_,.bl b=>.bl b
 | _,_,.int i=>.int i
 | _,_,.str y h=>.str y h
 | _,_,.tup h r=>.tup (h.elim (fun z=>.inl ⟨q.1 _ _ z.1,z.2⟩) .inr) (RDs.tr q r)
 | _,_,.lst h r=>.lst (h.elim (fun z=>.inl ⟨q.2 _ _ z.1,z.2⟩) .inr) (RDs.tr q r)
theorem RDs.tr (q:oX H H'):∀ {vs:List V}{ds:List BT.D},RDs K m H vs ds->RDs K m H' vs ds
 | _,_,.nil=>.nil
 | _,_,.cons r t=>.cons (RD.tr q r) (RDs.tr q t)
end
theorem RA.tr (q:oX H H') (r:RA K m H v x):RA K m H' v x:=by
 cases r with
 | p r=>exact .p (r.tr q)
 | r h=>exact .r h
 | o h=>exact .o h
theorem RFs.tr (q:oX H H') (r:RFs K m H vs fs):RFs K m H' vs fs:=by
 induction r with
 | nil=>exact .nil
 | cons r t ih=>exact .cons (r.tr q) ih
theorem RCs.tr (q:oX H H') (r:RCs K m H vs cs):RCs K m H' vs cs:=by
 induction r with
 | nil=>exact .nil
 | cons r t ih=>exact .cons (r.tr q) ih
theorem RWs.tr (q:oX H H') (r:RWs P w K m H vs ws) (n:BT.noC ws=true):RWs P w K m H' vs ws:=by
 induction r with
 | nil=>exact .nil
 | cons r t ih =>
  cases r with
  | p r=>exact .cons (.p (r.tr q)) (ih n)
  | r h=>exact .cons (.r h) (ih n)
  | k _ _=>exact BT.dQ n
  | kl _ _=>exact BT.dQ n
  | o h=>exact .cons (.o h) (ih n)
  | c _ _=>exact BT.dQ n
  | x _=>exact BT.dQ n
  | g _ _=>exact BT.dQ n
theorem RCs.ws (r:RCs K m H vs cs):RWs P w K m H vs (cs.map BT.Cp.w):=by
 induction r with
 | nil=>exact .nil
 | cons r t ih=>exact .cons r.rw ih
theorem RWs.app (r:RWs P w K m H vs ws) (t:RWs P w K m H us zs):RWs P w K m H (vs++us) (ws++zs):=by
 induction r with
 | nil=>exact t
 | cons r _ ih=>exact .cons r ih
theorem RKs.tr (q:oX H H') (r:RKs K m H vs kvs):RKs K m H' vs kvs:=by
 induction r with
 | nil=>exact .nil
 | cons hk r t ih=>exact .cons (hk.tr q) (r.tr q) ih
theorem RH.tr (R:RH K m H h) (q:oX H H') (k:∀ a∈m,H' a=H a) (tb:TB K H'):RH K m H' h:=by
 refine ⟨R.nd,R.len,fun i a c e1 e2=>?_,tb⟩
 have z:=R.cl i a c e1 e2
 have e:=k a (RJ e1)
 cases c with
 | l xs=>obtain ⟨vs,h1,h2⟩:=z;exact ⟨vs,e.trans h1,h2.tr q⟩
 | o c fs=>obtain ⟨C,dx,vs,h1,h2,h3⟩:=z;exact ⟨C,dx,vs,e.trans h1,h2,h3.tr q⟩
 | d kvs=>obtain ⟨vs,h1,h2⟩:=z;exact ⟨vs,e.trans h1,h2.tr q⟩
 | z=>obtain ⟨ob,vs,h1⟩:=z;exact ⟨ob,vs,e.trans h1⟩
theorem Le.sq (q:Le H H'):oX H H':=⟨fun a vs r=>r.elim (fun z=>.inl (q _ _ z)) fun ⟨o,z⟩=>.inr ⟨o,q _ _ z⟩,fun a vs r=>r.elim (fun z=>.inl (q _ _ z)) fun ⟨o,z⟩=>.inr ⟨o,q _ _ z⟩⟩
theorem RH.le (R:RH K m H h) (q:Le H H'):RH K m H' h:=R.tr q.sq (fun a ha=>by
 obtain ⟨o,e,_⟩:=R.mu ha
 rw[e];exact q _ _ e) (q.tb R.tb)
theorem jC.le (q:Le H H') (r:jC m H cl xs vs):jC m H' cl xs vs:=by
 induction r with
 | nil=>exact .nil
 | cons h1 h2 h3 r t ih=>exact .cons h1 ⟨q _ _ h2.1,h2.2⟩ h3 r ih
theorem jz.le (q:Le H H') (h:jz m H f L vs):jz m H' f L vs:=by
 obtain ⟨bt,ps,fs,pa,be,sc,cl,pm,ctv,c',oc,os,t,ql,h0,h1,h2,h3,h4,h5,h6,h7,h8,h9,h10⟩:=h
 exact ⟨bt,ps,fs,pa,be,sc,cl,pm,ctv,c',oc,os,t,ql,h0,h1,h2,h3,h4,h5,⟨q _ _ h6.1,h6.2⟩,⟨q _ _ h7.1,h7.2⟩,h8,h9,h10.le q⟩
theorem RW.le (q:Le H H') {v:V}{x:BT.W} (r:RW P w K m H v x):RW P w K m H' v x:=by
 cases r with
 | p r=>exact .p (r.tr q.sq)
 | r h=>exact .r h
 | k h r=>exact .k h r
 | kl h r=>exact .kl ⟨q _ _ h.1,h.2⟩ (r.tr q.sq)
 | o h=>exact .o h
 | c h r=>exact .c (h.le q) (r.tr q.sq)
 | x h n xt=>exact .x (q _ _ h) n xt
 | g h r=>exact .g h r
end
noncomputable def fH (cl:List (Str×Rz)) (H:Hp):Prop:=∀ x c,cl.lookup x=some c->∃ o u,H c=some (.frz o (.own 0))/\o.data=.cell u
open Classical in
noncomputable def hid (cl:List (Str×Rz)) (H:Hp):Hp:=fun b=>if ∃ x,cl.lookup x=some b then none else H b
open Classical in
noncomputable def ret (cl:List (Str×Rz)) (H0 H:Hp):Hp:=fun b=>if ∃ x,cl.lookup x=some b then H0 b else H b
section
theorem vR (e:cl.lookup x=some b):hid cl H b=none:=if_pos ⟨x,e⟩
theorem fD (e:¬ ∃ x,cl.lookup x=some b):hid cl H b=H b:=if_neg e
theorem iw (e:H b=none):hid cl H b=none:=by
 unfold hid;split<;>first | rfl | exact e
theorem oY (e:cl.lookup x=some b):ret cl H H' b=H b:=if_pos ⟨x,e⟩
theorem gG (e:¬ ∃ x,cl.lookup x=some b):ret cl H H' b=H' b:=if_neg e
theorem Jb (e:hid cl H b=some u):H b=some u/\¬ ∃ x,cl.lookup x=some b:=by
 unfold hid at e
 split at e
 ·exact BT.gi e
 ·rename_i c;exact ⟨e,c⟩
noncomputable def lF:HO->Bool
 | .frz o (.own _)=>match o.data with | .cell _=>true | _=>false
 | _=>false
theorem MF {o:HO} (z:Ek o=true):lF o=false:=by
 cases o with
 | frz ob u=>cases u<;>first | rfl | exact BT.dQ z
 | _=>first | rfl | exact BT.dQ z
theorem fH.out (C:fH cl H) (e:H b=some u) (n:lF u=false):¬ ∃ x,cl.lookup x=some b:=fun ⟨x,q⟩=>by
 obtain ⟨o,v,h1,h2⟩:=C x b q
 rw[e] at h1;cases h1
 simp[lF,h2] at n
theorem fH.hid (C:fH cl H) (e:H b=some u) (n:lF u=false):BS.hid cl H b=some u:=by rw[fD (C.out e n)];exact e
theorem fH.sq (C:fH cl H):oX H (BS.hid cl H):=⟨fun a vs r=>r.elim (fun z=>.inl (C.hid z rfl)) fun ⟨o,z⟩=>.inr ⟨o,C.hid z rfl⟩,fun a vs r=>r.elim (fun z=>.inl (C.hid z rfl)) fun ⟨o,z⟩=>.inr ⟨o,C.hid z rfl⟩⟩
theorem fH.tb (C:fH cl H) {K:Rj} (t:TB K H):TB K (BS.hid cl H):=t.mono (fun P ps e=>C.hid e rfl) fun a o vs d e=>C.hid e (by simp[lF,d])
theorem fH.rh (C:fH cl H) {K:Rj} (R:RH K m H h):RH K m (BS.hid cl H) h:=R.tr C.sq (fun a ha=>by
 obtain ⟨o,e,z⟩:=R.mu ha
 rw[e];exact C.hid e (MF z)) (C.tb R.tb)
theorem Jc (N:∀ x c,cl.lookup x=some c->H' c=none):Le H' (ret cl H H'):=fun a u e=>by
 rw[gG (fun ⟨x,q⟩=>by rw[N x a q] at e;exact BT.gi e)];exact e
theorem fH.Jd (C:fH cl H) (N:∀ x c,cl.lookup x=some c->H' c=none) {K:Rj} (x:Ext m (BS.hid cl H) m' H') (R:RH K m' H' h'):Ext m H m' (ret cl H H'):=by
 obtain ⟨e,hm,he⟩:=x.pre
 refine ⟨⟨e,hm,fun a ha=>?_⟩,fun a o h n t=>?_,fun a h=>?_,fun a ob vs h=>?_⟩
 ·have z:=he a ha
  have hne:¬ ∃ y,cl.lookup y=some a:=fun ⟨y,q⟩=>by
   obtain ⟨o,e1,_⟩:=R.mu (a:=a) (by rw[hm];exact Sa _ ha)
   rw[N y a q] at e1;exact BT.gi e1
  rw[fD hne] at z;exact z
 ·by_cases c:∃ y,cl.lookup y=some a
  ·obtain ⟨y,q⟩:=c;rw[oY q];exact h
  ·rw[gG c];exact x.keep a o (by rw[fD c];exact h) n t
 ·by_cases c:∃ y,cl.lookup y=some a
  ·obtain ⟨y,q⟩:=c;rw[oY q] at h;exact h
  ·rw[gG c] at h;have z:=x.live a h;rw[fD c] at z;exact z
 ·by_cases c:∃ y,cl.lookup y=some a
  ·obtain ⟨y,q⟩:=c;rw[oY q];exact h
  ·rw[gG c];exact x.frz a ob vs (by rw[fD c];exact h)
end
theorem jC.get (r:jC m H cl fs vs):∀ {i:Nat}{x:Str},fs[i]?=some x->∃ c o u v,cl.lookup x=some c/\Tr m H c o/\o.data=.cell (some u)/\vs[i]?=some v/\RelV v u:=by
 induction r with
 | nil=>intro i x e;simp at e
 | cons h1 h2 h3 r t ih =>
  intro i x e
  cases i with
  | zero=>simp at e;subst e;exact ⟨_,_,_,_,h1,h2,h3,rfl,r⟩
  | succ i=>simpa using ih (by simpa using e)
theorem jC.len (r:jC m H cl fs vs):vs.length=fs.length:=by
 induction r with
 | nil=>rfl
 | cons h1 h2 h3 r t ih=>simp[ih]
theorem jC.cells (r:jC m H cl fs vs) (hf:∀ x c,cl.lookup x=some c->x∈fs):fH cl H:=fun x c e=>by
 obtain ⟨i,hi⟩:=SZ (hf x c e)
 obtain ⟨c',o,u,v,h1,h2,h3,_⟩:=r.get hi
 rw[e] at h1;cases h1
 exact ⟨o,_,h2.1,h3⟩
theorem EK (hp:LPa pa ps) (hl:us.length=ps.length):Wn (PySem.W.kla_fn name q pa be sc cl pm cdv ctv) ⟨us,[]⟩=pure (ps.zip us):=by
 cases hp with
 | one=>match us,hl with | [_],_=>rfl
 | two=>match us,hl with | [_,_],_=>rfl
theorem Je (hp:LPa pa ps) (nd:ps.Nodup) (hl:us.length=ps.length) {i:Nat} (e:ps[i]?=some x):∃ u,us[i]?=some u/\(ps.zip us).reverse.lookup x=some u:=by
 cases hp with
 | one =>
  match us,hl,i,e with
  | [u],_,0,e=>simp at e;subst e;exact ⟨u,rfl,by simp⟩
  | [u],_,i+1,e=>simp at e
 | two =>
  match us,hl,i,e with
  | [u,v],_,0,e =>
   simp at e;subst e
   simp at nd
   exact ⟨u,rfl,by simp[SQ,beq_false_of_ne nd]⟩
  | [u,v],_,1,e=>simp at e;subst e;exact ⟨v,rfl,by simp⟩
  | [u,v],_,i+2,e=>simp at e
structure LF (ps fs:List Str) (sc:Sx):Prop where
 kd:sc.kind=.function
 co:sc.isCoroutine=false
 ge:sc.isGenerator=false
 cell:∀ y∈sc.names,y.2≠.cell
 loc:∀ x∈ps,sc.names.lookup x=some .local
 fre:∀ x∈fs,sc.names.lookup x=some .free/\(x,Ss)∈sc.names
 all:∀ y∈sc.names,y.2=.free->y.1∈fs
 nd:(ps++fs).Nodup
theorem oZ:∀ {l:List Str},kK l=true->l.Nodup
 | [],_=>Vb
 | x :: r,h=>by
  simp only[kK,Rn,Ue] at h
  refine List.nodup_cons.mpr ⟨fun z=>?_,oZ h.2⟩
  have:=h.1
  simp[z] at this
theorem MG (h:oQ ps fs sc=true):LF ps fs sc:=by
 simp only[oQ,Rn,Ue] at h
 obtain ⟨⟨⟨⟨⟨⟨⟨h1,h2⟩,h3⟩,h4⟩,h5⟩,h6⟩,h7⟩,h8⟩:=h
 rw[SA] at h4 h5 h6 h7
 refine ⟨eq_of_beq h1,h2,h3,fun y hy e=>?_,fun x hx=>eq_of_beq (h5 x hx),fun x hx=>?_,fun y hy e=>?_,oZ h8⟩
 ·have:=h4 y hy;rw[e] at this;exact BT.dQ this
 ·have:=h6 x hx
  simp only[Rn] at this
  exact ⟨eq_of_beq this.1,by simpa using this.2⟩
 ·have:=h7 y hy
  rw[e] at this
  simpa using this
noncomputable def Bw (P:RG) (w:Sb) (K:Rj) (mg:Str->Option Rl) (base:Heap) (N:List Str) (q:Str) (sc:Sx) (cl:List (Str×Rz)) (f c':Rz) (A:Sw) (outer:List Env) (s:Rm) (H:Hp):Cx where
 prog:=P
 w:=w
 K:=K
 mg:=mg
 base:=base
 A:=A.deeper (Ut q sc s.heap.objs.size f (.ref c') cl)
 N:=N
 s₀:=s
 H₀:=hid cl H
 env:=Ut q sc s.heap.objs.size f (.ref c') cl
 outer:=outer
 stack:=Ut q sc s.heap.objs.size f (.ref c') cl :: outer
 ex:=[]
 calm:=true
 fn:=fun _=>false
 pn:=[]
 xe:=fun _ _=>False
theorem xJ (C:fH cl H) (ok:HOk P w H h) (k:∀ b o,h.get? b=some o->h1.get? b=some o):HOk P w (hid cl H) h1:=fun b u e=>by
 obtain ⟨e1,_⟩:=Jb e
 exact (ok b u e1).stay (fun c o _ q=>k c o q) (fun c q=>C.hid q rfl) fun c xs q=>C.hid q rfl
theorem EL {K:Rj}
 (hp:LPa pa ps) (F:LF ps fs sc) (inj:∀ x y c,cl.lookup x=some c->cl.lookup y=some c->x=y) (hfs:∀ x c,cl.lookup x=some c->x∈fs) (cp:jC m H cl fs cvs) (hd:A.handled=none) (e0:nW P w K mg base A outer s H) (r:c9 vs us) (hl:us.length=ps.length)
 (hns:h1.Ns s.heap.objs.size (fun y=>(ps.zip us).reverse.lookup y)) (hk1:∀ b o,s.heap.get? b=some o->h1.get? b=some o) :
 Inv (Bw P w K mg base (ps++fs) q sc cl f c' A outer s H) [] (vs.map some++cvs.map some) (hid cl H) { s with heap:=h1,toks:=tk }:=by
 have C:=cp.cells hfs
 have lv:vs.length=ps.length:=r.length.trans hl
 have lc:=cp.len
 have noA:∀ b:Rz,b∉(Bw P w K mg base (ps++fs) q sc cl f c' A outer s H).ex:=fun b z=>absurd (show b∈([]:List Rz) from z) (by simp)
 have cel:∀ x c,cl.lookup x=some c->∃ u,s.heap.IsCell c (some u):=fun x c e=>by
  obtain ⟨i,hi⟩:=SZ (hfs x c e)
  obtain ⟨c2,o,u,v,g1,g2,g3,_⟩:=cp.get hi
  rw[e] at g1;cases g1
  exact ⟨u,o,(e0.hok _ _ g2.1).1,g3⟩
 refine ⟨⟨e0.mod,F.kd,rfl,rfl,Rr _,inj,fun x hx=>?_,fun x c z=>absurd (show false=true from z) (by decide),fun _=>hd,WJ e0.frames,.inr ⟨rfl,rfl⟩,fun b z=>absurd z (noA b),fun b o e=>⟨(e0.bs b o e).1,iw (e0.bs b o e).2⟩,e0.bsz,fun b _ _=>noA b,fun b z=>absurd z (noA b),e0.kE,fun b hb=>iw (e0.frf b hb)⟩,
  rfl,e0.bare,Un.kept hk1,⟨_,hns,fun i x v g1 g2 g3=>?_⟩,fun x c e=>?_,iw (e0.hok.fresh (Rr _)),fun x c e=>vR e,fun p hp=>absurd (show p∈([]:List (Rz×Obj)) from hp) (by simp),xJ C e0.hok hk1,?_⟩
 ·have hx:sc.names.lookup x=some .cell\/sc.names.lookup x=some .free:=hx
  rcases hx with hx | hx
  ·exact absurd rfl (F.cell _ (SI hx))
  ·obtain ⟨i,hi⟩:=SZ (F.all _ (SI hx) rfl)
   obtain ⟨c,_,_,_,g1,_⟩:=cp.get hi
   exact ⟨c,g1⟩
 ·have g1:(ps++fs)[i]?=some x:=g1
  by_cases c:i < ps.length
  ·rw[Rx c] at g1
   rw[Rx (by simpa [lv] using c),RY] at g2
   obtain ⟨u,g4,g5⟩:=Je hp (F.nd.sublist (List.sublist_append_left _ _)) hl g1
   obtain ⟨v',g6,g7⟩:=Option.map_eq_some_iff.mp g2
   cases g7
   obtain ⟨u',g8,rv⟩:=r.get g6
   rw[g4] at g8;cases g8
   exact ⟨u,rv,.inl ⟨F.loc x (RJ g1),g5⟩⟩
  ·rw[RZ (by lia)] at g1
   rw[RZ (by simp[lv];lia),RY] at g2
   simp only[RP,lv] at g2
   obtain ⟨c2,o,u,v2,k1,k2,k3,k4,k5⟩:=cp.get g1
   rw[k4] at g2
   cases g2
   exact ⟨u,k5,.inr ⟨.inr (F.fre x (RJ g1)).1,c2,k1,o,hk1 _ _ (e0.hok _ _ k2.1).1,k3⟩⟩
 ·obtain ⟨u,o,z1,z2⟩:=cel x c e
  exact ⟨some u,o,hk1 _ _ z1,z2⟩
 ·show _=(ps++fs).length
  simp[lv,lc]
section
theorem zw (e:BT.rG F o ws h=some r):∃ k cs,o=some (some (.c k cs))/\BT.noC ws=true/\F k (ws++cs.map BT.Cp.w) h=some r:=by
 unfold BT.rG at e
 split at e
 ·rename_i k cs
  split at e
  ·rename_i c;exact ⟨k,cs,rfl,c,e⟩
  ·exact cU e
 ·exact cU e
theorem jz.fnAt (l:jz m H f L vs) (ok:HOk P w H h):PySem.W.FnAt f h:=by
 obtain ⟨bt,ps,fs,pa,be,sc,cl,pm,ctv,c',oc,os,t,ql,h0,h1,h2,h3,h4,h5,h6,_⟩:=l
 exact ⟨_,_,_,_,(ok _ _ h6.1).1⟩
theorem Post.ext {K:Rj} (p:Post P w K m H z h' Q) (x:Ext m H m' H'):Post P w K m' H' z h' Q:=fun v H2 m2 y R r=>p v H2 m2 (x.trans y) R r
theorem Bx (O:Ok X F G sc N) (h1:N[i]?=some x) (h2:mW sc x=true) (h3:fy x=true) (hc:CEs sc N as (e :: es)) (ha:PA X (e :: es) (tDs X F G as)) :
 PE X (.Call (.Name x np) (e :: es) [] pos) (tD X F G (.callv i as)):=by
 have hst:=gQ hc
 simp only[c5,Rn] at hst
 intro pins s σ H Q I q
 obtain ⟨m,s',h,z,h',R,S,ee,post⟩:=q
 simp only[BT.ev] at ee
 obtain ⟨ws,g,e1,e2⟩:=cY ee
 obtain ⟨k,cs,k1,k2,k3⟩:=zw e2
 obtain ⟨v,hv,rv⟩:=S.get i _ k1
 obtain ⟨d1,d2,_⟩:=gx h3
 refine SY ?_
 refine thn (z6 (i:=i) (by rw[O.hN];exact h1) (Bj O h2) d1 d2 pins s σ H (fun v2 H2=>v2=v/\H2=H) I ⟨v,hv,rfl,rfl⟩) fun u s1 zq=>?_
 obtain ⟨v2,H2,I2,r2,ev,eh⟩:=zq
 subst ev eh
 have hA:tDs X F G as σ H2 (fun vs2 H3=>∃ m3,Ext m H2 m3 H3/\RH X.K m3 H3 g/\RWs X.prog X.w X.K m3 H3 vs2 ws):=⟨m,s',h,ws,g,R,S,e1,fun vs2 H3 m3 x3 R3 r3=>⟨m3,x3,R3,r3⟩⟩
 cases rv with
 | @c f L cvs _ hL rc =>
  obtain rfl:u=.ref f:=r2
  refine PySem.W.callWith_F (hL.fnAt I2.hok) (thn (ha pos pins s1 σ H2 _ I2 hA) fun us s2 ⟨vs2,H3,I3,r3,m3,x3,R3,w3⟩=>⟨(hL.ext x3).fnAt I3.hok,?_⟩) (cX hst.1) (dD hst.2)
  obtain ⟨k,hr,lo⟩:=O.lam _ _ _ _ k3
  refine WY (codeAny_mono (lo X.A X.stack s2 H3 f us vs2 cvs m3 ws cs g z h' Q E0 hr I3.HE r3 R3 w3 k2 (hL.ext x3) (rc.ext x3) k3 (post.ext x3)) fun r s' hq=>?_)
  cases r with
  | error e=>exact Sk hq
  | ok fl =>
   cases fl with
   | ret u=>exact I3.after hq
   | next=>exact Sk hq
   | brk=>exact Sk hq
   | cont=>exact Sk hq
 | @g f x' hn hk =>
  obtain rfl:u=.ref f:=r2
  have k3':F (.f x') ws g=some (z,h'):=by simpa using k3
  obtain ⟨fa,fd,ps,k,hm,_,hb,hr,ok⟩:=O.call _ _ _ _ k3'
  have hm':=Tj I2.ok.mod.kin I2.ok.mod.glob hn
  rw[hm] at hm'
  cases hm'
  refine T5 (h₀:=X.base) I2.ok.mod.kin hk (thn (ha pos pins s1 σ H2 _ I2 hA) fun us s2 ⟨vs2,H3,I3,r3,m3,x3,R3,w3⟩=>⟨I3.kIn,?_⟩) (cX hst.1) (dD hst.2)
  refine nX (E:=E0) ok hr hb .nil n8 I3 r3 ?_
  rw[Sy]
  exact ⟨m3,ws,g,z,h',R3,w3,k3',post.ext x3⟩
end
section
open PySem.W PySem.Calls PySem.Builtin PySem.Builtin.ObjectAttr PySem.Builtin.Getset_descriptor
variable {E:Rl->Rm->Prop}{K:Rj}
end
section
end
section
variable {X:Cx}
theorem zx (hu:X.A.units+150 < Wy):MtR X "list.index" (rMe X.prog X.w X.K .lindex):=by
 intro pins s σ H v vs v' us Q I rv rus h
 obtain ⟨m,h,x,ws,z,h',R,rx,rws,e,post⟩:=h
 cases x with
 | r n=>cases ws with
  | nil=>(first | exact cU e | simp[BT.meW] at e)
  | cons _ _=>(first | exact cU e | simp[BT.meW] at e)
 | k kvs=>(first | exact cU e | simp[BT.meW] at e)
 | c _ _=>(first | exact cU e | simp[BT.meW] at e)
 | x _=>(first | exact cU e | simp[BT.meW] at e)
 | o kvs=>(first | exact cU e | simp[BT.meW] at e)
 | p d =>
  rw[BT.vG] at e
  cases g:BT.dG ws with
  | none=>rw[g] at e;exact cU e
  | some ds =>
   rw[g] at e
   obtain ⟨b,e1,e2⟩:=dh e
   cases e2
   have rds:=rws.pure g
   cases d<;>first | exact cU e1 | skip
   rename_i xs
   cases ds with
   | nil=>exact cU e1
   | cons d0 dr =>
    cases dr with
    | cons _ _=>exact cU e1
    | nil =>
     rw[BT.HS] at e1
     split at e1
     ·rename_i c
      obtain ⟨j,e3,e4⟩:=dh e1
      subst e4
      obtain ⟨i,rfl,hi,h1,h2⟩:=kM e3
      cases rds with
      | cons r0 rn =>
       cases rn
       obtain ⟨u,rfl,ru⟩:=rus.one
       cases rx with
       | p rx =>
        obtain ⟨a,vt,rfl,ha,ra⟩:=RR.lst (.d rx)
        cases rv
        obtain ⟨zz,its,n,q1,_,ho⟩:=rdL I ha
        have sl:sizeLine=16777216:=U1
        have hl:=q1.length
        have hl2:=ra.length
        have hi':i < its.toArray.size:=by rw[Rp];lia
        refine TV F.slot_list_index ⟨_,ho,rfl⟩ F.entry_list_index (F.args_list_index_2 _ _)
         (SeqAt.list_indexAt a its.toArray n none #[] u (fm s.heap (pd d0)) i hi' (by lia) ?_ ?_) ⟨ho,?_,?_⟩
        ·rw[show its.toArray[i]=its[i]'(by lia) by simp,j8 I ra q1 i (by lia) hi];exact h1
        ·intro k hk hlt
         have hk':k < its.length:=by simpa using hk
         rw[show its.toArray[k]=its[k]'hk' by simp,j8 I ra q1 k hk' (by lia)];exact h2 k (by lia) hlt
        ·intro y hy
         exact iL hu I (.d r0) ru ra q1 c y (by simpa using hy)
        ·refine ⟨.int (((0+i:Nat):Nat):Int),H,I.tok _,⟨s.toks,?_⟩,post.here R (.int _)⟩
         simp
     ·exact cU e1
theorem By (hu:X.A.units+150 < Wy):MtR X "list.count" (rMe X.prog X.w X.K .count):=by
 intro pins s σ H v vs v' us Q I rv rus h
 obtain ⟨m,h,x,ws,z,h',R,rx,rws,e,post⟩:=h
 cases x with
 | r n=>cases ws with
  | nil=>(first | exact cU e | simp[BT.meW] at e)
  | cons _ _=>(first | exact cU e | simp[BT.meW] at e)
 | k kvs=>(first | exact cU e | simp[BT.meW] at e)
 | c _ _=>(first | exact cU e | simp[BT.meW] at e)
 | x _=>(first | exact cU e | simp[BT.meW] at e)
 | o kvs=>(first | exact cU e | simp[BT.meW] at e)
 | p d =>
  rw[BT.yV] at e
  cases g:BT.dG ws with
  | none=>rw[g] at e;exact cU e
  | some ds =>
   rw[g] at e
   obtain ⟨b,e1,e2⟩:=dh e
   cases e2
   have rds:=rws.pure g
   cases d<;>first | exact cU e1 | skip
   rename_i xs
   cases ds with
   | nil=>exact cU e1
   | cons d0 dr =>
    cases dr with
    | cons _ _=>exact cU e1
    | nil =>
     rw[BT.HR] at e1
     obtain ⟨c,e1⟩:=dj e1
     cases e1
     cases rds with
     | cons r0 rn =>
      cases rn
      obtain ⟨u,rfl,ru⟩:=rus.one
      cases rx with
      | p rx =>
       obtain ⟨a,vt,rfl,ha,ra⟩:=RR.lst (.d rx)
       cases rv
       obtain ⟨zz,its,n,q1,_,ho⟩:=rdL I ha
       have hl:=q1.length
       have hl2:=ra.length
       have ec:its.countP (fm s.heap (pd d0))=xs.countP fun y=>BT.eqv y d0:=by
        have key:its.map (fm s.heap (pd d0))=xs.map fun y=>BT.eqv y d0:=by
         refine List.ext_getElem (by rw[RP,RP];lia) fun i h1 h2=>?_
         rw[RP] at h1 h2
         rw[List.getElem_map,List.getElem_map]
         exact j8 I ra q1 i h1 h2
        have cm:∀ {α:Type} (f:α->Bool) (l:List α),l.countP f=(l.map f).countP id:=fun f l=>by rw[List.countP_map];rfl
        rw[cm,cm (fun y=>BT.eqv y d0),key]
       refine TV F.slot_list_count ⟨_,ho,rfl⟩ F.entry_list_count (F.args_list_count_2 _ _) (SeqAt.list_countAt a its.toArray n none #[] u (fm s.heap (pd d0))) ⟨ho,?_,?_⟩
       ·intro y hy
        exact iL hu I (.d r0) ru ra q1 c y (by simpa using hy)
       ·refine ⟨.int ((xs.countP fun y=>BT.eqv y d0:Nat):Int),H,I.tok _,⟨s.toks,?_⟩,post.here R (.int _)⟩
        rw[← ec]
end
structure qe (K:Rj) (J:It) (m0:List Rz) (H0:Hp) (ds:List BT.D) (C:BT.HH->Prop):Prop where
 go:∀ m H h (i:Nat),Ext m0 H0 m H->RH K m H h->C h->i < ds.length->J.go i H
 yld:∀ m H h (i:Nat) x H' d,Ext m0 H0 m H->RH K m H h->C h->ds[i]?=some d->J.yld i H x H'->Ext m H m H'/\Le H H'/\RD K m H' x d
 stop:∀ m H h,Ext m0 H0 m H->RH K m H h->C h->J.stop ds.length H
noncomputable def xK (sr:BT.Sr) (ws:List BT.W):Prop:=BT.gY ws=true\/(sr=.seq/\∃ q,ws=[.r q])
noncomputable def rY (ws:List BT.W) (ds:List BT.D) (h:BT.HH):Prop:=∀ q,ws=[.r q]->BT.lat h q=some ds
theorem xK.p (h:xK sr ws) (n:sr≠.seq):BT.gY ws=true:=h.resolve_right fun z=>n z.1
theorem o4 (a:BT.gY ws=true):rY ws ds h:=fun q e=>by subst e;exact BT.dQ a
noncomputable def Itv (K:Rj) (a:Rz) (n:Nat):It :=
 ⟨fun i H=>i < n/\∃ xs,SqL K H a xs/\xs.length=n,fun i H x H'=>H'=H/\∀ xs,SqL K H a xs->xs[n - 1 - i]?=some x,fun i H=>i=n⟩
theorem BA {K:Rj} (a it:Rz) (n:Nat):Turn P w K tg (Itv K a n) [it] it (fun i h=>h.IsRevIter it a ((n:Int) - 1 - i)) where
 mem:=by simp
 obj:=fun i h st b hb=>by
  have e:b=it:=by simpa using hb
  subst e
  obtain ⟨o,e,c,d⟩:=st
  exact ⟨o,e,fun v z=>by rw[d] at z;cases z⟩
 keep:=fun i h h' st k=>st.at fun o e=>k it (by simp) o e
 item:=by
  intro X hP hw hK hc i pins s σ H E I hf st hg
  subst hP hw hK
  obtain ⟨hi,xs,hq,hx⟩:=hg
  obtain ⟨its,rv,p,hz⟩:=I.list hq
  have hl:=rv.length
  have hj:n - 1 - i < xs.length:=by lia
  obtain ⟨u,hu,ru⟩:=rv.get (Rv hj)
  obtain ⟨f0,f1,f2,f3,f4,f5⟩:=hf it (by simp)
  have ei:((n:Int) - 1 - (i:Int))=(((n - 1 - i:Nat)):Int):=by lia
  have st':s.heap.IsRevIter it a (((n - 1 - i:Nat)):Int):=by rw[← ei];exact st
  refine wpAny_pyNext_rev_item st' p.isList (x:=u) (by simpa using hu) fun h' st'' sb=>?_
  have I1:Inv X pins σ H { s with heap:=h' }:=I.turned (t':=s.toks) (fun b o hb e=>(sb.2 b hb).trans e) f0 f1 f3 f4 f5
  obtain ⟨o,e,c,d⟩:=id st''
  refine ⟨u,rfl,qv (s:={ s with heap:=h' }) e c d (by decide) ⟨_,H,I1,ru,⟨rfl,fun ys hy=>by rw[I.tM hy hq];exact Rv hj⟩,?_,fun b hb=>(hf b hb).1⟩⟩
  have e2:(((n - 1 - i:Nat)):Int) - 1=(n:Int) - 1 - ((i+1:Nat):Int):=by lia
  rw[e2] at st''
  exact st''
 done:=by
  intro X hP hw hK hc i pins s σ H E I hf st hg
  subst hP hw hK
  have hg:i=n:=hg
  subst hg
  obtain ⟨f0,f1,f2,f3,f4,f5⟩:=hf it (by simp)
  have e1:(i:Int) - 1 - (i:Int)=-1:=by lia
  have st':s.heap.IsRevIter it a (-1):=by rw[← e1];exact st
  exact wpAny_pyNext_rev_end (I.ok.hd hc) st' fun h' eb=>⟨rfl,I.turned (t':=s.toks) (fun b o hb e=>eb b o hb e) f0 f1 f3 f4 f5⟩
 self:=fun _ _ _ _ _ st h=>wpAny_pyIter_revIter st h
theorem Inv.EM {X:Cx}{pins:List (Rz×Obj)}{σ:L2.St}{H H':Hp}{s:Rm}{h':Heap}{fp:List Rz}{tk:Nat} (I:Inv X pins σ H s) (hf:∀ b∈fp,pU X pins H b)
 (k:∀ b o,b∉fp->s.heap.get? b=some o->h'.get? b=some o) (hs:∀ b,b < s.heap.objs.size->H' b=H b) (hok:HOk X.prog X.w H' h'):Inv X pins σ H' { s with heap:=h',toks:=tk }:=by
 have hlt:∀ b u,H b=some u->H' b=some u:=fun b u e=>by rw[hs b (I.hok.lt e)];exact e
 refine I.step (g':=s.gens) (d':=s.drawn) (ch:=fp) (fun b hb=>?_) (fun b o _ _ hc e _=>k b o hc e) (fun b o _ _ hc e _=>⟨o.slots,k b o hc e⟩) (fun b o _ e n=>by rw[hs b (Rt e)];exact n)
  (fun b o hc e=>⟨o,k b o hc e⟩) (fun b xs e=>hlt b _ e) (fun b o u e=>hlt b _ e) (fun b ps e=>⟨#[],by rw[hlt b _ e];simp⟩) (fun m hm=>?_) hok I.bare
 ·obtain ⟨_,f1,_,f3,f4,f5⟩:=hf b hb
  exact ⟨f3,f1,f4,f5⟩
 ·obtain ⟨o,es,ep,ho,r⟩:=hm
  exact ⟨o,es,ep,k _ o (fun z=>(hf _ z).2.1 rfl) ho,r⟩
inductive iD (X:Cx) (F:FT) (G:Str->Option BT.W) (sr:BT.Sr) (sa:BT.Es) (σ:L2.St) (H:Hp) (R:It->Hp->Prop):Prop where
 | mk (m:List Rz) (s:BT.Sl) (h:BT.HH) (ws:List BT.W) (h':BT.HH) (ds:List BT.D) (RR:RH X.K m H h) (S:RS X.prog X.w X.K m H σ s) (e:BT.evs F G sa s h=some (ws,h')) (e2:(BT.rds ws h').bind (BT.gC sr)=some ds) (ha:xK sr ws)
  (p:∀ H' m' J,Ext m H m' H'->RH X.K m' H' h'->qe X.K J m' H' ds (rY ws ds)->R J H'):iD X F G sr sa σ H R
theorem PI.weak (h:PI X tg e t) (q:∀ σ H R,t' σ H R->t σ H R):PI X tg e t':=fun pins s σ H R I hw=>h pins s σ H R I (q _ _ _ hw)
section
theorem EN {K:Rj} (h:(Rd H0 a (.lst vs)/\a∉m0)\/KL K a vs) (r:RDs K m0 H0 vs ds):qe K (Itl K a) m0 H0 ds C:=by
 have k:∀ {m H},Ext m0 H0 m H->SqL K H a vs:=fun x=>LL.sq (h.elim (fun q=>.inl (Rd.ext x q.1 q.2).1) .inr)
 refine ⟨fun m H hh i x _ _ hi=>?_,fun m H hh i v H' d x RR _ hd y=>?_,fun m H _ x _ _=>⟨vs,k x,by rw[r.length];exact Rr _⟩⟩
 ·exact ⟨vs,_,k x,Rv (by rw[r.length];exact hi)⟩
 ·obtain ⟨rfl,y⟩:=y
  obtain ⟨u,h1,h2⟩:=(r.ext x).get hd
  have:=y vs (k x)
  rw[h1] at this
  cases this
  exact ⟨.refl _ _,fun _ _ e=>e,h2⟩
theorem Jf {K:Rj} (h:(Rd H0 a (.tup vs)/\a∉m0)\/KT K a vs) (r:RDs K m0 H0 vs ds):qe K (Itt K a) m0 H0 ds C:=by
 have k:∀ {m H},Ext m0 H0 m H->SqT K H a vs:=fun x=>h.elim (fun q=>.inl (Rd.ext x q.1 q.2).1) fun ⟨o,its,n,q,_⟩=>.inr ⟨o,its,n,q⟩
 refine ⟨fun m H hh i x _ _ hi=>?_,fun m H hh i v H' d x RR _ hd y=>?_,fun m H _ x _ _=>⟨vs,k x,by rw[r.length];exact Rr _⟩⟩
 ·exact ⟨vs,_,k x,Rv (by rw[r.length];exact hi)⟩
 ·obtain ⟨rfl,y⟩:=y
  obtain ⟨u,h1,h2⟩:=(r.ext x).get hd
  have:=y vs (k x)
  rw[h1] at this
  cases this
  exact ⟨.refl _ _,fun _ _ e=>e,h2⟩
theorem Jg {K:Rj} (h:(Rd H0 a (.lst vs)/\a∉m0)\/KL K a vs) (r:RDs K m0 H0 vs ds):qe K (Itv K a ds.length) m0 H0 ds.reverse C:=by
 have k:∀ {m H},Ext m0 H0 m H->SqL K H a vs:=fun x=>LL.sq (h.elim (fun q=>.inl (Rd.ext x q.1 q.2).1) .inr)
 refine ⟨fun m H hh i x _ _ hi=>?_,fun m H hh i v H' d x RR _ hd y=>?_,fun m H _ x _ _=>by show ds.reverse.length=ds.length;simp⟩
 ·exact ⟨by simpa using hi,vs,k x,r.length⟩
 ·obtain ⟨rfl,y⟩:=y
  have hi:i < ds.length:=by
   have:=getD_some hd
   simpa using this
  have hd':ds[ds.length - 1 - i]?=some d:=by
   rw[List.getElem?_reverse hi] at hd
   exact hd
  obtain ⟨u,h1,h2⟩:=(r.ext x).get hd'
  have:=y vs (k x)
  rw[h1] at this
  cases this
  exact ⟨.refl _ _,fun _ _ e=>e,h2⟩
theorem BB {K:Rj} (lo:Int) (n:Nat):qe K (Itr lo n) m0 H0 (BT.upto lo n) C:=by
 have hl:(BT.upto lo n).length=n:=by simp[BT.upto]
 refine ⟨fun m H hh i x _ _ hi=>by rw[hl] at hi;exact hi,fun m H hh i v H' d x RR _ hd y=>?_,fun m H _ x _ _=>by rw[hl];exact Rr n⟩
 obtain ⟨rfl,rfl⟩:=y
 have:d=.int (lo+i):=by
  have hi:i < n:=by
   have:=getD_some hd
   rw[hl] at this
   exact this
  simp only[BT.upto,RY] at hd
  rw[T3 hi] at hd
  simpa using hd.symm
 subst this
 exact ⟨.refl _ _,fun _ _ e=>e,.int _⟩
theorem rZ:∀ {ws:List BT.W},BT.gY ws=true->∃ ds:List BT.D,ws=ds.map BT.W.p:=by
 intro ws
 induction ws with
 | nil=>exact fun _=>⟨[],rfl⟩
 | cons w ws ih =>
  intro h
  cases w with
  | p d =>
   obtain ⟨ds,rfl⟩:=ih h
   exact ⟨d :: ds,rfl⟩
  | _=>exact BT.dQ h
theorem vS (h:BT.HH) (ds:List BT.D):BT.rds (ds.map BT.W.p) h=some ds:=by
 induction ds with
 | nil=>rfl
 | cons d ds ih =>
  show (BT.rds (ds.map BT.W.p) h).map (d :: ·)=_
  rw[ih];rfl
theorem BD (hs:sr=.seq\/sr=.rev\/sr=.rng1) (e:(BT.rds ws h).bind (BT.gC sr)=some ds) (ha:BT.gY ws=true):∃ d,ws=[.p d]/\BT.gC sr [d]=some ds:=by
 obtain ⟨xs,rfl⟩:=rZ ha
 rw[vS,S7] at e
 cases xs with
 | nil=>rcases hs with rfl | rfl | rfl<;>exact cU e
 | cons d xs =>
  cases xs with
  | nil=>exact ⟨d,rfl,e⟩
  | cons d2 xs=>rcases hs with rfl | rfl | rfl<;>cases d<;>exact cU e
theorem lG (e:BT.evs F G (.cons a .nil) s h=some (ws,h')):∃ w,ws=[w]/\BT.ev F G a s h=some (w,h'):=by
 simp only[BT.evs] at e
 obtain ⟨w,g,e1,e2⟩:=cY e
 simp only[BT.ly,BT.dW,BT.jH] at e2
 cases e2
 exact ⟨w,rfl,e1⟩
theorem EO {K:Rj} (hq:m0[q]?=some a):qe K (Itl K a) m0 H0 ds (rY [.r q] ds):=by
 have k:∀ {m H h},Ext m0 H0 m H->RH K m H h->rY [.r q] ds h->∃ vs,SqL K H a vs/\RDs K m H vs ds:=fun {m H h} x RR c=>by
  obtain ⟨e,rfl,_⟩:=x.pre
  have e1:(m0++e)[q]?=some a:=by rw[Rx (List.getElem?_eq_some_iff.mp hq).1];exact hq
  obtain ⟨vs,c1,c2⟩:=RR.cell q a ds e1 (c q rfl)
  exact ⟨vs,LL.sq (.inl (.inl c1)),c2⟩
 refine ⟨fun m H hh i x RR c hi=>?_,fun m H hh i v H' d x RR c hd y=>?_,fun m H hh x RR c=>?_⟩
 ·obtain ⟨vs,k1,k2⟩:=k x RR c
  exact ⟨vs,_,k1,Rv (by rw[k2.length];exact hi)⟩
 ·obtain ⟨vs,k1,k2⟩:=k x RR c
  obtain ⟨rfl,y⟩:=y
  obtain ⟨u,h1,h2⟩:=k2.get hd
  have:=y vs k1
  rw[h1] at this
  cases this
  exact ⟨.refl _ _,fun _ _ e=>e,h2⟩
 ·obtain ⟨vs,k1,k2⟩:=k x RR c
  exact ⟨vs,k1,by rw[k2.length];exact Rr _⟩
theorem ER (he:PE X x (tD X F G a)):PI X tg x (iD X F G .seq (.cons a .nil)):=by
 intro pins s σ H R I q
 obtain ⟨m,s',h,ws,h',ds,RR,S,e,e2,ha,post⟩:=q
 rcases ha with ha | ⟨_,q,rfl⟩
 case inr =>
  obtain ⟨w,ew,e4⟩:=lG e
  cases ew
  have g:BT.lat h' q=some ds:=by
   simp only[BT.rds,BT.rd,UP] at e2
   cases g:BT.lat h' q with
   | none=>rw[g] at e2;exact cU e2
   | some xs=>rw[g] at e2;cases e2;rfl
  refine wN he pins s σ H R I ⟨m,s',h,_,h',RR,S,e4,fun v H1 m1 x1 R1 r1=>?_⟩
  cases r1 with
  | @r a n hn =>
   obtain ⟨vs,c1,c2⟩:=R1.cell q a ds hn g
   exact ⟨a,rfl,⟨vs,LL.sq (.inl (.inl c1))⟩,post H1 m1 _ x1 R1 (EO hn)⟩
 obtain ⟨d,rfl,e3⟩:=BD (.inl rfl) e2 ha
 obtain ⟨w,ew,e4⟩:=lG e
 cases ew
 rw[BT.AG] at e3
 cases d<;>simp only[BT.rE] at e3<;>try contradiction
 ·cases e3
  refine Hq he pins s σ H R I ⟨m,s',h,_,h',RR,S,e4,fun v H1 m1 x1 R1 r1=>?_⟩
  cases r1 with
  | p r1 =>
   cases r1 with
   | @tup a vs _ h r=>exact ⟨a,rfl,⟨vs,h.elim (fun q=>.inl q.1) fun ⟨o,its,n,q,_⟩=>.inr ⟨o,its,n,q⟩⟩,post H1 m1 _ x1 R1 (Jf h r)⟩
 ·cases e3
  refine wN he pins s σ H R I ⟨m,s',h,_,h',RR,S,e4,fun v H1 m1 x1 R1 r1=>?_⟩
  cases r1 with
  | p r1 =>
   cases r1 with
   | @lst a vs _ h r=>exact ⟨a,rfl,⟨vs,LL.sq (h.elim (fun q=>.inl q.1) .inr)⟩,post H1 m1 _ x1 R1 (EN h r)⟩
theorem BE (O:Ok X F G sc N) (hg:dM sc "range"=true) (hs:noStar e=true) (ha:PA X [e] (tDs X F G sa)):PI X tg (.Call (.Name "range" p) [e] [] pos) (iD X F G .rng1 sa):=by
 refine PI.weak (yz (dR O hg) (O.blt _ (by decide)) ha (cX hs)) fun σ H R q=>?_
 obtain ⟨m,s',h,ws,h',ds,RR,S,e,e2,ha,post⟩:=q
 obtain ⟨d,rfl,e3⟩:=BD (.inr (.inr rfl)) e2 (ha.p (fun z=>by cases z))
 refine ⟨m,s',h,_,h',RR,S,e,fun vs H1 m1 x1 R1 r1=>?_⟩
 obtain ⟨j,rfl⟩:∃ j:Int,d=.int j:=by
  cases d with
  | int j=>exact ⟨j,rfl⟩
  | _=>exact absurd (show (none:Option (List BT.D))=some _ from e3) (fun z=>nomatch z)
 rw[BT.j5] at e3
 obtain ⟨c,e3⟩:=dj e3
 simp only[Rn,decide_eq_true_eq] at c
 cases e3
 cases r1 with
 | cons r t =>
  cases t
  cases r with
  | p r =>
   cases r
   exact ⟨j,rfl,by lia,by lia,post H1 m1 _ x1 R1 (BB 0 j.toNat)⟩
theorem MH (e:(BT.rds ws h).bind (BT.gC .rng2)=some ds) (ha:BT.gY ws=true):∃ i j:Int,ws=[.p (.int i),.p (.int j)]/\(-100000<=i/\i<=100000/\-100000<=j/\j<=100000)/\ds=BT.upto i (j - i).toNat:=by
 obtain ⟨xs,rfl⟩:=rZ ha
 rw[vS,S7] at e
 have hx:∃ i j:Int,xs=[.int i,.int j]:=by
  match xs,e with
  | [.int i,.int j],_=>exact ⟨i,j,rfl⟩
 obtain ⟨i,j,rfl⟩:=hx
 rw[BT.i7] at e
 obtain ⟨c,e⟩:=dj e
 simp only[Rn,decide_eq_true_eq] at c
 cases e
 exact ⟨i,j,rfl,⟨c.1.1.1,c.1.1.2,c.1.2,c.2⟩,rfl⟩
theorem BH (O:Ok X F G sc N) (hg:dM sc "range"=true) (hs:noStar x=true) (hs2:noStar y=true) (ha:PA X [x,y] (tDs X F G sa)):PI X tg (.Call (.Name "range" p) [x,y] [] pos) (iD X F G .rng2 sa):=by
 refine PI.weak (yC (dR O hg) (O.blt _ (by decide)) ha (by rw[cX hs,cX hs2];rfl) (by rw[cX hs2];rfl)) fun σ H R q=>?_
 obtain ⟨m,s',h,ws,h',ds,RR,S,e,e2,ha,post⟩:=q
 obtain ⟨i,j,rfl,c,rfl⟩:=MH e2 (ha.p (fun z=>by cases z))
 refine ⟨m,s',h,_,h',RR,S,e,fun vs H1 m1 x1 R1 r1=>?_⟩
 cases r1 with
 | cons r t =>
  cases t with
  | cons r2 t2 =>
   cases t2
   cases r with
   | p r =>
    cases r
    cases r2 with
    | p r2 =>
     cases r2
     exact ⟨i,j,rfl,⟨by lia,by lia,by lia,by lia⟩,post H1 m1 _ x1 R1 (BB i (j - i).toNat)⟩
theorem ES (O:Ok X F G sc N) (hg:dM sc "reversed"=true) (hs:noStar e=true) (he:PE X e (tD X F G a)):PI X tg (.Call (.Name "reversed" p) [e] [] pos) (iD X F G .rev (.cons a .nil)):=by
 intro pins s σ H R I q
 obtain ⟨m,s',h,ws,h',ds,RR,S,e,e2,ha,post⟩:=q
 obtain ⟨d,rfl,e3⟩:=BD (.inr (.inl rfl)) e2 (ha.p (fun z=>by cases z))
 obtain ⟨w,ew,e4⟩:=lG e
 cases ew
 obtain ⟨xs,rfl⟩:∃ xs:List BT.D,d=.lst xs:=by
  cases d with
  | lst xs=>exact ⟨xs,rfl⟩
  | _=>exact absurd (show (none:Option (List BT.D))=some _ from e3) (fun z=>nomatch z)
 ·cases e3
  refine Call_ (gS (u:=.type "reversed") I (dR O hg) (O.blt _ (by decide)) (by decide +kernel) (Sf (thn (fT he kG (cX hs) pos pins s σ H (fun vs H1=>∃ a vt,vs=[.ref a]/\∃ m1,Ext m H m1 H1/\RH X.K m1 H1 h'/\((Rd H1 a (.lst vt)/\a∉m1)\/KL X.K a vt)/\RDs X.K m1 H1 vt xs) I ?_) fun us s1 ⟨vs,H1,I1,r1,q1⟩=>?_) (cX hs) rfl))
  ·refine ⟨m,s',h,_,h',RR,S,e4,fun v H1 m1 x1 R1 r1=>?_⟩
   cases r1 with
   | p r1 =>
    cases r1 with
    | @lst a vt _ hh r=>exact ⟨a,vt,rfl,m1,x1,R1,hh,r⟩
  ·obtain ⟨a,vt,rfl,m1,x1,R1,hh,r⟩:=q1
   obtain ⟨u,rfl,ru⟩:=vals1 r1
   cases ru
   obtain ⟨z,its,nn,rv,hl,ee⟩:=rdL I1 (hh.elim (fun q=>.inl q.1) .inr)
   have hL:s1.heap.IsList a its.toArray:=⟨_,ee,rfl,_,rfl⟩
   have hlen:=r.length
   refine call_reversed_list hL ?_
   have stt:({ s1 with heap:=s1.heap.push (revObj a ((its.toArray.size:Int) - 1)) }:Rm).heap.IsRevIter s1.heap.objs.size a ((xs.length:Int) - 1 - ((0:Nat):Int)):=by
    refine ⟨_,RB _ rfl,rfl,?_⟩
    show Data.fields #[.ref a,Uz ((its.toArray.size:Int) - 1)]=_
    rw[Rp,← hl,hlen]
    simp
   refine wpAny_pyIter_revIter stt ?_
   refine ⟨s1.heap.objs.size,[s1.heap.objs.size],_,_,H1,rfl,I1.kept (t':=s1.toks) fun b o e=>Rk _ e,BA a _ xs.length,stt,fun b hb=>?_,post H1 m1 _ x1 R1 (Jg hh r)⟩
   have e:b=s1.heap.objs.size:=by simpa using hb
   subst e
   exact I1.vd (Rr _) (I1.hok.fresh (Rr _))
end
section
variable {K:Rj}
theorem RKs.any (r:RKs K m H vs kvs) (k:Key):(vs.any fun kv=>decide (kv.1=k))=kvs.any fun kv=>decide (kv.1=k):=by
 induction r with
 | nil=>rfl
 | cons _ _ _ ih=>rw[Ur,Ur,ih]
theorem RKs.snoc (r:RKs K m H vs kvs) (k:Key) (hk:RD K m H (kV k) (BT.kH k)) (q:RD K m H v d):RKs K m H (vs++[(k,v)]) (kvs++[(k,d)]):=by
 induction r with
 | nil=>exact .cons hk q .nil
 | cons h r _ ih=>exact .cons h r ih
theorem RKs.repl (r:RKs K m H vs kvs) (k:Key) (q:RD K m H v d):RKs K m H (vs.map fun kv=>if kv.1=k then (kv.1,v) else kv) (kvs.map fun kv=>if kv.1=k then (kv.1,d) else kv):=by
 induction r with
 | nil=>exact .nil
 | @cons j v1 d1 vs kvs hk r t ih =>
  rw[RL,RL]
  by_cases c:j=k
  ·rw[if_pos c,if_pos c];exact .cons hk q ih
  ·rw[if_neg c,if_neg c];exact .cons hk r ih
theorem RKs.put (r:RKs K m H vs kvs) (k:Key) (hk:RD K m H (kV k) (BT.kH k)) (q:RD K m H v d):RKs K m H (putK vs k v) (BT.gU kvs k d):=by
 unfold putK BT.gU
 rw[r.any k]
 split
 ·exact r.repl k q
 ·exact r.snoc k hk q
end
section
variable {X:Cx}{F:FT}{G:Str->Option BT.W}
theorem ET:PE X (.Dict [] [] p) (tD X F G .dnew):=by
 intro pins s σ H Q I q
 obtain ⟨m,sl,h,z,h',R,S,ee,post⟩:=q
 simp only[BT.ev] at ee
 cases ee
 have hp:H s.heap.objs.size=none:=I.hok.fresh (Rr _)
 refine wpAny_Dict_empty ⟨.ref s.heap.objs.size,_,I.laid (a:=s.heap.objs.size) (o:=.dK []) (t':=s.toks) (fun _ _ q=>Rk _ q) (Rr _) (AD s.heap I.big),rfl,?_⟩
 refine post _ _ (m++[s.heap.objs.size]) (jJ hp) (R.IB hp ⟨[],dz,.nil⟩) (.r ?_)
 rw[← R.len];simp
noncomputable def rDg (P:RG) (w:Sb) (K:Rj):V->List V->Hp->VK->Prop:=fun v vs H Q =>
 ∃ m h n y x z h' v1 v2,RH K m H h/\RW P w K m H v (.r n)/\vs=[v1,v2]/\RW P w K m H v1 y/\RW P w K m H v2 x/\BT.Eb n y x h=some (z,h')/\Post P w K m H z h' Q
theorem Jh:MtR X "dict.get" (rDg X.prog X.w X.K):=by
 intro pins s σ H v vs v' us Q I rv rus q
 obtain ⟨m,h,n,y,x,z,h',v1,v2,R,rn,rfl,ry,rx,e,post⟩:=q
 cases rn with
 | @r a _ hn =>
  obtain ⟨u1,u2,rfl,r1,r2⟩:=rus.two
  cases y with
  | r _=>exact cU e
  | k _=>exact cU e
  | o _=>exact cU e
  | c _ _=>exact cU e
  | x _=>exact cU e
  | p kd =>
   cases x with
   | r _=>exact cU e
   | k _=>exact cU e
   | o _=>exact cU e
   | c _ _=>exact cU e
   | x _=>exact cU e
   | p dd =>
    rw[BT.Ih] at e
    obtain ⟨kvs,e1,e2⟩:=Option.bind_eq_some_iff.mp e
    obtain ⟨k,e3,e4⟩:=dh e2
    cases e4
    obtain ⟨ws,hH,rk⟩:=R.xr n a kvs hn e1
    cases ry with
    | p ry =>
     cases rx with
     | p rx =>
      have ek:=oS ry e3
      subst ek
      cases rv
      obtain ⟨zl,hd,vs,rel,dd'⟩:=wX I.hok hH
      refine call_meetsIn Wk dd'.typeIs PySem.F.entry_dict_get (PySem.F.args_dict_get_3 _ _ _) (meets_dict_get_default (dg X.prog X.w) a (qB r1) hd u2) ⟨_,dd'.mapOf,?_⟩
      refine ⟨(rf ws k).getD v2,H,I.tok _,(rel.val k).getD r2,?_⟩
      rcases rk.get k with ⟨g1,g2⟩ | ⟨v3,d3,g1,g2,g3⟩
      ·rw[g2];rw[g1] at post;exact post.here R rx
      ·rw[g2];rw[g1] at post;exact post.here R g3
theorem Ji (hb:dB oe=true) (hl:(apos.endLine==cpos.line)=true) (hs1:noStar ke=true) (hs2:noStar de=true) (ho:PE X oe (tD X F G o)) (hk:PE X ke (tD X F G k)) (hd:PE X de (tD X F G d)) :
 PE X (.Call (.Attribute oe "get" apos) [ke,de] [] cpos) (tD X F G (.dgt o k d)):=by
 have ha:PA X [ke,de] (tDs X F G (.cons k (.cons d .nil))):=by
  have h1:PA X [de] (tDs X F G (.cons d .nil)):=PA.weak (fT hd kG (cX hs2)) fun σ H Q q=>by
   obtain ⟨m,s,h,z0,h',R,S,ee,post⟩:=cons_of σ H Q q
   exact ⟨m,s,h,z0,h',R,S,ee,fun v H1 m1 x1 R1 r1=>jl (post v H1 m1 x1 R1 r1)⟩
  exact PA.weak (fT hk h1 (cX hs1)) cons_of
 refine PE.weak (AB V3 Wk PySem.F.type_dict_get Jh ho ha (j9 hb) ?_ hl (cX hs1) (dD (by simp[c5,hs2]))) fun σ H Q q=>?_
 ·rw[jP (es:=[ke,de]) (by simp only[c5,Rn];exact ⟨hs1,hs2,trivial⟩)];rfl
 ·obtain ⟨m,s,h,z,h',R,S,ee,post⟩:=q
  simp only[BT.ev] at ee
  obtain ⟨x,h1,e1,e2⟩:=cY ee
  cases x with
  | p _=>exact cU e2
  | k _=>exact cU e2
  | o _=>exact cU e2
  | c _ _=>exact cU e2
  | x _=>exact cU e2
  | r n =>
   rw[BT.Ij] at e2
   split at e2
   case isFalse=>exact cU e2
   rename_i c
   obtain ⟨y,h2,e3,e4⟩:=cY e2
   rw[BT.Ec] at e4
   obtain ⟨x2,h3,e5,e6⟩:=cY e4
   refine ⟨m,s,h,.r n,h1,R,S,e1,fun v H1 m1 x1 R1 r1=>⟨?_,m1,s,h1,[y,x2],h3,R1,S.ext x1,by simp only[BT.evs,e3,e5,BT.dW,BT.ly,BT.jH],fun vs H2 m2 xx2 R2 r2=>?_⟩⟩
   ·obtain ⟨kvs,g⟩:=Option.isSome_iff_exists.mp c
    cases r1 with
    | @r a _ hn =>
     obtain ⟨ws,hH,_⟩:=R1.xr n a kvs hn g
     exact .inr (.inr (.inl ⟨rfl,.inl ⟨_,hH⟩⟩))
   ·cases r2 with
    | cons q1 t =>
     cases t with
     | cons q2 t =>
      cases t
      exact ⟨m2,h3,n,y,x2,z,h',_,_,R2,r1.ext xx2,rfl,q1,q2,e6,fun v5 H5 m5 x5 R5 r5=>post v5 H5 m5 ((x1.trans xx2).trans x5) R5 r5⟩
noncomputable def GP:V->V->V->Hp->(Hp->Prop)->Prop:=fun o i v H Q=>∃ p kvs k,o=.ref p/\i=kV k/\H p=some (.dK kvs)/\kvs.length < sizeLine/\Q (upd H p (.dK (putK kvs k v)))
theorem set_dict:Hi X GP:=by
 intro pins s σ H o i v ov iv u Q I ro ri rv q
 obtain ⟨a,kvs,k,rfl,rfl,e,l,q⟩:=q
 cases ro
 obtain ⟨z,hd,vs,rel,dd⟩:=wX I.hok e
 have hz:vs.length<=sizeLine:=by rw[← rel.length];exact z
 have hl:(putK kvs k v).length<=sizeLine:=by have:=mT kvs k v;lia
 refine wpAny_setItem_pairs (hsz:=hz) (qB ri) dd fun h' dd' hs=>⟨_,?_,q⟩
 have he:∃ q,h'.get? a=some q:=let ⟨q,_,_,hq,_⟩:=dd';⟨q,hq⟩
 exact DY I (by rw[e];exact TM) hs he (AC hl hd (rel.put k rv) dd')
end
section
variable {E:Rl->Rm->Prop}
theorem uA (hc:wpAny (RX prog w) A.in1 (collect v) (fun vs s1=>vs.length<=sizeLine/\wpAny (RX prog w) A.in1.in1 (Builtin.«list.sort» { pos:=[.ref s1.heap.objs.size] }) (fun fin s2=>∃ u,fin=.done (.ret u)/\Q (.ref s1.heap.objs.size) s2) E
 { s1 with heap:=s1.heap.push (seqObj "list" vs.toArray 0) }) E s):wpAny (RX prog w) A (call (.builtin "sorted") [v]) Q E s:=by
 refine Calls.call_function_entry kind_sorted plain_sorted entry_sorted (args_sorted1 v) ?_
 show wpAny _ _ (Builtin.sorted { pos:=[v] }) _ _ s
 unfold Builtin.sorted
 refine Ro (wpAny_pure ?_)
 refine Ro (SX hc (fun vs s1 h1=>?_) fun _ _ x=>x)
 obtain ⟨hz,h1⟩:=h1
 simp only[newList]
 refine Ro (Tc ?_ (by first | size_fits | (rw[Rp];exact hz) | exact hz))
 refine Ro (Tf (Wh slot_list_sort ⟨_,RB _ rfl,rfl⟩ entry_list_sort ?_ (args_list_sort _)))
 refine SX h1 (fun fin s2 q=>?_) fun _ _ x=>x
 obtain ⟨u,rfl,q⟩:=q
 exact ⟨u,rfl,wpAny_pure ⟨_,rfl,q⟩⟩
end
section
variable {X:Cx}{F:FT}{G:Str->Option BT.W}
theorem BI {pins:List (Rz×Obj)}{s:Rm}{σ:L2.St}{H:Hp}{o:BT.E}{oe:Rq}{apos pos:Pos}{RQ:Rz->List (Key×V)->Hp->Prop}{Q':Rl->Rm->Prop} (hb:dB oe=true) (hl:(apos.endLine==pos.line)=true) (hO:PE X oe (tD X F G o)) (I:Inv X pins σ H s)
 (q:tD X F G o σ H fun x H1=>∃ a vs,x=.ref a/\H1 a=some (.dK vs)/\RQ a vs H1) (k:∀ a vs H1 s2 r,Inv X pins σ H1 s2->H1 a=some (.dK vs)->RQ a vs H1->s2.heap.IsItemsView r a->s2.heap.objs.size=r+1->Q' (.ref r) s2) :
 wpAny (RX X.prog X.w) X.A (eval (.Call (.Attribute oe "items" apos) [] [] pos) X.env) Q' X.xe s:=by
 refine W8 (j9 hb) hl (thn (hO pins s σ H _ I q) fun v s1 zq=>?_)
 obtain ⟨x,H1,I1,r1,a,vs,ex,e,q1⟩:=zq
 subst ex
 cases r1
 obtain ⟨h1,h2⟩:=vz I1 (x:=.ref a) rfl (T:="dict") (.inr (.inr (.inl ⟨rfl,.inl ⟨_,e⟩⟩)))
 obtain ⟨z,hd,us,rel,dd⟩:=wX I1.hok e
 refine ⟨"dict","dict.items",V3,V1,PySem.F.type_dict_items,h1,h2,UO rfl (WS ?_)⟩
 refine call_meetsIn V1 h1 PySem.F.entry_dict_items (PySem.F.args_dict_items_1 _) (meets_dict_items (dg X.prog X.w) a hd) ⟨⟨us,dd⟩,?_⟩
 refine k a vs H1 _ _ (I1.kept (t':=s1.toks) fun b o q=>Rk _ q) e q1 ⟨_,RB _ rfl,rfl,rfl⟩ (Ui ..)
theorem BJ (rel:KV vs us):∀ {j:Nat}{p:Key×V},vs[j]?=some p->∃ q,us[j]?=some q/\p.1=q.1/\RelV p.2 q.2:=by
 unfold KV at rel
 induction rel with
 | nil=>intro j p h;simp at h
 | cons h t ih =>
  intro j p e
  cases j with
  | zero=>simp at e;subst e;exact ⟨_,rfl,h⟩
  | succ j =>
   obtain ⟨q,q1,q2⟩:=ih (j:=j) (p:=p) (by simpa using e)
   exact ⟨q,by simpa using q1,q2⟩
end
section
variable {X:Cx}{F:FT}{G:Str->Option BT.W}{K:Rj}{m:List Rz}{H:Hp}
theorem zy {d:BT.D}{p:BT.Ky×BT.D} (e:BT.xj d=some p):∃ k,d=.tup [k,p.2]/\BT.jB k=some p.1:=by
 cases d with
 | tup xs =>
  match xs,e with
  | [k,v],e =>
   obtain ⟨y,e1,e2⟩:=dh (show (BT.jB k).map (fun y=>(y,v))=some p from e)
   subst e2
   exact ⟨k,rfl,e1⟩
 | _=>exact cU e
inductive PAt (X:Cx) (m:List Rz) (H:Hp) (s:Rm) (its:List Rl) (ps:List (BT.Ky×BT.D)):Prop where
 | mk (ws:List (Key×V)) (us:List (Key×Rl)) (kv:KV ws us) (rk:RKs X.K m H ws ps) (l:its.length=us.length)
  (a:∀ (j:Nat) p,us[j]?=some p->∃ q key o n,its[j]?=some (.ref q)/\s.heap.get? q=some o/\o.cls=.type "tuple"/\o.data=.seq #[key,p.2] n/\(dg X.prog X.w).is p.1 key=true):PAt X m H s its ps
theorem pairs_at {pins:List (Rz×Obj)}{s:Rm}{σ:L2.St} (I:Inv X pins σ H s):∀ {vt:List V}{ds:List BT.D}{its:List Rl}{ps:List (BT.Ky×BT.D)},RDs X.K m H vt ds->c9 vt its->BT.gZ ds=some ps->PAt X m H s its ps:=by
 intro vt
 induction vt with
 | nil =>
  intro ds its ps r rv e
  cases r
  cases rv
  cases e
  exact ⟨[],[],.nil,.nil,rfl,fun j p h=>by simp at h⟩
 | cons v vt ih =>
  intro ds its ps r rv e
  cases r with
  | @cons _ d _ ds r t =>
   cases rv with
   | @cons _ u _ its ru tv =>
    obtain ⟨p,e1,e2⟩:=Option.bind_eq_some_iff.mp (show (BT.xj d).bind (fun p=>(BT.gZ ds).map (p :: ·))=some ps from e)
    obtain ⟨ps',e3,e4⟩:=dh e2
    subst e4
    obtain ⟨k,rfl,e5⟩:=zy e1
    obtain ⟨ws,us,kv,rk,l,a⟩:=ih t tv e3
    cases r with
    | @tup q vs _ h rr =>
     cases rr with
     | @cons v1 _ _ _ r1 rr =>
      cases rr with
      | @cons v2 _ _ _ r2 rr =>
       cases rr
       cases ru
       obtain ⟨its2,rv2,⟨o,o1,o2,n,o3⟩,_⟩:=I.tuple (h.elim (fun q=>.inl q.1) fun ⟨o,its,n,q,_⟩=>.inr ⟨o,its,n,q⟩)
       obtain ⟨u1,u2,rfl,q1,q2⟩:=vals2 rv2
       have ek:=oS r1 e5
       subst ek
       refine ⟨(p.1,v2) :: ws,(p.1,u2) :: us,.cons ⟨rfl,q2⟩ kv,.cons (A6 r1 e5) r2 rk,by simp[l],fun j x hx=>?_⟩
       cases j with
       | zero =>
        cases hx
        exact ⟨q,u1,o,n,rfl,o1,o2,o3,qB q1⟩
       | succ j=>exact a j x (by simpa using hx)
theorem BK:∀ {qs:List (Key×V)}{us:List (Key×Rl)}{ps:List (BT.Ky×BT.D)}{ws:List (Key×V)}{vs:List (Key×Rl)}{kvs:List (BT.Ky×BT.D)},KV qs us->RKs K m H qs ps->KV ws vs->RKs K m H ws kvs →
 KV (qs.foldl (fun c p=>putK c p.1 p.2) ws) (us.foldl (fun c p=>Wt c p.1 p.2) vs)/\RKs K m H (qs.foldl (fun c p=>putK c p.1 p.2) ws) (ps.foldl (fun c p=>BT.gU c p.1 p.2) kvs):=by
 intro qs
 induction qs with
 | nil =>
  intro us ps ws vs kvs h1 h2 h3 h4
  cases h1
  cases h2
  exact ⟨h3,h4⟩
 | cons q qs ih =>
  intro us ps ws vs kvs h1 h2 h3 h4
  cases h1 with
  | @cons _ u _ us a b =>
   cases h2 with
   | @cons k v d _ ps hk r t =>
    obtain ⟨a1,a2⟩:=a
    have a1:k=u.1:=a1
    refine ih (ws:=putK ws k v) (vs:=Wt vs u.1 u.2) (kvs:=BT.gU kvs k d) b t ?_ (h4.put k hk r)
    rw[← a1]
    exact h3.put k a2
theorem uB:∀ (qs:List (Key×V)) (ws:List (Key×V)),(qs.foldl (fun c p=>putK c p.1 p.2) ws).length<=ws.length+qs.length
 | [],ws=>Rr _
 | q :: qs,ws=>by
  have h1:=uB qs (putK ws q.1 q.2)
  have h2:=mT ws q.1 q.2
  simp only[List.foldl_cons,RO]
  lia
theorem Jj {sc:Sx}{N:List Str} (O:Ok X F G sc N) (hu:fX N=true) {a:BT.E}{e:Rq}{np pos:Pos} (hg:dM sc "dict"=true) (hs:noStar e=true) (he:PE X e (tD X F G a)) :
 PE X (.Call (.Name "dict" np) [e] [] pos) (tD X F G (.dk .of a)):=by
 intro pins s σ H Q I q
 obtain ⟨m,sl,h,z,h',R,S,ee,post⟩:=q
 simp only[BT.ev] at ee
 obtain ⟨x,h1,e1,e2⟩:=cY ee
 obtain ⟨ds,ps,rfl,e3,e4,rfl,rfl⟩:∃ ds ps,x=.p (.lst ds)/\BT.gZ ds=some ps/\ps.length<=BT.lim/\z=.k (.l (ps.foldl (fun c p=>BT.gU c p.1 p.2) []))/\h'=h1:=by
  cases x with
  | p d =>
   cases d with
   | lst ds =>
    rw[BT.vK] at e2
    obtain ⟨ps,q1,q2⟩:=Option.bind_eq_some_iff.mp e2
    split at q2
    case isFalse=>cases q2
    rename_i c
    cases q2
    exact ⟨ds,ps,rfl,q1,c,rfl,rfl⟩
   | _=>cases e2
  | _=>cases e2
 refine Call_ (gS (u:=.type "dict") I (dR O hg) (O.blt _ (by decide)) (by decide +kernel) (Sf (thn (fT he kG (cX hs) pos pins s σ H (fun vs H1=>∃ a vt,vs=[.ref a]/\∃ m1,Ext m H m1 H1/\RH X.K m1 H1 h'/\((Rd H1 a (.lst vt)/\a∉m1)\/KL X.K a vt)/\RDs X.K m1 H1 vt ds) I ?_) fun us s1 ⟨vs,H1,I1,r1,q1⟩=>?_) (cX hs) rfl))
 ·refine ⟨m,sl,h,_,h',R,S,e1,fun v H1 m1 x1 R1 r1=>?_⟩
  cases r1 with
  | p r1 =>
   cases r1 with
   | @lst a vt _ hh r=>exact ⟨a,vt,rfl,m1,x1,R1,hh,r⟩
 ·obtain ⟨a,vt,rfl,m1,x1,R1,hh,r⟩:=q1
  obtain ⟨u,rfl,ru⟩:=vals1 r1
  cases ru
  obtain ⟨z,its,nn,rv,hl,ee⟩:=rdL I1 (hh.elim (fun q=>.inl q.1) .inr)
  obtain ⟨ws,us,kv,rk,l,pa⟩:=pairs_at I1 r rv e3
  have l1:=rk.length
  have l2:=kv.length
  obtain ⟨k1,k2⟩:=BK kv rk (K:=X.K) (m:=m1) (H:=H1) (ws:=[]) (vs:=[]) (kvs:=[]) .nil .nil
  have hp:H1 s1.heap.objs.size=none:=I1.hok.fresh (Rr _)
  have li:=fG
  have fl:=uB ws []
  refine BX.ni (knd:=dg X.prog X.w) (ps:=us) (I1.ok.hd (O.calm hu)) ee ⟨by simp[l],fun j p hj=>?_⟩ (by lia) fun h2 tk dd k=>?_
  ·obtain ⟨q,key,o,n,g1,g2,g3,g4,g5⟩:=pa j p hj
   have lt:=Rt g2
   exact ⟨q,key,o,n,by simpa using g1,RK lt,RK lt,g2,g3,g4,g5⟩
  ·obtain ⟨ob,es,ep,ho,ra⟩:=id dd
   have x:Ext m1 H1 m1 (upd H1 s1.heap.objs.size (.frz ob (.dK (ws.foldl (fun c p=>putK c p.1 p.2) [])))):=gF hp
   refine ⟨.ref s1.heap.objs.size,_,I1.laid (a:=s1.heap.objs.size) (o:=.frz ob (.dK (ws.foldl (fun c p=>putK c p.1 p.2) []))) (t':=tk) k (Rr _) ⟨ho,AC (by simp at fl;lia) (beq_eq_false_iff_ne.mpr (SH (RK I1.big))) k1 dd⟩,rfl,?_⟩
   exact post _ _ m1 (x1.trans x) (R1.ext x (rN hp)) (.kl ⟨dz,R1.gD hp⟩ (k2.ext x))
end
section
theorem jn {prog:RG}{w:Sb}{h:Heap}{a:Rz}{o:Obj}{es:Array UC}{ep:Nat}{us:List (Key×Rl)} (ho:h.get? a=some o) (hd:o.data=.dict es ep) (D:h.DictOf (dg prog w) a us):h.DictAt (dg prog w) a us ep:=by
 obtain ⟨o',es',ep',g1,g2,g3,r⟩:=D
 rw[ho] at g1
 cases g1
 rw[hd] at g3
 cases g3
 exact ⟨o,es,ho,g2,hd,r⟩
theorem BN {P:RG}{w:Sb}{k:Key}{u:Rl} (h:(dg P w).is k u=true):RelV (kV k) u:=by
 rcases dO (show nR k u=true from h) with ⟨i,t,rfl,rfl⟩ | ⟨x,t,rfl,rfl⟩
 ·exact ⟨t,rfl⟩
 ·exact ⟨t,rfl⟩
noncomputable def Itd (a:Rz) (o:Obj) (ws:List (Key×V)):It :=
 ⟨fun i H=>H a=some (.frz o (.dK ws))/\i < ws.length,fun i H x H'=>H'=H/\∃ p,ws[i]?=some p/\x=kV p.1,fun i H=>H a=some (.frz o (.dK ws))/\ws.length<=i⟩
theorem zA {P:RG}{w:Sb}{K:Rj}{tg:Rq} (a it:Rz) {o:Obj} (ws:List (Key×V)) {es:Array UC}{ep:Nat} (hd:o.data=.dict es ep):Turn P w K tg (Itd a o ws) [it] it (fun i h=>h.IsKeyIter it a i ws.length ep) where
 mem:=by simp
 obj:=fun i h st b hb=>by
  have e:b=it:=by simpa using hb
  subst e
  obtain ⟨o,e,c,d⟩:=st
  exact ⟨o,e,fun v z=>by rw[d] at z;cases z⟩
 keep:=fun i h h' st k=>let ⟨q,e,r⟩:=st;⟨q,k it (by simp) q e,r⟩
 item:=by
  intro X hP hw hK hc i pins s σ H E I hf st hg
  subst hP hw hK
  obtain ⟨ha,hi⟩:=hg
  obtain ⟨z,hn,us,rel,dd⟩:=kB I.hok (.inr ⟨o,ha⟩)
  have ho:s.heap.get? a=some o:=(I.hok a _ ha).1
  have da:=jn ho hd dd
  have ln:=rel.length
  obtain ⟨⟨k,u⟩,hq,e1,_⟩:=BJ rel (Rv hi)
  obtain ⟨f0,f1,f2,f3,f4,f5⟩:=hf it (by simp)
  refine wpAny_pyNext_dict_item (kvs:=us) (k:=k) (v:=u) (by rw[← ln];exact st) da hq fun key h' hk st' sb=>?_
  have I1:Inv X pins σ H { s with heap:=h' }:=I.turned (t':=s.toks) (fun b o hb e=>(sb.2 b hb).trans e) f0 f1 f3 f4 f5
  rw[← ln] at st'
  obtain ⟨o',e,c,d⟩:=id st'
  have e1:ws[i].1=k:=e1
  refine ⟨key,rfl,qv (s:={ s with heap:=h' }) e c d (by decide) ⟨kV k,H,I1,BN hk,⟨rfl,ws[i],Rv hi,by rw[e1]⟩,st',fun b hb=>(hf b hb).1⟩⟩
 done:=by
  intro X hP hw hK hc i pins s σ H E I hf st hg
  subst hP hw hK
  obtain ⟨ha,hi⟩:=hg
  obtain ⟨z,hn,us,rel,dd⟩:=kB I.hok (.inr ⟨o,ha⟩)
  have ho:s.heap.get? a=some o:=(I.hok a _ ha).1
  have da:=jn ho hd dd
  have ln:=rel.length
  obtain ⟨f0,f1,f2,f3,f4,f5⟩:=hf it (by simp)
  exact wpAny_pyNext_dict_end (I.ok.hd hc) (kvs:=us) (by rw[← ln];exact st) da (RC (by lia)) fun h' eb=>⟨rfl,I.turned (t':=s.toks) (fun b o hb e=>eb b o hb e) f0 f1 f3 f4 f5⟩
 self:=fun _ _ _ _ _ st h=>wpAny_pyIter_keyiter st h
theorem EU {K:Rj}{m:List Rz}{H:Hp}{ws:List (Key×V)}{kvs:List (BT.Ky×BT.D)} (r:RKs K m H ws kvs):RDs K m H (ws.map fun p=>kV p.1) (kvs.map fun q=>BT.kH q.1):=by
 induction r with
 | nil=>exact .nil
 | cons hk r t ih=>exact .cons hk ih
theorem EV {C:BT.HH->Prop}{K:Rj}{m0:List Rz}{H0:Hp}{a:Rz}{o:Obj}{ws:List (Key×V)}{kvs:List (BT.Ky×BT.D)} (h:H0 a=some (.frz o (.dK ws))/\a∉m0) (r:RKs K m0 H0 ws kvs):qe K (Itd a o ws) m0 H0 (kvs.map fun q=>BT.kH q.1) C:=by
 have k:∀ {m H},Ext m0 H0 m H->H a=some (.frz o (.dK ws)):=fun x=>x.keep _ _ h.1 h.2 rfl
 have l:=r.length
 refine ⟨fun m H hh i x _ _ hi=>⟨k x,by rw[RP] at hi;lia⟩,fun m H hh i v H' d x RR _ hd y=>?_,fun m H _ x _ _=>⟨k x,by rw[RP];lia⟩⟩
 obtain ⟨rfl,p,y1,rfl⟩:=y
 obtain ⟨u,h1,h2⟩:=((EU r).ext x).get hd
 rw[RY,y1] at h1
 cases h1
 exact ⟨.refl _ _,fun _ _ e=>e,h2⟩
variable {F:FT}{G:Str->Option BT.W}
theorem BO {x z:BT.W}{h h':BT.HH}{k:BT.Dk} (hk:k=.ks\/k=.so) (e:BT.kDk k x h=some (z,h')):∃ kvs,x=.k (.l kvs):=by
 rcases hk with rfl | rfl
 all_goals
  cases x with
  | k q=>cases q with
   | l kvs=>exact ⟨kvs,rfl⟩
   | t _=>exact cU e
  | _=>exact cU e
theorem Jk {X:Cx}{tg x:Rq}{a:BT.E} (he:PE X x (tD X F G a)):PI X tg x (iD X F G .seq (.cons (.dk .ks a) .nil)):=by
 intro pins s σ H R I q
 obtain ⟨m,s',h,ws,h',ds,RR,S,e,e2,ha,post⟩:=q
 obtain ⟨w,rfl,e4⟩:=lG e
 simp only[BT.ev] at e4
 obtain ⟨y,h1,e5,e6⟩:=cY e4
 obtain ⟨kvs,rfl⟩:=BO (.inl rfl) e6
 rw[BT.Im] at e6
 cases e6
 have ed:ds=kvs.map fun q=>BT.kH q.1:=by
  have e2:(some (kvs.map fun q=>BT.kH q.1):Option (List BT.D))=some ds:=e2
  exact (Ry e2).symm
 subst ed
 refine thn (he pins s σ H (fun v H1=>∃ m1 a o ws,v=.ref a/\Ext m H m1 H1/\RH X.K m1 H1 h'/\(H1 a=some (.frz o (.dK ws))/\a∉m1)/\RKs X.K m1 H1 ws kvs) I ⟨m,s',h,_,h',RR,S,e5,fun v H1 m1 x1 R1 r1=>?_⟩) fun v s1 ⟨x,H1,I1,r1,q1⟩=>?_
 ·cases r1 with
  | @kl a o ws _ hh r=>exact ⟨m1,a,o,ws,rfl,x1,R1,hh,r⟩
 ·obtain ⟨m1,a,o,ws,rfl,x1,R1,hh,r⟩:=q1
  cases r1
  obtain ⟨z,hn,us,rel,dd⟩:=kB I1.hok (.inr ⟨o,hh.1⟩)
  have ho:s1.heap.get? a=some o:=(I1.hok a _ hh.1).1
  obtain ⟨o',es,ep,g1,g2,g3,_⟩:=id dd
  rw[ho] at g1
  cases g1
  have ln:=rel.length
  refine wpAny_pyIter_dict hn (jn ho g3 dd) ?_
  refine ⟨s1.heap.objs.size,[s1.heap.objs.size],_,_,H1,rfl,I1.kept (t':=s1.toks) fun b o e=>Rk _ e,zA a _ ws g3,⟨_,RB _ rfl,rfl,by rw[ln];rfl⟩,fun b hb=>?_,post H1 m1 _ x1 R1 (EV hh r)⟩
  have e:b=s1.heap.objs.size:=by simpa using hb
  subst e
  exact I1.vd (Rr _) (I1.hok.fresh (Rr _))
theorem EW {K:Rj}{m:List Rz}{H:Hp}{ws:List (Key×V)}{kvs:List (BT.Ky×BT.D)} (r:RKs K m H ws kvs):∀ {ns:List Int},BT.uh kvs=some ns->ws.map (·.1)=ns.map Sum.inl:=by
 induction r with
 | nil=>intro ns e;cases e;rfl
 | @cons k v d vs kvs hk r t ih =>
  intro ns e
  cases k with
  | inl k =>
   obtain ⟨n2,e1,rfl⟩:=dh (show (BT.uh kvs).map (k :: ·)=some ns from e)
   simp[ih e1]
  | inr _=>cases e
theorem ints_list {prog:RG}{w:Sb}:∀ {vs:List Rl}{ns:List Int}{us:List (Key×Rl)},us.map (·.1)=ns.map Sum.inl->vs.length=us.length->(∀ (j:Nat) v,vs[j]?=some v->∃ k x,us[j]?=some (k,x)/\(dg prog w).is k v=true)->V6 vs ns:=by
 intro vs
 induction vs with
 | nil =>
  intro ns us e l h
  have:us=[]:=List.length_eq_zero_iff.mp l.symm
  subst this
  cases ns with
  | nil=>exact .nil
  | cons _ _=>cases e
 | cons v vs ih =>
  intro ns us e l h
  cases us with
  | nil=>cases l
  | cons p us =>
   cases ns with
   | nil=>cases e
   | cons n ns =>
    obtain ⟨k,x,q1,q2⟩:=h 0 v rfl
    cases q1
    have e0:k=Sum.inl n:=by simpa using (Xl e).1
    subst e0
    obtain ⟨t,rfl⟩:=(show ∃ t,v=US n t from BN q2)
    exact .cons n t (ih (Xl e).2 (by simpa using l) fun j v q=>h (j+1) v (by simpa using q))
theorem vU {prog:RG}{w:Sb}{ns:List Int}{us:List (Key×Rl)} (e:us.map (·.1)=ns.map Sum.inl) {acc:Array Rl} (h:ItemsOf (fun i v=>∃ k x,us[i]?=some (k,x)/\(dg prog w).is k v=true) acc us.length):V6 acc.toList ns :=
 ints_list e (by simpa using h.1) fun j v q=>h.2 j v (by simpa using q)
theorem EX {ws:List (Key×V)}{us:List (Key×Rl)} (r:KV ws us):us.map (·.1)=ws.map (·.1):=by
 unfold KV at r
 induction r with
 | nil=>rfl
 | cons h t ih=>rw[RL,RL,ih,h.1]
noncomputable def MI (prog:RG) (w:Sb) (us:List (Key×Rl)) (s:Rm) (q:Wa) (s':Rm):Prop :=
 ∃ h' tk acc c,q=.ok (.ret (.ref s.heap.objs.size))/\s'={ s with heap:=h',toks:=tk }/\(∀ b o,s.heap.get? b=some o->h'.get? b=some o)/\h'.get? s.heap.objs.size=some { cls:=.type "list",dict:=none,data:=.seq acc c,slots:=#[] }/\ItemsOf (fun i v=>∃ k x,us[i]?=some (k,x)/\(dg prog w).is k v=true) acc us.length
theorem r8 {prog:RG}{w:Sb}{A:Sw}{E:Rl->Rm->Prop}{s:Rm}{a:Rz}{us:List (Key×Rl)}{ep:Nat}{R:List Rl->Rm->Prop} (hh:A.handled=none) (hn:(a==Td)=false) (D:s.heap.DictAt (dg prog w) a us ep) (hz:us.length<=sizeLine)
 (h:∀ h' tk acc,(∀ b o,s.heap.get? b=some o->h'.get? b=some o)->s.heap.objs.size<=h'.objs.size->ItemsOf (fun i v=>∃ k x,us[i]?=some (k,x)/\(dg prog w).is k v=true) acc us.length->R acc.toList { s with heap:=h',toks:=tk }):wpAny (RX prog w) A (collect (.ref a)) R E s:=by
 have K:=PySem.W.kdl_dict (prog:=prog) (w:=w) (knd:=dg prog w) (kvs:=us) (ep:=ep) hn
 have lt:=D.lt_size
 have at0:(s.heap.push { cls:=.type "list",data:=.seq ([]:List Rl).toArray }).get? s.heap.objs.size=some { cls:=.type "list",data:=.seq #[] }:=RB _ rfl
 unfold collect
 refine Ro (wpAny_runValue (codeAny_builtin entry_proto_collect' ?_))
 rw[Uo PySem.F.plain_proto_collect _]
 show wpAny _ A.in1 (newList [] >>= fun l=>again (.builtin "list.__iadd__" ⟨[l,.ref a],[]⟩)) _ _ s
 refine Ro (Tc ?_)
 refine wpAny_pure ⟨plainId_quiet V2 _,codeAny_builtin entry_list_iadd' ?_⟩
 rw[Uo V2 _]
 show wpAny _ A.in1 (Builtin.List.listExtendWith (.ref s.heap.objs.size) (.ref a) (.ref s.heap.objs.size)) _ _ _
 refine SX (PySem.W.kdl_extend (A:=A) (R:=MI prog w us s) (s:={ s with heap:=s.heap.push { cls:=.type "list",data:=.seq ([]:List Rl).toArray } }) K hh (D.push _) s.heap.objs.size (TL lt) (TL lt) (.ref s.heap.objs.size) 0 at0
  (fun h' tk acc c k1 k2 k3=>⟨h',tk,acc,c,rfl,rfl,fun b o e=>k1 b o (RK (Rt e)) (Rk _ e),k2,k3⟩) hz) (fun f s' x=>?_) fun e s' x=>?_
 ·cases f with
  | done f =>
   obtain ⟨h',tk,acc,c,e,rfl,k1,k2,k3⟩:=x
   cases e
   exact Ro (Vp k2 (wpAny_pure (h h' tk acc k1 (SV (Rt k2)) k3)))
  | again c₁ =>
   refine ⟨x.1,codeAny_mono x.2 fun q s₂ y=>?_⟩
   obtain ⟨h',tk,acc,c,rfl,rfl,k1,k2,k3⟩:=y
   exact Ro (Vp k2 (wpAny_pure (h h' tk acc k1 (SV (Rt k2)) k3)))
 ·obtain ⟨_,_,_,_,e',_⟩:=x
  cases e'
theorem Jl {X:Cx}{sc:Sx}{N:List Str} (O:Ok X F G sc N) (hu:fX N=true) {a:BT.E}{e:Rq}{np pos:Pos} (hg:dM sc "sorted"=true) (hs:noStar e=true) (he:PE X e (tD X F G a)) :
 PE X (.Call (.Name "sorted" np) [e] [] pos) (tD X F G (.dk .so a)):=by
 intro pins s σ H Q I q
 obtain ⟨m,sl,h,z,h',R,S,ee,post⟩:=q
 simp only[BT.ev] at ee
 obtain ⟨x,h1,e1,e2⟩:=cY ee
 obtain ⟨kvs,rfl⟩:=BO (.inr rfl) e2
 rw[BT.Io] at e2
 obtain ⟨ns,e3,e4⟩:=Option.bind_eq_some_iff.mp e2
 split at e4
 case isFalse=>cases e4
 rename_i c
 cases e4
 refine Call_ (gS (u:=.builtin "sorted") I (dR O hg) (O.blt _ (by decide)) (by decide +kernel) (U7 (thn (fT he kG (cX hs) pos pins s σ H (fun vs H1=>∃ m1 a o ws,vs=[.ref a]/\Ext m H m1 H1/\RH X.K m1 H1 h'/\(H1 a=some (.frz o (.dK ws))/\a∉m1)/\RKs X.K m1 H1 ws kvs) I ?_) fun us s1 ⟨vs,H1,I1,r1,q1⟩=>?_) (cX hs) rfl))
 ·refine ⟨m,sl,h,_,h',R,S,e1,fun v H1 m1 x1 R1 r1=>?_⟩
  cases r1 with
  | @kl a o ws _ hh r=>exact ⟨m1,a,o,ws,rfl,x1,R1,hh,r⟩
 ·obtain ⟨m1,a,o,ws,rfl,x1,R1,hh,r⟩:=q1
  obtain ⟨u,rfl,ru⟩:=vals1 r1
  cases ru
  obtain ⟨z,hn,us,rel,dd⟩:=kB I1.hok (.inr ⟨o,hh.1⟩)
  have ho:s1.heap.get? a=some o:=(I1.hok a _ hh.1).1
  obtain ⟨o',es,ep,g1,g2,g3,_⟩:=id dd
  rw[ho] at g1
  cases g1
  have ln:=rel.length
  have hi:=EW r e3
  have lw:ws.length=ns.length:=by simpa using congrArg VV hi
  have hk:us.map (·.1)=ns.map Sum.inl:=(EX rel).trans hi
  refine uA (r8 (I1.ok.hd (O.calm hu)) hn (jn ho g3 dd) (by lia) fun h2 tk acc k ge it=>?_)
  have ia:=vU hk it
  have la:=W3 ia
  refine ⟨by lia,?_⟩
  refine PyProof.Rows.list_sort_tree (RB _ rfl) ia (by lia) fun out ns' a1 a2 a3=>⟨_,rfl,?_⟩
  obtain ⟨e,he'⟩:=PyProof.Rows.sortedHeap_at (h:=h2.push (seqObj "list" acc.toList.toArray 0)) (a:=h2.objs.size) (vs:=acc.toList) (n:=0) (out:=out) (RB _ rfl)
  have es':ns'=BT.sortI ns:=W0 (a2.trans (BT.sortI_perm ns).symm) a3 (BT.oK _)
  subst es'
  have hv:=j0 a1
  have sl:sizeLine=16777216:=U1
  have l2:(BT.sortI ns).length=ns.length:=(BT.sortI_perm _).length_eq
  refine ⟨.ref _,_,I1.laid (o:=.lst ((BT.sortI ns).map V.int)) (t':=tk) (fun b u q=>?_) ge ⟨by rw[RP];lia,out.toList,e,hv,he'⟩,rfl,ji R1 (I1.hok.fresh ge) (lD _) fun v5 H5 m5 x5 R5 r5=>post v5 H5 m5 (x1.trans x5) R5 r5⟩
  have q2:=k b u q
  have lt:=Rt q2
  rw[PyProof.Rows.sortedHeap_old (RK lt) (by rw[Ui];exact VI lt)]
  exact Rk _ q2
end
noncomputable def Iti (a:Rz) (ob:Obj) (ws:List (Key×V)):It :=
 ⟨fun i H=>H a=some (.frz ob (.dK ws))/\i < ws.length,fun i H v H'=>∃ t p,v=.ref t/\H t=none/\H'=upd H t (.tup [kV p.1,p.2])/\ws[i]?=some p,fun i H=>H a=some (.frz ob (.dK ws))/\ws.length<=i⟩
theorem vV {P:RG}{w:Sb}{K:Rj}{elts:List Rq}{kk:Nat}{tp:Pos} (a it:Rz) {ob:Obj} (ws:List (Key×V)) {es:Array UC}{ep:Nat} (hd:ob.data=.dict es ep) :
 Turn P w K (.Tuple elts kk tp) (Iti a ob ws) [it] it (fun i h=>∃ ok ov,IsItemIter h it a i ws.length ep ok ov) where
 mem:=by simp
 obj:=fun i h st b hb=>by
  have e:b=it:=by simpa using hb
  subst e
  obtain ⟨ok,ov,st⟩:=st
  exact ⟨_,st,fun v z=>by cases (show Data.fields _=Data.cell v from z)⟩
 keep:=fun i h h' st k=>by
  obtain ⟨ok,ov,st⟩:=st
  exact ⟨ok,ov,k it (by simp) _ st⟩
 item:=by
  intro X hP hw hK hc i pins s σ H E I hf st hg
  subst hP hw hK
  obtain ⟨ha,hi⟩:=hg
  obtain ⟨ok,ov,st⟩:=st
  obtain ⟨z,hn,us,rel,dd⟩:=kB I.hok (.inr ⟨ob,ha⟩)
  have ho:s.heap.get? a=some ob:=(I.hok a _ ha).1
  have da:=jn ho hd dd
  have ln:=rel.length
  obtain ⟨⟨k,u⟩,hq,e1,e2⟩:=BJ rel (Rv hi)
  rw[ln] at st
  refine wpAny_pyNext_items_item st da hq fun key h' hk ho' hT hsz hkp=>?_
  refine ⟨_,rfl,wpAny_letOwnedTupleGo_items ho' fun h2 c1 c2=>?_⟩
  have c2:T7 it h' h2:=c2
  have lt:it < s.heap.objs.size:=Rt st
  have old:∀ b o,b∉[it]->s.heap.get? b=some o->h2.get? b=some o:=fun b o hb e=>by
   have hb:b≠it:=by simpa using hb
   exact c2.extBut b o hb (hkp b o hb e)
  have hpair:h2.get? s.heap.objs.size=some { cls:=.type "tuple",data:=.seq #[key,u] }:=c2.extBut _ _ (TL lt) hT
  have hnew:H s.heap.objs.size=none:=I.hok.fresh (Rr _)
  have e1:ws[i].1=k:=e1
  have e2:RelV ws[i].2 u:=e2
  have hok:HOk X.prog X.w (upd H s.heap.objs.size (.tup [kV ws[i].1,ws[i].2])) h2:=fun b v q=>by
   by_cases eb:b=s.heap.objs.size
   ·subst eb
    rw[dz] at q
    cases q
    exact ⟨by show 2<=sizeLine;decide,[key,u],.cons (by rw[e1];exact BN hk) (.cons e2 .nil),_,hpair,rfl,_,rfl⟩
   ·rw[c6 eb] at q
    refine (I.hok b v q).stay (fun c v hc z=>old c v (fun hb=>?_) z) (fun c z=>?_) fun c l z=>?_
    ·have:=(hf c hb).1
     rcases hc with rfl | hc
     ·rw[this] at q;exact cU q
     ·rw[this] at hc;exact cU hc
    ·rw[c6 (RK (I.hok.lt z))];exact z
    ·rw[c6 (RK (I.hok.lt z))];exact z
  refine ⟨.ref s.heap.objs.size,_,Inv.EM (s:=s) (tk:=s.toks) I hf old (fun b hb=>c6 (RK hb)) hok,rfl,⟨_,ws[i],rfl,hnew,rfl,Rv hi⟩,⟨_,_,by rw[ln];exact c1⟩,fun b hb=>?_⟩
  have e:b=it:=by simpa using hb
  subst e
  rw[c6 (RK lt)]
  exact (hf _ hb).1
 done:=by
  intro X hP hw hK hc i pins s σ H E I hf st hg
  subst hP hw hK
  obtain ⟨ha,hi⟩:=hg
  obtain ⟨ok,ov,st⟩:=st
  obtain ⟨z,hn,us,rel,dd⟩:=kB I.hok (.inr ⟨ob,ha⟩)
  have ho:s.heap.get? a=some ob:=(I.hok a _ ha).1
  have da:=jn ho hd dd
  have ln:=rel.length
  obtain ⟨f0,f1,f2,f3,f4,f5⟩:=hf it (by simp)
  rw[ln] at st
  exact wpAny_pyNext_items_end (I.ok.hd hc) st da (RC (by lia)) fun h' eb=>⟨rfl,I.turned (t':=s.toks) (fun b o hb e=>eb b o hb e) f0 f1 f3 f4 f5⟩
 self:=fun _ _ _ _ _ st h=>by
  obtain ⟨ok,ov,st⟩:=st
  exact PySem.W.kcp_self st h
theorem BP {K:Rj}{m:List Rz}{H:Hp}{ws:List (Key×V)}{kvs:List (BT.Ky×BT.D)} (r:RKs K m H ws kvs):∀ {i:Nat}{d:BT.D}{p:Key×V},(BT.fW kvs)[i]?=some d->ws[i]?=some p->∃ k x,d=.tup [k,x]/\RD K m H (kV p.1) k/\RD K m H p.2 x:=by
 induction r with
 | nil=>intro i d p e;simp[BT.fW] at e
 | @cons k v d0 vs kvs hk r t ih =>
  intro i d p e1 e2
  cases i with
  | zero=>simp[BT.fW] at e1;simp at e2;subst e2;exact ⟨_,_,e1.symm,hk,r⟩
  | succ i=>exact ih (i:=i) (by simpa [BT.fW] using e1) (by simpa using e2)
theorem BQ {C:BT.HH->Prop}{K:Rj}{m0:List Rz}{H0:Hp}{a:Rz}{ob:Obj}{ws:List (Key×V)}{kvs:List (BT.Ky×BT.D)} (h:H0 a=some (.frz ob (.dK ws))) (r:RKs K m0 H0 ws kvs):qe K (Iti a ob ws) m0 H0 (BT.fW kvs) C:=by
 have l:=r.length
 have li:(BT.fW kvs).length=kvs.length:=by simp[BT.fW]
 refine ⟨fun m H hh i x _ _ hi=>⟨x.frz _ _ _ h,by lia⟩,fun m H hh i v H' d x RR _ hd y=>?_,fun m H _ x _ _=>⟨x.frz _ _ _ h,by lia⟩⟩
 obtain ⟨t,p,rfl,hn,rfl,y1⟩:=y
 obtain ⟨k,z,rfl,q1,q2⟩:=BP (r.ext x) hd y1
 have xx:Ext m H m (upd H t (.tup [kV p.1,p.2])):=gF hn
 exact ⟨xx,rN hn,.tup (.inl ⟨.inl dz,RR.gD hn⟩) (.cons (q1.ext xx) (.cons (q2.ext xx) .nil))⟩
section
variable {F:FT}{G:Str->Option BT.W}
theorem Jm {x z:BT.W}{h h':BT.HH} (e:BT.kDk .it x h=some (z,h')):∃ n kvs,x=.r n/\BT.dat h n=some kvs/\z=.p (.lst (BT.fW kvs))/\h'=h.set n .z:=by
 cases x with
 | r n =>
  rw[BT.Ip] at e
  obtain ⟨kvs,e1,e2⟩:=dh e
  cases e2
  exact ⟨n,kvs,rfl,e1,rfl,rfl⟩
 | _=>exact cU e
theorem Jo {X:Cx}{tg oe:Rq}{o:BT.E}{apos pos:Pos} (hz:qG .itm tg=true) (hb:dB oe=true) (hl:(apos.endLine==pos.line)=true) (hO:PE X oe (tD X F G o)):PI X tg (.Call (.Attribute oe "items" apos) [] [] pos) (iD X F G .itm (.cons (.dk .it o) .nil)):=by
 intro pins s σ H R I q
 obtain ⟨m,s',h,ws,h',ds,RR,S,e,e2,ha,post⟩:=q
 obtain ⟨w,rfl,e4⟩:=lG e
 simp only[BT.ev] at e4
 obtain ⟨y,h1,e5,e6⟩:=cY e4
 obtain ⟨n,kvs,rfl,e7,rfl,rfl⟩:=Jm e6
 have ed:ds=BT.fW kvs:=by
  have e2:(some (BT.fW kvs):Option (List BT.D))=some ds:=e2
  exact (Ry e2).symm
 subst ed
 refine BI hb hl hO I (RQ:=fun a vs H1=>∃ m1,Ext m H m1 H1/\RH X.K m1 H1 h1/\RKs X.K m1 H1 vs kvs/\m1[n]?=some a) ⟨m,s',h,.r n,h1,RR,S,e5,fun v H1 m1 x1 R1 r1=>?_⟩ fun a vs H1 s2 r I2 e8 q8 hv hsz=>?_
 ·cases r1 with
  | @r a n hn =>
   obtain ⟨vs,c1,c2⟩:=R1.xr n a kvs hn e7
   exact ⟨a,vs,rfl,c1,m1,x1,R1,c2,hn⟩
 ·obtain ⟨m1,x1,R1,rk,hn⟩:=q8
  obtain ⟨z,hd,us,rel,dd⟩:=wX I2.hok e8
  obtain ⟨ob,es,ep,g1,g2,g3,_⟩:=id dd
  have ln:=rel.length
  refine wpAny_pyIter_items (knd:=dg X.prog X.w) hv (jn g1 g3 dd) ?_
  have I3:=I2.write (x:=a) (e:=a) (o:=.frz ob (.dK vs)) (h':=s2.heap) (t':=s2.toks) (by rw[e8];trivial) (.inl rfl) (fun b u _ e=>e) ⟨ob,g1⟩ ⟨g1,z,hd,us,rel,dd⟩
  have x2:Ext m1 H1 m1 (upd H1 a (.frz ob (.dK vs))):=jK (RJ hn) ⟨_,e8,rfl⟩
  have I4:=I3.kept (t':=s2.toks) (h':=s2.heap.push { cls:=.type "dict_itemiterator",data:=.fields #[.none,.bool false,.ref a,.int 0 0,.int us.length 0,.int ep 0,.none,.none] }) fun b o e=>Rk _ e
  cases tg with
  | Tuple elts kk tp =>
   refine ⟨s2.heap.objs.size,[s2.heap.objs.size],_,_,upd H1 a (.frz ob (.dK vs)),rfl,I4,vV a _ vs g3,⟨_,_,by rw[ln];exact RB _ rfl⟩,fun b hb=>?_,post _ m1 _ (x1.trans x2) (R1.setC hn ⟨_,e8,rfl⟩ ⟨ob,vs,dz⟩) (BQ dz (rk.ext x2))⟩
   have e:b=s2.heap.objs.size:=by simpa using hb
   subst e
   exact I3.vd (Rr _) (I3.hok.fresh (Rr _))
  | _=>exact BT.dQ hz
theorem EY {X:Cx}{pins:List (Rz×Obj)}{σ:L2.St}{H:Hp}{s:Rm}{m:List Rz}{A:Sw}{b:List (Key×V)}{ub:List (Key×Rl)}{kb:List (BT.Ky×BT.D)} (hu:A.units+120 < Wy) (I:Inv X pins σ H s) (relb:KV b ub) (rb:RKs X.K m H b kb) :
 ∀ {a:List (Key×V)}{ka:List (BT.Ky×BT.D)}{ua:List (Key×Rl)},RKs X.K m H a ka->KV a ua->(ka.all fun p=>BT.dok 100 p.2)=true->PySem.W.KeqHits A s ub ua (BT.vL kb ka):=by
 intro a
 induction a with
 | nil =>
  intro ka ua r rel _
  cases r
  cases rel
  exact .nil
 | cons p a ih =>
  intro ka ua r rel hd
  cases r with
  | @cons k v d _ ka hk r t =>
   cases rel with
   | @cons _ u _ ua h1 t2 =>
    obtain ⟨u1,u2⟩:=u
    obtain ⟨h1,h2⟩:=h1
    have h1:k=u1:=h1
    have h2:RelV v u2:=h2
    subst h1
    simp only[Vt,Rn] at hd
    have rv:=relb.val k
    unfold BT.vL
    rcases rb.get k with ⟨g1,g2⟩ | ⟨v',d',g1,g2,g3⟩
    ·rw[g2] at rv
     cases e:valueAt ub k with
     | none=>rw[g1];exact .miss e
     | some u=>rw[e] at rv;exact rv.elim
    ·rw[g2] at rv
     cases e:valueAt ub k with
     | none=>rw[e] at rv;exact rv.elim
     | some u =>
      rw[e] at rv
      rw[g1]
      obtain ⟨as,ra⟩:=ig I r h2
      obtain ⟨bs,rb'⟩:=ig I g3 rv
      have dd:=ja 100 d hd.1
      refine .hit e ?_ (ih t t2 hd.2)
      rw[← mC]
      exact SeqAt.eqAt_reads _ _ A s u2 u as bs ra rb' (fQ r) (fQ g3) (by lia)
theorem GQ {X:Cx} (hu:X.A.units+150 < Wy):OpR X (Su .NotEq) (rOp X.prog X.w X.K BT.Ed):=by
 intro pins s σ H v u v' u' Q I rv ru h
 obtain ⟨m,h,x,y,z,h',R,rx,ry,e,post⟩:=h
 obtain ⟨ka,kb,rfl,rfl,c,rfl,rfl⟩:∃ ka kb,x=.k (.l ka)/\y=.k (.l kb)/\(ka.all fun p=>BT.dok 100 p.2)=true/\z=.p (.bl (!BT.eqK ka kb))/\h'=h:=by
  cases x with
  | k q =>
   cases q with
   | l ka =>
    cases y with
    | k q =>
     cases q with
     | l kb =>
      rw[BT.rJ] at e
      obtain ⟨c,e⟩:=dj e
      cases e
      exact ⟨ka,kb,rfl,rfl,c,rfl,rfl⟩
     | t _=>exact cU e
    | _=>exact cU e
   | t _=>cases y<;>exact cU e
  | _=>cases y<;>exact cU e
 cases rx with
 | @kl a o ws _ hh r =>
  cases ry with
  | @kl b o' ws' _ hh' r' =>
   cases rv
   cases ru
   obtain ⟨z,hn,us,rel,dd⟩:=kB I.hok (.inr ⟨o,hh.1⟩)
   obtain ⟨z',hn',us',rel',dd'⟩:=kB I.hok (.inr ⟨o',hh'.1⟩)
   refine PySem.W.keq_ne hn hn' dd dd' (by lia) (fun _=>EY (A:=X.A.in1) ?_ I rel' r' r rel c) ?_
   ·show X.A.units+1+120 < Wy;lia
   ·have l1:=rel.length
    have l2:=rel'.length
    have l3:=r.length
    have l4:=r'.length
    refine ⟨.bl _,H,I,?_,post.here R (.bl _)⟩
    rw[← l1,← l2,l3,l4]
    rfl
end
section
theorem EZ:∀ {xs:List V}{us:List Rl},xs.length=us.length->(∀ (j:Nat) x u,xs[j]?=some x->us[j]?=some u->RelV x u)->c9 xs us:=by
 intro xs
 induction xs with
 | nil =>
  intro us h _
  cases us with
  | nil=>exact .nil
  | cons _ _=>simp at h
 | cons x xs ih =>
  intro us h q
  cases us with
  | nil=>simp at h
  | cons u us=>exact .cons (q 0 x u rfl rfl) (ih (by simpa using h) fun j a b e1 e2=>q (j+1) a b (by simpa using e1) (by simpa using e2))
theorem BU (O:Ok X F G sc N) (hu:fX N=true) (hg:dM sc "list"=true) (hg2:dM sc "range"=true) (hs:noStar ex=true) (hA:PA X [ex] (tDs X F G sa)) :
 PE X (.Call (.Name "list" np) [.Call (.Name "range" zp) [ex] [] pos] [] p) (tD X F G (.lsr mu .rng1 sa)):=by
 intro pins s σ H Q I q
 have q:=lE (as:=sa) (k:=fun ws h=>BT.kLs mu .rng1 ws h) (fun s h=>by simp only[BT.ev]) q (R':=fun vs H1=>∃ m h ws z h',RH X.K m H1 h/\RWs X.prog X.w X.K m H1 vs ws/\BT.kLs mu .rng1 ws h=some (z,h')/\Post X.prog X.w X.K m H1 z h' Q) fun m h xs z h' vs H1 R r e post=>⟨m,h,xs,z,h',R,r,e,post⟩
 refine Call_ (gS (u:=.type "list") I (dR O hg) (O.blt _ (by decide)) (by decide +kernel) (Sf ?_ (cX rfl) rfl))
 rw[cX (show noStar (.Call (.Name "range" zp) [ex] [] pos)=true from rfl)]
 show wpAny _ _ (Wv ((false,eval (.Call (.Name "range" zp) [ex] [] pos) X.env) :: T9 p (R8 [] X.env))) _ _ s
 refine Ua (Call_ (gS (u:=.type "range") I (dR O hg2) (O.blt _ (by decide)) (by decide +kernel) (Sf (thn (hA pos pins s σ H _ I q) fun us s1 ⟨vs,H1,I1,r1,q1⟩=>?_) (cX hs) rfl)))
 obtain ⟨m,h,ws,z,h',R,rws,e,post⟩:=q1
 unfold BT.kLs at e
 cases g1:(BT.rds ws h).bind (BT.gC .rng1) with
 | none=>rw[g1] at e;exact cU e
 | some ds =>
  rw[g1] at e
  simp only at e
  by_cases cl:ds.length<=BT.lim
  case neg=>rw[if_neg cl] at e;exact cU e
  rw[if_pos cl] at e
  have ez:BT.new mu ds h=(z,h'):=Ry e
  obtain ⟨xs,e1,e2⟩:=Option.bind_eq_some_iff.mp g1
  have rr:=iW R rws e1
  have hd:∃ j:Int,xs=[.int j]:=by
   match xs,e2 with
   | [.int j],_=>exact ⟨j,rfl⟩
  obtain ⟨j,rfl⟩:=hd
  rw[BT.j5] at e2
  split at e2
  case isFalse=>exact cU e2
  rename_i c
  simp only[Rn,decide_eq_true_eq] at c
  have ed:BT.upto 0 j.toNat=ds:=Ry e2
  obtain ⟨v,rfl,r⟩:=rr.one
  cases r with
  | d r =>
   cases r
   obtain ⟨u,rfl,eu⟩:=vals1 r1
   obtain ⟨t,rfl⟩:=eu
   refine call_range_1 (UD ?_)
   refine call_list_range (s:={ s1 with heap:=s1.heap.push { cls:=.type "range",data:=.fields #[.int 0 s1.toks,.int j t,.int 1 (s1.toks+1)] },toks:=s1.toks+1+1 }) (I1.ok.hd (O.calm hu)) (WE ..) (small_one (by lia) (by lia) (by lia) (by lia)) (n:=j.toNat) (by rw[rangeSize_one];split<;>lia) (by lia) fun h2 tk acc c' hk hS hacc=>?_
   have nn:ds=((RV j.toNat).map fun (k:Nat)=>(0:Int)+(k:Int)).map BT.D.int:=by rw[← ed,Tv];rfl
   have hk':∀ b u,s1.heap.get? b=some u->h2.get? b=some u:=fun b u q=>hk b u (Rk _ q)
   have hle:s1.heap.objs.size<=(s1.heap.push { cls:=.type "range",data:=.fields #[.int 0 s1.toks,.int j t,.int 1 (s1.toks+1)] }).objs.size:=by rw[Ui];exact Te _
   have hv:c9 (((RV j.toNat).map fun (k:Nat)=>(0:Int)+(k:Int)).map V.int) acc.toList:=by
    refine EZ (by simp[hacc.1]) fun i x u e1 e2=>?_
    obtain ⟨t',rfl⟩:=hacc.2 i u (by simpa using e2)
    have:x=.int (0+(i:Int)):=by
     rw[Tv,RY] at e1
     rcases R0 i j.toNat with z | z
     ·rw[T3 z] at e1
      exact (Ry e1).symm
     ·rw[RC (by simpa using z)] at e1;exact cU e1
    subst this
    exact ⟨t',by simp⟩
   have sl:sizeLine=16777216:=U1
   refine ⟨.ref _,_,I1.laid (h':=h2) (t':=tk) (o:=.lst (((RV j.toNat).map fun (k:Nat)=>(0:Int)+(k:Int)).map V.int)) hk' hle ⟨by rw[RP,RP,VC];lia,acc.toList,c',hv,by simpa using hS⟩,rfl,?_⟩
   refine nI (mu:=mu) R (I1.hok.fresh hle) (lD _) ?_
   rw[← nn,ez]
   exact post
end
section
variable {F:FT}{G:Str->Option BT.W}
end
end BS
end
section
namespace BX
open PySem PyProof.Rows
section
variable {prog:RG}{w:Sb}{A:Sw}{E:Rl->Rm->Prop}{s:Rm}{R:Wa->Rm->Prop}
end
section
variable {E:Rl->Rm->Prop}
end
end BX
namespace BS
open PySem PySem.Spec PyProof.Rows L2
section
end
end BS
end
section
namespace BS
open PySem PySem.Spec PyProof.Rows L2
section
end
noncomputable def nq (sc:Sx) (x:Str):Bool:=match sc.names.lookup x with
 | some .local=>true
 | some .cell=>true
 | _=>false
inductive CTs (sc:Sx) (N:List Str):List (Nat×Str)->List Rq->Prop where
 | nil:CTs sc N [] []
 | cons {i:Nat}{x:Str}{p:Pos}{tg:List (Nat×Str)}{es:List Rq} (h1:N[i]?=some x) (h2:nq sc x=true) (r:CTs sc N tg es):CTs sc N ((i,x) :: tg) (.Name x p :: es)
inductive CT (sc:Sx) (N:List Str):List (Nat×Str)->Rq->Prop where
 | one {i:Nat}{x:Str}{p:Pos} (h1:N[i]?=some x) (h2:nq sc x=true):CT sc N [(i,x)] (.Name x p)
 | tup {tg:List (Nat×Str)}{es:List Rq}{p:Pos}{k:Nat} (hl:Nat.ble 2 tg.length=true) (h:CTs sc N tg es):CT sc N tg (.Tuple es k p)
section
theorem RS.set {K:Rj} (S:RS P w K m H σ s) (r:RW P w K m H v z):RS P w K m H (σ.set i (some v)) (s.set i (some z)):=by
 refine ⟨by simp[S.len],fun j y e=>?_⟩
 by_cases c:i=j
 ·subst c
  have hl:i < s.length:=by
   rcases R0 i s.length with q | q
   ·exact q
   ·rw[RC (by simpa using q)] at e;exact cU e
  rw[Sg hl] at e
  cases e
  exact ⟨v,by rw[Sg (by rw[S.len];exact hl)],r⟩
 ·rw[Se c] at e
  obtain ⟨u,h1,h2⟩:=S.get j y e
  exact ⟨u,by rw[Se c];exact h1,h2⟩
theorem mJ (O:Ok X F G sc N) (h:nq sc x=true):L2.Loc X.env.scope x:=by
 rw[O.hsc]
 unfold nq at h
 unfold L2.Loc
 cases e:sc.names.lookup x with
 | none=>rw[e] at h;exact BT.dQ h
 | some k=>rw[e] at h;cases k<;>first | (exact .inl rfl) | (exact .inr rfl) | exact BT.dQ h
theorem xM (h:kJ e=true):∀ x,foldedSetIterable e env x=pure x:=by
 intro x
 cases e<;>first | rfl | exact BT.dQ h
noncomputable def GOk (X:Cx) (tg:List (Nat×Str)) (g:TG):Prop:=∀ (m:List Rz) (H:Hp) (σ:L2.St) (s:BT.Sl) (x:V) (d:BT.D) (ds:List BT.D) (Q:L2.St->Hp->Prop),RS X.prog X.w X.K m H σ s->RD X.K m H x d->BT.target tg.length d=some ds →
 (∀ σ',RS X.prog X.w X.K m H σ' (BT.sets tg ds s)->Q σ' H)->g x σ H Q
noncomputable def PZ (K:Rj) (n:Nat) (t:TGs):TG:=fun v σ H Q=>∃ a xs,v=.ref a/\(SqT K H a xs\/LL K H a xs)/\xs.length=n/\t xs σ H Q
theorem Jp {X:Cx}{es:List Rq}{k:Nat}{t:TGs}{n:Nat}{pos:Pos} (hc:X.calm=true) (h:PGs X es t) (hn:(TX es X.env).length=n) (hst:(TX es X.env).findIdx? (·.1)=none):PG X (.Tuple es k pos) (PZ X.K n t):=by
 intro pins s σ H v u Q I r hw
 obtain ⟨a,xs,rfl,hq | hq,hl,hw⟩:=hw
 ·exact Hj hc h hn hst pins s σ H _ u Q I r ⟨a,xs,rfl,hq,hl,hw⟩
 ·cases r
  obtain ⟨z,its,n2,rv,hz,e⟩:=rdL I hq
  rw[assign_Tuple]
  refine Ro (VM ?_)
  unfold unpack
  rw[hn,hst]
  refine Ro (Tf ?_)
  have sz:n=its.toArray.size:=by rw[Rp,← hl];exact hz
  rw[sz]
  refine PySem.W.kun_itemsOf (I.ok.hd hc) ⟨_,e,rfl,_,rfl⟩ fun h' hx=>?_
  have I1:Inv X pins σ H { s with heap:=h' }:=I.kept (t':=s.toks) fun b o e=>hx b o (RK (Rt e)) e
  exact h pins _ σ H xs _ Q I1 (by simpa using rv) hw
inductive GsO (X:Cx) (tg:List (Nat×Str)) (es:List Rq):Prop where
 | mk (gs:TGs) (h:PGs X es gs) (hn:(TX es X.env).length=tg.length) (hs:(TX es X.env).findIdx? (·.1)=none)
  (ok:∀ (m:List Rz) (H:Hp) (σ:L2.St) (s:BT.Sl) (vs:List V) (ds:List BT.D) (Q:L2.St->Hp->Prop),RS X.prog X.w X.K m H σ s->RDs X.K m H vs ds->ds.length=tg.length->(∀ σ',RS X.prog X.w X.K m H σ' (BT.sets tg ds s)->Q σ' H)->gs vs σ H Q):GsO X tg es
theorem P0 {X:Cx}{sc:Sx}{N:List Str} (O:Ok X F G sc N) {tg:List (Nat×Str)}{es:List Rq} (h:CTs sc N tg es) (hf:∀ q∈tg,X.fn q.2=true\/X.env.scope.names.lookup q.2=some .local):GsO X tg es:=by
 induction h with
 | nil =>
  refine ⟨K3,DB,rfl,rfl,fun m H σ s vs ds Q S r hl q=>?_⟩
  cases r with
  | nil=>exact ⟨rfl,q _ S⟩
  | cons _ _=>cases hl
 | @cons i x p tg es h1 h2 r ih =>
  obtain ⟨gs,hg,hn,hs,ok⟩:=ih fun q hq=>hf q (Ru _ hq)
  refine ⟨_,Ae (wM (i:=i) O.nd (by rw[O.hN];exact h1) (mJ O h2) (hf (i,x) (by simp))) hg,congrArg (·+1) hn,?_,fun m H σ s vs ds Q S r hl q=>?_⟩
  ·show ((false,V8 (.Name x p) X.env) :: TX es X.env).findIdx? (·.1)=none
   rw[List.findIdx?_cons]
   show (if false=true then _ else _)=_
   rw[if_neg (by decide),hs];rfl
  ·cases r with
   | nil=>cases hl
   | @cons v d vs ds ra t=>exact ⟨v,vs,rfl,ok m H (σ.set i (some v)) (s.set i (some (.p d))) vs ds Q (S.set (.p ra)) t (Nat.succ.inj hl) q⟩
theorem sCT (O:Ok X F G sc N) (hc:X.calm=true) (h:CT sc N tg te) (hf:∀ q∈tg,X.fn q.2=true\/X.env.scope.names.lookup q.2=some .local):∃ g,PG X te g/\GOk X tg g:=by
 cases h with
 | @one i x p h1 h2 =>
  refine ⟨_,wM (i:=i) O.nd (by rw[O.hN];exact h1) (mJ O h2) (hf (i,x) (by simp)),?_⟩
  intro m H σ s v d ds Q S r e q
  simp only[RO,Tw,Nat.zero_add,BT.oM] at e
  cases e
  exact q _ (S.set (.p r))
 | @tup tg es p k hl h =>
  obtain ⟨gs,hg,hn,hs,ok⟩:=P0 O h hf
  refine ⟨_,Jp (n:=tg.length) hc hg hn hs,?_⟩
  intro m H σ s v d ds Q S r e q
  have h2:=WV hl
  unfold BT.target at e
  rw[if_neg (by lia)] at e
  cases r with
  | @tup a vs dd h r =>
   rw[BT.ue] at e
   obtain ⟨c,e⟩:=dj e
   subst e
   exact ⟨a,vs,rfl,.inl (h.elim (fun q=>.inl q.1) fun ⟨o,its,n,q,_⟩=>.inr ⟨o,its,n,q⟩),by rw[r.length];exact c,ok m H σ s vs _ Q S r c q⟩
  | @lst a vs dd h r =>
   rw[BT.ud] at e
   obtain ⟨c,e⟩:=dj e
   subst e
   exact ⟨a,vs,rfl,.inr (h.elim (fun q=>.inl q.1) .inr),by rw[r.length];exact c,ok m H σ s vs _ Q S r c q⟩
  | _=>exact cU e
end
end BS
end
section
namespace BC
open PySem
section
theorem zB {target:Rq} (I:Nat->Rm->Prop)
 (turn:∀ n s,I n s->wpAny (RX prog w) A (pyNext it) (fun r s₁=>match r with
  | none=>R (.ok .next) s₁
  | some v=>wpAny (RX prog w) A (Vi target it v) (fun _ s₀=>wpAny (RX prog w) A (V8 target env v) (fun _ s₂ =>
   wpAny (RX prog w) A (forIn ifs true fun c r=>if r=true then do let ok ← isTrue c env (eval c env);pure (UG ok) else pure (UG r)) (fun ok s₃ =>
    if ok=true then wpAny (RX prog w) A (eval elt env) (fun x s₄ =>
     wpAny (RX prog w) A (call (.builtin "list.append") [acc,x]) (fun _ s₅=>∃ m,m < n/\I m s₅) (fun _ _=>False) s₄) (fun _ _=>False) s₃
    else ∃ m,m < n/\I m s₃) (fun _ _=>False) s₂) (fun _ _=>False) s₀) (fun _ _=>False) s₁) (fun _ _=>False) s)
 (n:Nat) (h:I n s):codeAny (RX prog w) A (.compLoop (.ListComp elt [⟨target,iter,ifs,0⟩] scope pos) 0 it acc env) R s:=by
 refine codeAny_loop rfl I (fun n s hI=>?_) n h
 show wpAny _ A ((compTurn (.ListComp elt [⟨target,iter,ifs,0⟩] scope pos) 0 it acc env).onRaise (fun x=>do noteFrame x env;theTreesLotGoes x)) _ _ s
 refine wpAny_noted ?_
 rw[compTurn_list]
 refine Ro (VM (Ro (SX (turn n s hI) (fun r s₁ h₁=>?_) fun _ _ h'=>h'.elim)))
 cases r with
 | none=>exact wpAny_pure h₁
 | some v =>
  refine Ro (SX h₁ (fun _ s₀ h₀'=>?_) fun _ _ h'=>h'.elim)
  refine Ro (SX h₀' (fun _ s₂ h₂=>Ro (SX h₂ (fun ok s₃ h₃=>?_) fun _ _ h'=>h'.elim)) fun _ _ h'=>h'.elim)
  cases ok with
  | false=>exact wpAny_pure ⟨rfl,h₃⟩
  | true =>
   exact Ro (Ro (SX h₃ (fun x s₄ h₄=>Ro (SX h₄ (fun _ s₅ h₅=>wpAny_pure (wpAny_pure ⟨rfl,h₅⟩)) fun _ _ h'=>h'.elim)) fun _ _ h'=>h'.elim))
end
noncomputable def fJ (cells:List (Str×Rz)):List (Str×Ub)->List (Str×Rz)->List (Str×Rz)
 | [],acc=>acc
 | (n,k) :: r,acc=>if k==.free then (match cells.lookup n with | some c=>fJ cells r ((n,c) :: acc) | none=>fJ cells r acc) else fJ cells r acc
noncomputable def vW (cells:List (Str×Rz)) (names:List (Str×Ub)):Prop:=∀ x∈names,x.2=.free->∃ c,cells.lookup x.1=some c
theorem o5:∀ (names:List (Str×Ub)) (acc:List (Str×Rz)),vW env.cells names →
 (forIn names acc fun x (r:List (Str×Rz))=>(if x.2==.free then do let c ← cellOf env x.1;pure (UG ((x.1,c) :: r)) else pure (UG r):Sem (ForInStep (List (Str×Rz)))))=pure (fJ env.cells names acc)
 | [],acc,_=>rfl
 | (n,k) :: r,acc,h=>by
  have ih:=fun acc=>o5 (env:=env) r acc fun x hx=>h x (Ru _ hx)
  rw[List.forIn_cons]
  by_cases c:k=.free
  ·subst c
   obtain ⟨a,e⟩:=h (n,.free) RE rfl
   have e:env.cells.lookup n=some a:=e
   simp only[fJ,e]
   show (cellOf env n >>= _) >>= _=_
   unfold cellOf
   rw[e]
   exact ih _
  ·have cb:(k==Ss)=false:=by simpa using c
   simp only[fJ,cb]
   exact ih _
theorem mK {α β:Type}{m m':Sem α}{f:α->Sem β} (h:m=m'):(m >>= f)=(m' >>= f):=by rw[h]
theorem o6 {scope:Sx}{env:Env} (h:vW env.cells scope.names):closureFor scope env=pure (fJ env.cells scope.names []):=by
 have:=o5 (env:=env) scope.names [] h
 unfold closureFor
 exact (mK this).trans rfl
theorem o7:∀ {names:List (Str×Ub)}{acc:List (Str×Rz)},(∀ x c,acc.lookup x=some c->cells.lookup x=some c)->∀ x c,(fJ cells names acc).lookup x=some c->cells.lookup x=some c
 | [],acc,h,x,c,e=>h x c e
 | (n,k) :: r,acc,h,x,c,e=>by
  rw[fJ] at e
  split at e
  ·split at e
   ·rename_i a ea
    refine o7 (fun y b q=>?_) x c e
    rw[SQ] at q
    split at q
    ·rename_i hy
     have:y=n:=by simpa using hy
     subst this
     cases q;exact ea
    ·exact h y b q
   ·exact o7 h x c e
  ·exact o7 h x c e
theorem nK:∀ {names:List (Str×Ub)}{acc:List (Str×Rz)},(∃ c,acc.lookup x=some c)->∃ c,(fJ cells names acc).lookup x=some c
 | [],acc,h=>h
 | (n,k) :: r,acc,h=>by
  rw[fJ]
  split
  ·split
   ·refine nK ?_
    rw[SQ]
    split
    ·exact ⟨_,rfl⟩
    ·exact h
   ·exact nK h
  ·exact nK h
theorem o8:∀ {names:List (Str×Ub)}{acc:List (Str×Rz)},(x,Ss)∈names->(∃ c,cells.lookup x=some c)->∃ c,(fJ cells names acc).lookup x=some c
 | [],acc,h,_=>nomatch h
 | (n,k) :: r,acc,h,q=>by
  rw[fJ]
  rcases List.mem_cons.mp h with e | e
  ·cases e
   obtain ⟨c,ec⟩:=q
   rw[if_pos (by rfl),ec]
   refine nK ?_
   exact ⟨c,by simp⟩
  ·split
   ·split
    ·exact o8 e q
    ·exact o8 e q
   ·exact o8 e q
end BC
end
section
namespace BS
open PySem PySem.Spec PyProof.Rows L2
noncomputable def o9 (F:FT) (G:Str->Option BT.W) (sc:Sx) (N:List Str) (cond:BT.Es) (ifs:List Rq):Prop :=
 (cond=.nil/\ifs=[])\/∃ c c',cond=.cons c .nil/\ifs=[c']/\∀ X',Ok X' F G sc N->PT X' c' (tDT X' F G c)
structure uC (sc:Sx) (N tg:List Str) (fv:List (Nat×Str)) (scope:Sx):Prop where
 k1:scope.kind=.function
 k2:sc.kind=.function
 cell:∀ y∈scope.names,y.2≠.cell
 loc:∀ y∈scope.names,y.2=.local->scope.names.lookup y.1=some .local
 free:∀ y∈scope.names,y.2=.free->sc.names.lookup y.1=some .cell
 fvs:∀ q∈fv,N[q.1]?=some q.2/\(q.2,Ss)∈scope.names/\sc.names.lookup q.2=some .cell/\(dY scope sc).names.lookup q.2=some .cell
 nd:(tg++fv.map (·.2)).Nodup
theorem qK:∀ {l:List Str},kK l=true->l.Nodup
 | [],_=>Vb
 | x :: r,h=>by
  simp only[kK,Rn,Ue] at h
  refine List.nodup_cons.mpr ⟨fun z=>?_,qK h.2⟩
  have:=h.1
  simp[z] at this
theorem MJ (h:kL sc N tg fv scope=true):uC sc N tg fv scope:=by
 simp only[kL,Rn] at h
 obtain ⟨⟨⟨⟨⟨⟨h1,h2⟩,h3⟩,h4⟩,h5⟩,h6⟩,h7⟩:=h
 rw[SA] at h3 h4 h5 h6
 refine ⟨eq_of_beq h1,eq_of_beq h2,fun y hy e=>?_,fun y hy e=>?_,fun y hy e=>?_,fun q hq=>?_,qK h7⟩
 ·have:=h3 y hy
  rw[e] at this;simp at this
 ·have:=h4 y hy
  rw[e] at this;simpa using this
 ·have:=h5 y hy
  rw[e] at this;simpa using this
 ·have:=h6 q hq
  simp only[Rn] at this
  obtain ⟨⟨⟨a,b⟩,c⟩,d⟩:=this
  exact ⟨by simpa using a,by simpa using b,by simpa using c,by simpa using d⟩
theorem kN {sc:Sx}{x:Str}{k:Ub} (hk:k=.cell\/k=.free):∀ {names:List (Str×Ub)},(∀ y∈names,y.2≠.cell) →
 (names.map fun (n,k)=>if (k==Ss&&sc.kind==.function&&sc.names.lookup n==some .cell) then (n,U9) else (n,k)).lookup x=some k->(x,Ss)∈names
 | [],_,h=>by simp at h
 | (n,q) :: r,hc,h=>by
  have ih:=kN (sc:=sc) (x:=x) hk (names:=r) fun y hy=>hc y (Ru _ hy)
  replace h:TZ x ((if (q==Ss&&sc.kind==.function&&sc.names.lookup n==some .cell)=true then (n,U9) else (n,q)) :: (r.map fun (n,k)=>if (k==Ss&&sc.kind==.function&&sc.names.lookup n==some .cell) then (n,U9) else (n,k)))=some k:=h
  have go:∀ (q':Ub),(q'=q\/(q'=.cell/\q=.free))->TZ x ((n,q') :: (r.map fun (n,k)=>if (k==Ss&&sc.kind==.function&&sc.names.lookup n==some .cell) then (n,U9) else (n,k)))=some k->(x,Ss)∈(n,q) :: r:=by
   intro q' hq gl
   rw[SQ] at gl
   split at gl
   ·rename_i hx
    have hx:x=n:=by simpa using hx
    subst hx
    have e:q'=k:=Ry gl
    have hqf:q=.free:=by
     rcases hq with rfl | ⟨_,e2⟩
     ·rcases hk with z | z
      ·exact absurd (e.trans z) (hc (x,q') RE)
      ·exact e.trans z
     ·exact e2
    rw[hqf];exact RE
   ·exact Ru _ (ih gl)
  by_cases c:(q==Ss&&sc.kind==.function&&sc.names.lookup n==some .cell)=true
  ·rw[if_pos c] at h
   refine go .cell (.inr ⟨rfl,?_⟩) h
   simp only[Rn] at c
   exact eq_of_beq c.1.1
  ·rw[if_neg c] at h
   exact go q (.inl rfl) h
noncomputable def blk (X:Cx) (N':List Str) (s2:Rm) (H1:Hp) (scope:Sx) (C:Rz) (fp:List Rz):Cx :=
 { X with N:=N',s₀:=s2,H₀:=H1,env:=Xe scope (BC.fJ X.env.cells scope.names []) C X.env,outer:=X.stack,stack:=X.stack,ex:=fp,fn:=fun _=>false,pn:=[],xe:=fun _ _=>False }
section
variable {X:Cx}{F:FT}{G:Str->Option BT.W}{sc:Sx}{N:List Str}{pins:List (Rz×Obj)}{σ:L2.St}{H1:Hp}{s2:Rm}
theorem mY {scope:Sx}{x:Str}{c:Rz} (e:(BC.fJ X.env.cells scope.names []).lookup x=some c):X.env.cells.lookup x=some c :=
 BC.o7 (fun _ _ z=>by simp at z) x c e
theorem uD (hsc:X.env.scope=sc) (x:Str):(Xe scope (BC.fJ X.env.cells scope.names []) C X.env).kindOf x=(dY scope sc).names.lookup x:=by
 subst hsc;rfl
theorem xN (I1:Inv X pins σ H1 s2) (hsc:X.env.scope=sc) (cf:uC sc N tg fv scope) (hx:(x,Ss)∈scope.names):∃ c,(BC.fJ X.env.cells scope.names []).lookup x=some c:=by
 refine BC.o8 hx (I1.ok.has x (.inl ?_))
 have:=cf.free _ hx rfl
 rw[← hsc] at this
 exact this
theorem Jq (I1:Inv X pins σ H1 s2) (hsc:X.env.scope=sc) {scope:Sx}{tg:List Str}{fv:List (Nat×Str)} (cf:uC sc N tg fv scope) {N':List Str}{C:Rz}{fp:List Rz} (hC:C=s2.heap.objs.size+1)
 (hf:∀ b∈fp,pU X pins H1 b) (hlt:∀ b∈fp,b < s2.heap.objs.size):(blk X N' s2 H1 scope C fp).Ok where
 mod:=I1.ok.mod
 kind:=cf.k1
 glob:=I1.ok.glob
 blt:=I1.ok.blt
 above:=by show s2.heap.objs.size<=C;rw[hC];exact Te _
 inj:=fun x y c a b=>I1.ok.inj x y c (mY a) (mY b)
 has:=fun x hx=>by
  refine xN I1 hsc cf ?_
  have hx':(dY scope sc).names.lookup x=some .cell\/(dY scope sc).names.lookup x=some .free:=by
   rw[← uD hsc (C:=C)];exact hx
  rcases hx' with e | e
  ·exact kN (.inl rfl) cf.cell e
  ·exact kN (.inr rfl) cf.cell e
 cab:=fun x c z=>by cases z
 hd:=I1.ok.hd
 frames:=I1.ok.frames
 stk:=.inl rfl
 exf:=fun b hb=>⟨fun z=>by
  have l:=hlt b hb
  have z:b=C:=z
  rw[z,hC] at l
  exact absurd l (Nat.not_lt.mpr (Te _)),fun x c e=>(hf b hb).2.2.2.2.1 x c (mY e)⟩
 bs:=I1.bs
 bsz:=Sq I1.ok.bsz I1.sz
 noex:=fun b o e hb=>by
  have q:=(I1.ok.bs b o e).1
  rcases (hf b hb).2.2.2.1 with z | z
  ·exact I1.ok.noex b o e z
  ·exact absurd (Rt q) (Nat.not_lt.mpr z)
 exfs:=fun b hb z=>by
  rcases List.mem_cons.mp (I1.nS b z) with e | e
  ·exact (hf b hb).2.1 e
  ·exact (hf b hb).2.2.1 e
 kE:=I1.stack
 frf:=I1.qW
end
noncomputable def lobj (us:List Rl) (n:Nat):Obj:={ cls:=.type "list",data:=.seq us.toArray n }
section
variable {X:Cx}{F:FT}{G:Str->Option BT.W}{sc:Sx}{N:List Str}{pins:List (Rz×Obj)}{σ:L2.St}{H1:Hp}{s2:Rm}
noncomputable def kO (n:Nat) (σ:L2.St) (fv:List (Nat×Str)):L2.St:=RN n none++fv.map fun q=>(σ[q.1]?).getD none
theorem E3 (I1:Inv X pins σ H1 s2) (hsc:X.env.scope=sc) (hN:X.N=N) (cf:uC sc N tg fv scope) (hC:C=s2.heap.objs.size+1)
 (hf:∀ b∈fp,pU X pins H1 b) (hlt:∀ b∈fp,b < s2.heap.objs.size) (old:∀ b o,s2.heap.get? b=some o->h1.get? b=some o) (hns:h1.Ns C m) (hD:h1.get? s2.heap.objs.size=some (lobj [] 0)) :
 Inv (blk X (tg++fv.map (·.2)) s2 H1 scope C fp) [(s2.heap.objs.size,lobj [] 0)] (kO tg.length σ fv) H1 { s2 with heap:=h1,toks:=tk } where
 ok:=Jq I1 hsc cf hC hf hlt
 os:=rfl
 bare:=I1.bare
 base:=Un.kept old
 loc:=by
  refine ⟨m,hns,fun i x v e1 e2 e3=>?_⟩
  have e1:(tg++fv.map (·.2))[i]?=some x:=e1
  unfold kO at e2
  by_cases c:i < tg.length
  ·rw[Rx (by simpa using c),Uc,if_pos c] at e2
   cases e2
  ·rw[RZ (by simpa using c)] at e2
   rw[RZ (by simpa using c)] at e1
   simp only[Uj,RY] at e1 e2
   cases g:fv[i - tg.length]? with
   | none=>rw[g] at e1;exact cU e1
   | some q =>
    rw[g] at e1 e2
    simp only[UP,Us] at e1 e2
    subst e1
    obtain ⟨f1,f2,f3,f4⟩:=cf.fvs q (RJ g)
    have e2':σ[q.1]?=some (some v):=by
     cases gg:σ[q.1]? with
     | none=>rw[gg] at e2;exact cU e2
     | some o=>rw[gg] at e2;simp only[Xj] at e2;rw[e2]
    obtain ⟨m0,hn0,hl0⟩:=I1.loc
    obtain ⟨u,ru,lk⟩:=hl0 q.1 q.2 v (by rw[hN];exact f1) e2' (by rw[hsc];exact .inr (.inl f3))
    refine ⟨u,ru,?_⟩
    have kc:X.env.kindOf q.2=some .cell:=by
     show X.env.scope.names.lookup q.2=_
     rw[hsc];exact f3
    rcases lk with ⟨k,_⟩ | ⟨k,c,ec,o,ho,hd⟩
    ·rw[kc] at k;cases k
    ·obtain ⟨c',ec'⟩:=xN I1 hsc cf f2
     have:=mY ec'
     rw[ec] at this
     cases this
     refine .inr ⟨.inl ?_,c,ec',o,old c o ho,hd⟩
     show (Xe scope (BC.fJ X.env.cells scope.names []) C X.env).kindOf q.2=_
     rw[uD hsc];exact f4
 cell:=fun x c e=>by
  obtain ⟨v,o,ho,hd⟩:=I1.cell x c (mY e)
  exact ⟨v,o,old c o ho,hd⟩
 free:=I1.hok.fresh (by show s2.heap.objs.size<=C;rw[hC];exact Te _)
 freeC:=fun x c e=>I1.freeC x c (mY e)
 pin:=fun p hp=>by
  have e:p=(s2.heap.objs.size,lobj [] 0):=by
   have:p∈[]++[(s2.heap.objs.size,lobj [] 0)]:=hp
   simpa using this
  subst e
  refine ⟨hD,I1.hok.fresh (Rr _),?_,?_,fun v z=>by cases (show Data.seq _ _=Data.cell v from z)⟩
  ·show s2.heap.objs.size≠C
   rw[hC];exact RK (TY _)
  ·intro z
   obtain ⟨_,o,ho,_⟩:=I1.stack.mem z
   exact absurd (Rt ho) (SS _)
 hok:=I1.hok.kept old
 len:=by
  show (kO tg.length σ fv).length=(tg++fv.map (·.2)).length
  simp[kO]
end
noncomputable def tgF:Nat->List Str->List (Nat×Str)
 | _,[]=>[]
 | k,x :: r=>(k,x) :: tgF (k+1) r
noncomputable abbrev tgI (tg:List Str):List (Nat×Str):=tgF 0 tg
theorem r9:∀ (tg:List Str) (k:Nat),(tgF k tg).length=tg.length
 | [],_=>rfl
 | _ :: r,k=>congrArg (·+1) (r9 r (k+1))
theorem xO {q:Nat×Str}:∀ {tg:List Str}{k:Nat},q∈tgF k tg->q.2∈tg
 | x :: r,k,h=>by
  rcases List.mem_cons.mp h with rfl | h
  ·exact RE
  ·exact Ru _ (xO h)
theorem xP (h:nmE te=some x):∃ p,te=.Name x p:=by
 cases te with
 | Name y p=>cases h;exact ⟨p,rfl⟩
 | _=>exact absurd (show (none:Option Str)=some _ from h) (fun z=>nomatch z)
theorem BV (h:IA te=a :: l):∃ k p,te=.Tuple (a :: l) k p:=by
 cases te with
 | Tuple xs k p=>cases h;exact ⟨k,p,rfl⟩
 | _=>exact absurd (show ([]:List Rq)=_ :: _ from h) (fun z=>nomatch z)
theorem BW {sc:Sx}{fs:List Str}:∀ (tg:List Str) {pre:List Str}{es:List Rq},tg.map some=es.map nmE->(∀ x∈tg,nq sc x=true)->CTs sc (pre++(tg++fs)) (tgF pre.length tg) es
 | [],pre,es,e,_=>by
  cases es with
  | nil=>exact .nil
  | cons _ _=>cases e
 | x :: r,pre,es,e,h=>by
  cases es with
  | nil=>cases e
  | cons a es =>
   obtain ⟨p,rfl⟩:=xP (Wq e).symm
   have q:=BW (fs:=fs) r (pre:=pre++[x]) (List.tail_eq_of_cons_eq e) fun y hy=>h y (Ru _ hy)
   rw[SG,RT] at q
   exact .cons (by simp) (h x RE) q
theorem E4 (h:ur sc tg te=true):CT sc (tg++fs) (tgI tg) te/\(tgI tg).length=tg.length/\∀ q∈tgI tg,sc.names.lookup q.2=some .local:=by
 have st:∀ {x:Str},sc.names.lookup x=some .local->nq sc x=true:=fun e=>by unfold nq;rw[e]
 unfold ur at h
 rw[Rn,TJ,Rn,SA] at h
 obtain ⟨h,ha⟩:=h
 have lo:∀ {x},x∈tg->sc.names.lookup x=some .local:=fun {x} hx=>eq_of_beq (ha x hx)
 rcases h with h | ⟨h1,h2⟩
 ·have e:=eq_of_beq h
  cases tg with
  | nil=>exact absurd (congrArg VV e) (by simp)
  | cons x r =>
   cases r with
   | cons _ _=>exact absurd (congrArg VV e) (by simp)
   | nil =>
    obtain ⟨p,rfl⟩:=xP (Wq e).symm
    have l:sc.names.lookup x=some .local:=lo RE
    exact ⟨.one rfl (st l),rfl,fun q hq=>by rw[List.mem_singleton.mp hq];exact l⟩
 ·have e:=eq_of_beq h2
  cases g:IA te with
  | nil=>rw[g] at e;cases tg with
   | nil=>exact BT.dQ h1
   | cons _ _=>cases e
  | cons a l =>
   rw[g] at e
   obtain ⟨k,p,rfl⟩:=BV g
   exact ⟨.tup (by rw[r9];exact h1) (BW (pre:=[]) tg e fun x hx=>st (lo hx)),r9 _ _,fun q hq=>lo (xO hq)⟩
theorem xQ:∀ (tg:List Str) (k:Nat) (ds:List BT.D) (sl:BT.Sl),ds.length=tg.length->k+tg.length<=sl.length->BT.sets (tgF k tg) ds sl=sl.take k++(ds.map BT.eV++sl.drop (k+tg.length))
 | [],k,ds,sl,h,_=>by
  cases List.length_eq_zero_iff.mp h
  exact (List.take_append_drop k sl).symm
 | x :: r,k,ds,sl,h,hl=>by
  cases ds with
  | nil=>cases h
  | cons d ds =>
   rw[RO] at hl
   have kl:k < sl.length:=by lia
   show BT.sets (tgF (k+1) r) ds (sl.set k (some (.p d)))=_
   rw[xQ r (k+1) ds _ (Nat.succ.inj h) (by rw[UX];lia),List.drop_set_of_lt (by lia),List.take_succ,Sg kl,List.take_set,List.set_eq_of_length_le (by rw[UN];lia),SG,show k+1+r.length=k+(x :: r).length by rw[RO];lia]
   rfl
theorem vX {n:Nat}{d:BT.D}{ds:List BT.D} (h:BT.target n d=some ds):ds.length=n:=by
 unfold BT.target at h
 by_cases c:n=1
 ·rw[if_pos c] at h;cases h;exact c.symm
 ·rw[if_neg c] at h
  cases d with
  | tup xs=>rw[BT.ue] at h;obtain ⟨c,h⟩:=dj h;rw[← h];exact c
  | lst xs=>rw[BT.ud] at h;obtain ⟨c,h⟩:=dj h;rw[← h];exact c
  | _=>exact cU h
theorem E5 (h:(tgI tg).length=tg.length) (h0:tg≠[]) (hd:BT.target tg.length d0=some ds) (hl:sl.length=tg.length+fs.length) (hr:sl.drop tg.length=fs) :
 BT.sets (tgI tg) ds sl=ds.map BT.eV++fs/\(ds.map BT.eV++fs).length=tg.length+fs.length/\(ds.map BT.eV++fs).drop tg.length=fs:=by
 have hn:=vX hd
 have g:=xQ tg 0 ds sl hn (by lia)
 rw[Nat.zero_add,hr] at g
 have le:(ds.map BT.eV).length=tg.length:=by rw[RP];exact hn
 exact ⟨g,by rw[RT,le],by rw[← le];exact List.drop_left⟩
theorem mL:∀ {fv:List (Nat×Str)}{fs:BT.Sl},BT.frees s fv=some fs->fs.length=fv.length/\∀ (i:Nat) (q:Nat×Str),fv[i]?=some q->fs[i]?=s[q.1]?
 | [],fs,e=>by simp[BT.frees] at e;subst e;exact ⟨rfl,fun i q z=>by simp at z⟩
 | q :: r,fs,e=>by
  simp only[BT.frees] at e
  cases g:s[q.1]? with
  | none=>rw[g] at e;exact cU e
  | some w =>
   rw[g] at e
   obtain ⟨fs',e1,e2⟩:=dh e
   subst e2
   obtain ⟨h1,h2⟩:=mL e1
   refine ⟨by simp[h1],fun i p z=>?_⟩
   cases i with
   | zero=>simp at z;subst z;simp[g]
   | succ i=>simpa using h2 i p (by simpa using z)
theorem zC {K:Rj} (S:RS P w K m H σ s) (hf:BT.frees s fv=some fs):RS P w K m H (kO n σ fv) (RN n none++fs):=by
 obtain ⟨h1,h2⟩:=mL hf
 refine ⟨by simp[kO,h1],fun i y e=>?_⟩
 by_cases c:i < n
 ·rw[Rx (by simpa using c),Uc,if_pos c] at e
  cases e
 ·rw[RZ (by simpa using c)] at e
  simp only[Uj] at e
  have hi:i - n < fv.length:=by
   rw[← h1]
   rcases R0 (i - n) fs.length with z | z
   ·exact z
   ·rw[RC z] at e;exact cU e
  have g:=Rv hi
  rw[h2 _ _ g] at e
  obtain ⟨v,hv,r⟩:=S.get _ _ e
  refine ⟨v,?_,r⟩
  unfold kO
  rw[RZ (by simpa using c)]
  simp only[Uj,RY,g,UP,hv,Xj]
theorem E6 {rest:List BT.D} (e:BT.dU f n (d :: r) h=some (rest,h2)) :
 ∃ xs o hA rest',BT.target n d=some xs/\f xs h=some (o,hA)/\BT.dU f n r hA=some (rest',h2)/\rest=(match o with | some x=>x :: rest' | none=>rest'):=by
 rw[BT.dU] at e
 cases g:BT.target n d with
 | none=>rw[g] at e;exact cU e
 | some xs =>
  rw[g] at e
  obtain ⟨o,hA,e1,e2⟩:=cY e
  unfold BT.AH at e2
  obtain ⟨rest',h3,e3,e4⟩:=cY e2
  unfold BT.wZ at e4
  cases e4
  exact ⟨xs,o,hA,rest',rfl,e1,e3,rfl⟩
theorem Un.behind (u:Un fs ex H H' h h1) (a:∀ b,b < h.objs.size->H2 b=H' b) (lt:∀ b o,H b=some o->b < h.objs.size) (k:∀ b o,b < h.objs.size->h1.get? b=some o->h2.get? b=some o):Un fs ex H H2 h h2 where
 keep:=fun b o e n c d=>k b o (Rt e) (u.keep b o e n c d)
 slot:=fun b o e n c d=>by obtain ⟨sl,q⟩:=u.slot b o e n c d;exact ⟨sl,k b _ (Rt e) q⟩
 free:=fun b o e n d=>by rw[a b (Rt e)];exact u.free b o e n d
 there:=fun b o e d=>by obtain ⟨o',q⟩:=u.there b o e d;exact ⟨o',k b o' (Rt e) q⟩
 tups:=fun b xs e=>by rw[a b (lt b _ e)];exact u.tups b xs e
 frzs:=fun b o w e=>by rw[a b (lt b _ e)];exact u.frzs b o w e
 tbls:=fun b ps e=>by rw[a b (lt b _ e)];exact u.tbls b ps e
section
theorem Jr (O:Ok X F G sc N) (hu:fX N=true) (cf:uC sc N tg fv scope) :
 Ok (blk X (tg++fv.map (·.2)) s2 H1 scope C fp) F G (dY scope sc) (tg++fv.map (·.2)) where
 hsc:=by have:=O.hsc;subst this;rfl
 hN:=rfl
 nd:=cf.nd
 calm:=fun _=>O.calm hu
 hu:=O.hu
 own:=Vv
 glob:=O.glob
 call:=O.call
 meth:=O.meth
 mkc:=O.mkc
 blt:=O.blt
 lam:=O.lam
 lamx:=fun h=>absurd (show false=true from h "") (by decide)
theorem BY (e:BT.mU mu sr n (some fs) ec ee ws h=some z) (g:(BT.rds ws h).bind (BT.gC sr)=some ds) :
 xK sr ws/\∃ f',(∀ xs h r,f' xs h=some r->BT.eW ec ee fs xs h=some r/\rY ws ds r.2)/\rY ws ds h/\BT.bnd (BT.dU f' n ds h) (BT.gX mu)=some z:=by
 unfold BT.mU at e
 rw[g] at e
 simp only at e
 by_cases ca:BT.gY ws=true
 ·rw[if_pos ca] at e
  exact ⟨.inl ca,_,fun xs h r q=>⟨q,o4 ca⟩,o4 ca,e⟩
 ·rw[if_neg ca] at e
  have two:sr=.seq/\∃ q,ws=[.r q]:=by
   unfold BT.vI at e
   split at e
   ·exact ⟨rfl,_,rfl⟩
   ·exact cU e
  obtain ⟨rfl,q,rfl⟩:=two
  rw[BT.AK] at e
  have gl:BT.lat h q=some ds:=by
   simp only[BT.rds,BT.rd,UP] at g
   cases g1:BT.lat h q with
   | none=>rw[g1] at g;exact cU g
   | some xs=>rw[g1] at g;cases g;rfl
  refine ⟨.inr ⟨rfl,q,rfl⟩,_,fun xs h r q=>?_,fun q' e'=>by cases e';exact gl,e⟩
  unfold BT.chk at q
  cases g2:BT.eW ec ee fs xs h with
  | none=>rw[g2] at q;exact cU q
  | some r2 =>
   rw[g2] at q
   simp only at q
   split at q
   ·rename_i c
    cases q
    exact ⟨rfl,fun q' e'=>by cases e';exact c⟩
   ·exact cU q
inductive LI (X:Cx) (F:FT) (G:Str->Option BT.W) (scope:Sx) (tg:List Str) (fv:List (Nat×Str)) (cond:BT.Es) (elt:BT.E) (s2:Rm) (H1:Hp) (C:Rz) (fp:List Rz) (tn:Nat->Heap->Prop) (m1:List Rz) (ds outs:List BT.D) (fs:BT.Sl) (h2:BT.HH) (f':List BT.D->BT.HH->Option (Option BT.D×BT.HH)) (Cc:BT.HH->Prop) (n:Nat) (s:Rm):Prop where
 | mk (i:Nat) (σ':L2.St) (H':Hp) (m':List Rz) (hh:BT.HH) (out rest:List BT.D) (vs:List V) (us:List Rl) (nn:Nat) (sl:BT.Sl) (p0:i<=ds.length) (p1:n=ds.length - i) (p2:Inv (blk X (tg++fv.map (·.2)) s2 H1 scope C fp) [(s2.heap.objs.size,lobj us nn)] σ' H' s) (p3:tn i s.heap) (p4:(∀ b∈fp,H' b=none)) (p5:Ext m1 H1 m' H') (p6:RH X.K m' H' hh) (p7:RS X.prog X.w X.K m' H' σ' sl) (p8:sl.length=tg.length+fs.length) (p9:sl.drop tg.length=fs) (p10:c9 vs us) (p11:RDs X.K m' H' vs out) (p12:BT.dU f' tg.length (ds.drop i) hh=some (rest,h2)) (p13:out++rest=outs) (p14:Cc hh):LI X F G scope tg fv cond elt s2 H1 C fp tn m1 ds outs fs h2 f' Cc n s
structure Apart (X:Cx) (pins:List (Rz×Obj)) (H:Hp) (C:Rz):Prop where
 fr:H C=none
 lo:C≠X.env.locals
 ab:X.s₀.heap.objs.size<=C
 ce:∀ x c,X.env.cells.lookup x=some c->c≠C
 pi:∀ p∈X.pn++pins,p.1≠C
theorem qL (O:Ok X F G sc N) (hu:fX N=true) {cond:BT.Es}
 (hk:kL sc N tg fv scope=true) (ht:ur (dY scope sc) tg te=true) (hset:kJ iter=true) (hI:PI X te iter (iD X F G sr sa)) (hC:o9 F G (dY scope sc) (tg++fv.map (·.2)) cond ifs)
 (hE:∀ X',Ok X' F G (dY scope sc) (tg++fv.map (·.2))->PE X' elt' (tD X' F G elt)):∀ (pins:List (Rz×Obj)) (s:Rm) (σ:L2.St) (H:Hp) (Q:VK) (use:Option (Rl->Sem Unit)) (Q':Rl->Rm->Prop),Inv X pins σ H s->tD X F G (.comp mu sr sa tg fv cond elt) σ H Q →
 (∀ (s6:Rm) (H6:Hp) (C D:Rz) (m:Str->Option Rl),Inv X pins σ H6 s6->s6.heap.Ns C m->Apart X pins H6 C->Q (.ref D) H6->compPost (RX X.prog X.w) X.A X.xe use Q' (.ref D) C (.ok .next) s6) →
 wpAny (RX X.prog X.w) X.A (comprehension (.ListComp elt' [⟨te,iter,ifs,0⟩] scope pos) scope X.env (firstIterPos [⟨te,iter,ifs,0⟩] pos) (newList []) false (eval iter X.env) use) Q' X.xe s:=by
 have cf:=MJ hk
 obtain ⟨ct,tl,tloc⟩:=E4 (fs:=fv.map (·.2)) ht
 have t0:tg≠[]:=by
  rintro rfl
  simp[ur] at ht
 intro pins s σ H Q use Q' I q hfin
 obtain ⟨m,s',h,z,h',R,S,ee,post⟩:=q
 simp only[BT.ev] at ee
 obtain ⟨ws,h1,e1,e2⟩:=cY ee
 cases g1:(BT.rds ws h1).bind (BT.gC sr) with
 | none=>unfold BT.mU at e2;rw[g1] at e2;exact cU e2
 | some ds =>
  cases g2:BT.frees s' fv with
  | none=>unfold BT.mU at e2;rw[g1,g2] at e2;exact cU e2
  | some fs =>
   rw[g2] at e2
   obtain ⟨ca,f',hf',c1,e2⟩:=BY e2 g1
   obtain ⟨outs,h2,e3,e4⟩:=cY e2
   unfold BT.gX at e4
   by_cases cl:outs.length<=BT.lim
   case neg=>rw[if_neg cl] at e4;exact cU e4
   rw[if_pos cl] at e4
   have ez:BT.new mu outs h2=(z,h'):=Ry e4
   have hfree:BC.vW X.env.cells scope.names:=fun x hx e=>I.ok.has x.1 (.inl (by
    have:=cf.free x hx e
    show X.env.scope.names.lookup x.1=_
    rw[O.hsc];exact this))
   refine wpAny_comprehension_free (use:=use) rfl (xM hset) (BC.o6 hfree) cf.k1 cf.loc
    (thn (hI pins s σ H (fun J H1=>∃ m1,Ext m H m1 H1/\RH X.K m1 H1 h1/\qe X.K J m1 H1 ds (rY ws ds)) I ⟨m,s',h,ws,h1,ds,R,S,e1,g1,ca,fun H1 m1 J x1 R1 it=>⟨m1,x1,R1,it⟩⟩) fun v s1 hv=>thn hv fun itv s2 h2'=>?_)
   obtain ⟨it,fp,tn,J,H1,rfl,I1,T,st,hf,m1,x1,R1,ito⟩:=h2'
   have hlt:∀ b∈fp,b < s2.heap.objs.size:=fun b hb=>by
    obtain ⟨o,ho,_⟩:=T.obj 0 _ st b hb
    exact Rt ho
   refine Tc (wpAny_newFunctionEnv cf.cell (by intro y hy;simp at hy) (fun h3 hns hsb=>?_) cf.k1)
   dsimp only at hns hsb ⊢
   generalize hH2:s2.heap.push { cls:=.type "list",dict:=none,data:=.seq ([]:List Rl).toArray }=H2 at hns hsb ⊢
   have hCs:H2.objs.size=s2.heap.objs.size+1:=by rw[← hH2,Ui]
   have old:∀ b o,s2.heap.get? b=some o->h3.get? b=some o:=fun b o e=>hsb.extBut b o (by rw[hCs];exact RK (VI (Rt e))) (Rk _ (hH2 ▸ Rk _ e))
   have hacc:h3.get? s2.heap.objs.size=some (lobj [] 0):=hsb.extBut _ _ (by rw[hCs];exact RK (TY _)) (Rk _ (hH2 ▸ RB _ rfl))
   have I4:=E3 (tk:=s2.toks+([]:List (Str×Rl)).length) I1 O.hsc O.hN cf hCs hf hlt old hns hacc
   have O':=Jr (s2:=s2) (H1:=H1) (C:=H2.objs.size) (fp:=fp) O hu cf
   obtain ⟨g,hg1,hg2⟩:=sCT O' (O.calm hu) ct fun q hq=>.inr (by rw[O'.hsc];exact tloc q hq)
   have hfl:fs.length=fv.length:=(mL g2).1
   have stat:∀ {H':Hp}{o:Obj},(∀ b∈fp,H' b=none)->∀ b∈fp,pU (blk X (tg++fv.map (·.2)) s2 H1 scope H2.objs.size fp) [(s2.heap.objs.size,o)] H' b:=fun {H' o} hn b hb=>by
    refine ⟨hn b hb,?_,?_,.inl hb,fun x c e=>(hf b hb).2.2.2.2.1 x c (mY e),fun p hp=>?_⟩
    ·show b≠H2.objs.size
     rw[hCs];exact RK (VI (hlt b hb))
    ·intro zz
     rcases List.mem_cons.mp (I1.nS b zz) with e | e
     ·exact (hf b hb).2.1 e
     ·exact (hf b hb).2.2.1 e
    ·have hp':p=(s2.heap.objs.size,o):=by
      have:p∈[]++[(s2.heap.objs.size,o)]:=hp
      simpa using this
     rw[hp']
     show s2.heap.objs.size≠b
     exact TL (hlt b hb)
   have loop:∀ s4:Rm,s4={ s2 with heap:=h3,toks:=s2.toks+([]:List (Str×Rl)).length } →
    codeAny (RX X.prog X.w) X.A (.compLoop (.ListComp elt' [⟨te,iter,ifs,0⟩] scope pos) 0 (.ref it) (.ref s2.heap.objs.size) (Xe scope (BC.fJ X.env.cells scope.names []) H2.objs.size X.env))
     (compPost (RX X.prog X.w) X.A X.xe use Q' (.ref s2.heap.objs.size) H2.objs.size) s4:=by
    rintro s4 rfl
    refine BC.zB (LI X F G scope tg fv cond elt s2 H1 H2.objs.size fp tn m1 ds outs fs h2 f' (rY ws ds)) ?_
     ds.length ⟨0,_,H1,m1,h1,[],outs,[],[],0,_,Sz _,rfl,I4,T.keep 0 _ _ st (fun b hb o e=>old b o e),fun b hb=>(hf b hb).1,.refl _ _,R1,zC (S.ext x1) g2,by simp,by simp,.nil,.nil,by rw[List.drop_zero];exact e3,rfl,c1⟩
    rintro n s5 ⟨i,σ5,H5,m5,hh,out,rest,vs,us,nn,sl,hi,rfl,I5,st5,fr5,x5,R5,S5,sl1,sl2,rv5,rd5,go5,ou5,cc5⟩
    by_cases c:i < ds.length
    ·rw[We c] at go5
     obtain ⟨xs,o,hA,rest',eT,eF,eG,eR⟩:=E6 go5
     obtain ⟨eF,cA⟩:=hf' _ _ _ eF
     refine thn (T.item (blk X (tg++fv.map (·.2)) s2 H1 scope H2.objs.size fp) rfl rfl rfl (O.calm hu) i _ s5 σ5 H5 _ I5 (stat fr5) st5 (ito.go m5 H5 hh i x5 R5 cc5 c)) fun r s6 hr=>?_
     obtain ⟨u,rfl,hr⟩:=hr
     refine thn hr fun _ s7 zq=>?_
     obtain ⟨x,H7,I7,r7,y7,st7,fr7⟩:=zq
     obtain ⟨x7,k7,rd7⟩:=ito.yld m5 H5 hh i x H7 ds[i] x5 R5 cc5 (Rv c) y7
     have R7:=R5.ext x7 k7
     have I7':=I7.pinned (stat fr7) (T.obj _ _ st7)
     obtain ⟨sq1,sq2,sq3⟩:=E5 tl t0 eT sl1 sl2
     refine thn (hg1 _ s7 σ5 H7 x u (fun σ8 H8=>H8=H7/\RS X.prog X.w X.K m5 H7 σ8 (xs.map BT.eV++fs)) I7' r7 (hg2 m5 H7 σ5 sl x ds[i] xs _ (S5.ext x7) rd7 (by rw[tl];exact eT) fun σ8 S8=>⟨rfl,by rw[← sq1];exact S8⟩)) fun _ s8 h8=>?_
     obtain ⟨σ8,H8,I8,rfl,S8⟩:=h8
     have kept:∀ {s9:Rm}{σ9:L2.St}{H9:Hp},Inv (blk X (tg++fv.map (·.2)) s2 H1 scope H2.objs.size fp) ([(s2.heap.objs.size,lobj us nn)]++lW fp s7.heap) σ9 H9 s9->tn (i+1) s9.heap/\∀ b∈fp,H9 b=none:=fun {s9 σ9 H9} I9=>by
      refine ⟨T.keep _ _ _ st7 fun b hb o e=>(I9.pin (b,o) (Sa _ (Sa _ (jd hb e)))).1,fun b hb=>?_⟩
      obtain ⟨o,e,_⟩:=T.obj _ _ st7 b hb
      exact (I9.pin (b,o) (Sa _ (Sa _ (jd hb e)))).2.1
     have elem:∀ {s9:Rm}{H9:Hp}{m9:List Rz}{h9:BT.HH}{w:BT.W}{hB:BT.HH}{d:BT.D},Inv (blk X (tg++fv.map (·.2)) s2 H1 scope H2.objs.size fp) ([(s2.heap.objs.size,lobj us nn)]++lW fp s7.heap) σ8 H9 s9->Ext m5 H8 m9 H9->RH X.K m9 H9 h9 →
      BT.ev F G elt (xs.map BT.eV++fs) h9=some (w,hB)->BT.qa w hB=some (some d,hA)->o=some d →
      wpAny (RX X.prog X.w) X.A (eval elt' (Xe scope (BC.fJ X.env.cells scope.names []) H2.objs.size X.env)) (fun x s₄ =>
       wpAny (RX X.prog X.w) X.A (call (.builtin "list.append") [.ref s2.heap.objs.size,x]) (fun _ s₅=>∃ m,m < ds.length - i/\LI X F G scope tg fv cond elt s2 H1 H2.objs.size fp tn m1 ds outs fs h2 f' (rY ws ds) m s₅) (fun _ _=>False) s₄) (fun _ _=>False) s9:=by
      intro s9 H9 m9 h9 w hB d I9 x9 R9 eE eK eO
      have ew:w=.p d/\hB=hA:=by
       unfold BT.qa at eK
       cases w with
       | p d'=>cases eK;exact ⟨rfl,rfl⟩
       | r _=>exact cU eK
       | k _=>exact cU eK
       | c _ _=>exact cU eK
       | x _=>exact cU eK
       | o _=>exact cU eK
      obtain ⟨rfl,rfl⟩:=ew
      refine thn (hE _ O' _ s9 σ8 H9 (fun v Ha=>∃ ma,Ext m9 H9 ma Ha/\RH X.K ma Ha hB/\RD X.K ma Ha v d) I9 ⟨m9,_,h9,_,hB,R9,S8.ext x9,eE,fun v Ha ma xa Ra ra=>by
       cases ra with | p ra=>exact ⟨ma,xa,Ra,ra⟩⟩) fun u10 s10 ⟨v10,H10,I10,r10,m10,x10,R10,rd10⟩=>?_
      obtain ⟨pD,nD,neD,nfD,_⟩:=I10.pin (s2.heap.objs.size,lobj us nn) (by simp)
      have lus:=rv5.length
      have lvs:=rd5.length
      have lou:out.length<=outs.length:=by rw[← ou5];simp
      have lle:=fG
      have cl':outs.length<=BT.lim:=cl
      refine wpAny_list_append_plain ⟨nn,pD⟩ (fun h11 hp11 sb11=>?_) (by rw[Rp];lia)
      obtain ⟨nn',hp11⟩:=hp11
      have hp11:h11.get? s2.heap.objs.size=some (lobj (us++[u10]) nn'):=by rw[hp11];simp[lobj]
      have sb11:T7 s2.heap.objs.size s10.heap h11:=sb11
      obtain ⟨st10,fr10⟩:=kept I10
      have I11:Inv (blk X (tg++fv.map (·.2)) s2 H1 scope H2.objs.size fp) [] σ8 H10 { s10 with heap:=h11 } :=
       Inv.turned (t':=s10.toks) (I10.nB (fun p hp=>by cases hp)) (fun b o hb e=>(sb11.2 b hb).trans e) nD neD (.inr (Rr _)) (fun x c e zz=>by
        obtain ⟨v,o,ho,_⟩:=I1.cell x c (mY e)
        have:=Rt ho
        rw[zz] at this
        exact absurd this (SS _)) fun p hp=>by cases hp
      have I12:Inv (blk X (tg++fv.map (·.2)) s2 H1 scope H2.objs.size fp) [(s2.heap.objs.size,lobj (us++[u10]) nn')] σ8 H10 { s10 with heap:=h11 }:=I11.nB fun p hp=>by
       simp only[List.mem_singleton] at hp
       subst hp
       exact ⟨hp11,nD,neD,nfD,fun v zz=>by cases (show Data.seq _ _=Data.cell v from zz)⟩
      have xt:Ext m5 H5 m10 H10:=(x7.trans x9).trans x10
      refine ⟨ds.length - (i+1),by lia,i+1,σ8,H10,m10,hB,out++[d],rest',vs++[v10],us++[u10],nn',_,c,rfl,I12,?_,fr10,x5.trans xt,R10,(S8.ext x9).ext x10,sq2,sq3,rv5.append (.cons r10 .nil),(rd5.ext xt).append (.cons rd10 .nil),eG,?_,cA⟩
      ·refine T.keep _ _ _ st10 fun b hb o' e=>(sb11.2 b ?_).trans e
       exact RK (hlt b hb)
      ·rw[← ou5,eR,eO,SG];rfl
     unfold BT.eW at eF
     obtain ⟨cs,hc,eC,eK⟩:=cY eF
     rcases hC with ⟨rfl,rfl⟩ | ⟨cc,cc',rfl,rfl,hCC⟩
     ·simp only[BT.evs] at eC
      cases eC
      have eK:=(show BT.bnd _ BT.qa=_ from eK)
      obtain ⟨w,hB,eE,eL⟩:=cY eK
      refine wpAny_tests_nil ?_
      rw[if_pos rfl]
      have:∃ d,o=some d:=by
       unfold BT.qa at eL
       cases w with
       | p d'=>cases eL;exact ⟨_,rfl⟩
       | r _=>exact cU eL
       | k _=>exact cU eL
       | c _ _=>exact cU eL
       | x _=>exact cU eL
       | o _=>exact cU eL
      obtain ⟨d,rfl⟩:=this
      exact elem I8 (.refl _ _) R7 eE eL rfl
     ·simp only[BT.evs] at eC
      obtain ⟨wc,hc2,eC1,eC2⟩:=cY eC
      simp only[BT.ly,BT.dW,BT.jH] at eC2
      cases eC2
      have hb:∃ b,wc=.p (.bl b):=by
       cases wc with
       | p d =>
        cases d<;>first | exact ⟨_,rfl⟩ | exact cU eK
       | r _=>exact cU eK
       | k _=>exact cU eK
       | c _ _=>exact cU eK
       | x _=>exact cU eK
       | o _=>exact cU eK
      obtain ⟨b,rfl⟩:=hb
      refine wpAny_tests_one (thn (hCC _ O' _ s8 σ8 H8 (fun b' Ha=>b'=b/\∃ ma,Ext m5 H8 ma Ha/\RH X.K ma Ha hc) I8 ⟨m5,_,hh,b,hc,R7,S8,eC1,fun Ha ma xa Ra=>⟨rfl,ma,xa,Ra⟩⟩) fun b' s9 zq=>?_)
      obtain ⟨H9,I9,hbb,m9,x9,R9⟩:=zq
      subst hbb
      cases b' with
      | false =>
       have eK:=(show some ((none:Option BT.D),hc)=some _ from eK)
       cases eK
       rw[if_neg (by decide)]
       obtain ⟨st9,fr9⟩:=kept I9
       have xt:Ext m5 H5 m9 H9:=x7.trans x9
       refine ⟨ds.length - (i+1),by lia,i+1,σ8,H9,m9,hA,out,rest',vs,us,nn,_,c,rfl,I9.kW,st9,fr9,x5.trans xt,R9,S8.ext x9,sq2,sq3,rv5,rd5.ext xt,eG,?_,cA⟩
       rw[← ou5,eR]
      | true =>
       have eK:=(show BT.bnd _ BT.qa=_ from eK)
       rw[if_pos rfl]
       obtain ⟨w,hB,eE,eL⟩:=cY eK
       have:∃ d,o=some d:=by
        unfold BT.qa at eL
        cases w with
        | p d'=>cases eL;exact ⟨_,rfl⟩
        | r _=>exact cU eL
        | k _=>exact cU eL
        | c _ _=>exact cU eL
        | x _=>exact cU eL
        | o _=>exact cU eL
       obtain ⟨d,rfl⟩:=this
       exact elem I9 x9 R9 eE eL rfl
    ·have ei:i=ds.length:=by lia
     subst ei
     rw[List.drop_length,BT.dU] at go5
     cases go5
     rw[Sy] at ou5
     subst ou5
     refine thn (T.done (blk X (tg++fv.map (·.2)) s2 H1 scope H2.objs.size fp) rfl rfl rfl (O.calm hu) _ _ s5 σ5 H5 _ I5 (stat fr5) st5 (ito.stop m5 H5 _ x5 R5 cc5)) fun r s6 zq=>?_
     obtain ⟨hr,I6⟩:=zq
     subst hr
     obtain ⟨mm,hmm,_⟩:=I6.loc
     obtain ⟨pD,nD,neD,nfD,_⟩:=I6.pin (s2.heap.objs.size,lobj us nn) (by simp)
     have neD:s2.heap.objs.size≠H2.objs.size:=neD
     have hos:s6.os=s2.os:=I6.os
     have lus:=rv5.length
     have lvs:=rd5.length
     have lle:=fG
     have cl':out.length<=BT.lim:=cl
     have hok:HOk X.prog X.w (upd H5 s2.heap.objs.size (.lst vs)) s6.heap:=fun b u e=>by
      by_cases eb:b=s2.heap.objs.size
      ·subst eb
       rw[dz] at e
       cases e
       exact ⟨by lia,us,nn,rv5,pD⟩
      ·rw[c6 eb] at e
       refine (I6.hok b u e).stay (fun c v hc q=>q) (fun c q=>?_) fun c l q=>?_
       ·rw[c6 (fun zz=>by rw[zz,nD] at q;exact cU q)];exact q
       ·rw[c6 (fun zz=>by rw[zz,nD] at q;exact cU q)];exact q
     have u7:Un (frs X.stack) fp H1 (upd H5 s2.heap.objs.size (.lst vs)) s2.heap s6.heap:=Un.behind (h1:=s6.heap) I6.base (fun b hb=>c6 (RK hb)) (fun b o e=>I1.hok.lt e) fun b o hb e=>e
     have I7:=I1.call (g':=s6.gens) (t':=s6.toks) (d':=s6.drawn) (ch:=fp) u7 hok I6.bare fun b hb=>⟨(hf b hb).2.2.2.1,(hf b hb).2.1,(hf b hb).2.2.2.2.1,(hf b hb).2.2.2.2.2⟩
     have fr6:H5 H2.objs.size=none:=I6.free
     have ltC:s2.heap.objs.size < H2.objs.size:=by rw[hCs];exact TY _
     have ap:Apart X pins (upd H5 s2.heap.objs.size (.lst vs)) H2.objs.size:=by
      refine ⟨by rw[c6 (SH neD)];exact fr6,?_,?_,fun x c e zz=>?_,fun p hp zz=>?_⟩
      ·exact TL (Uk I1.lt ltC)
      ·exact Sq I1.sz (SV ltC)
      ·obtain ⟨v,o,ho,_⟩:=I1.cell x c e
       have l:=Rt ho
       rw[zz] at l
       exact absurd (Uk l ltC) (SS _)
      ·have l:=Rt (I1.pin p hp).1
       rw[zz] at l
       exact absurd (Uk l ltC) (SS _)
     refine hfin s6 _ _ _ mm ?_ hmm ap (nI (mu:=mu) R5 nD rd5 (by rw[ez];exact fun v' H' m' xx RR rr=>post v' H' m' ((x1.trans x5).trans xx) RR rr))
     obtain ⟨hp6,g6,d6,t6,os6⟩:=s6
     have hos:os6=s2.os:=hos
     subst hos
     exact I7
   exact codeAny_compStart_list (loop _ rfl) (T.self _ 0 _ _ _ (T.keep 0 _ _ st (fun b hb o e=>old b o e)) (loop _ rfl))
theorem E7 (O:Ok X F G sc N) (hu:fX N=true) {cond:BT.Es}
 (hk:kL sc N tg fv scope=true) (ht:ur (dY scope sc) tg te=true) (hset:kJ iter=true) (hI:PI X te iter (iD X F G sr sa)) (hC:o9 F G (dY scope sc) (tg++fv.map (·.2)) cond ifs)
 (hE:∀ X',Ok X' F G (dY scope sc) (tg++fv.map (·.2))->PE X' elt' (tD X' F G elt)):PE X (.ListComp elt' [⟨te,iter,ifs,0⟩] scope pos) (tD X F G (.comp mu sr sa tg fv cond elt)):=by
 intro pins s σ H Q I q
 rw[eval_ListComp]
 refine qL O hu hk ht hset hI hC hE pins s σ H Q none _ I q fun s6 H6 C D m I6 hn ap hq=>?_
 refine ⟨m,hn,fun h7 sb7=>?_⟩
 have sb7:T7 C s6.heap h7:=sb7
 exact ⟨.ref D,H6,Inv.turned (t':=s6.toks) I6 (fun b o hb e=>(sb7.2 b hb).trans e) ap.fr ap.lo (.inr ap.ab) ap.ce ap.pi,rfl,hq⟩
theorem E8 (O:Ok X F G sc N) (hu:fX N=true) {cond:BT.Es}
 (hk:kL sc N tg fv scope=true) (ht:ur (dY scope sc) tg te=true) (hset:kJ iter=true) (hI:PI X te iter (iD X F G sr sa)) (hC:o9 F G (dY scope sc) (tg++fv.map (·.2)) cond ifs)
 (hE:∀ X',Ok X' F G (dY scope sc) (tg++fv.map (·.2))->PE X' elt' (tD X' F G elt)) (hy:N[i]?=some y) (hl:sc.names.lookup y=some .local)
 (hsw:Uy (.ListComp elt' [⟨te,iter,ifs,0⟩] scope pos) (some (.Name y py)) spos.line X.env=pure true) :
 PS X (.Assign [.Name y py] (.ListComp elt' [⟨te,iter,ifs,0⟩] scope pos) spos) (yx (tD X F G (.comp mu sr sa tg fv cond elt)) (wL i)):=by
 intro pins s σ H D I q
 rw[exec_Assign_Name_used _ _ _ _ hsw]
 refine Ro (VM (Ro ?_))
 show wpAny _ X.A (do let _ ← comprehension (.ListComp elt' [⟨te,iter,ifs,0⟩] scope pos) scope X.env _ (newList []) false (eval iter X.env) (some (V8 (.Name y py) X.env))) _ _ s
 refine Ro (thn (qL O hu hk ht hset hI hC hE pins s σ H _ (some (V8 (.Name y py) X.env)) (fun _ s'=>SP X pins D .next s') I q fun s6 H6 C D' m I6 hn ap hq=>?_) fun _ s' hq=>wpAny_pure (wpAny_pure hq))
 show wpAny _ X.A (V8 (.Name y py) X.env (.ref D')) _ _ _
 refine wpAny_assign_Name (qu I6 O.nd (by rw[O.hN];exact hy) (.inl (by rw[O.hsc];exact hl)) (v:=.ref D') rfl (fun s7 I7 hs=>?_) (.inr (by rw[O.hsc];exact hl)))
 obtain ⟨a,sb,ha⟩:=hs
 have neC:C≠a:=by
  rcases ha with rfl | ha
  ·exact ap.lo
  ·exact fun z=>ap.ce y a ha z.symm
 refine ⟨m,hn.sameBut sb neC,fun h8 sb8=>?_⟩
 have sb8:T7 C s7.heap h8:=sb8
 exact ⟨_,H6,Inv.turned (t':=s7.toks) I7 (fun b o hb e=>(sb8.2 b hb).trans e) ap.fr ap.lo (.inr ap.ab) ap.ce ap.pi,hq⟩
end
section
variable {E:Rl->Rm->Prop}
end
section
end
end BS
end
section
namespace L2
open PySem PySem.Spec PyProof.Rows
noncomputable def Itdn (lo:Int) (n:Nat):It:=⟨fun i _=>i < n,fun i H x H'=>H'=H/\x=.int (lo - i),fun i _=>n<=i⟩
theorem uE {P:RG}{w:Sb}{K:Rj}{tg:Uq} (it:Rz) (lo:Int) (n:Nat):Turn P w K tg (Itdn lo n) [it] it (fun i h=>WD h it (lo+(i:Nat)*(-1)) ((n:Int) - (i:Nat)) (-1)) where
 mem:=by simp
 obj:=fun i h st b hb=>by
  have e:b=it:=by simpa using hb
  subst e
  exact ⟨_,st,fun v z=>by
   have z':Data.fields _=Data.cell v:=z
   cases z'⟩
 keep:=fun i h h' st k=>k it (by simp) _ st
 item:=by
  intro X hP hw hK hc i pins s σ H E I hf st hg
  subst hP hw hK
  obtain ⟨f0,f1,f2,f3,f4,f5⟩:=hf it (by simp)
  have W:=Walks.range (prog:=X.prog) (w:=X.w) (I.ok.hd hc) it lo (-1) n
  refine W.item i s _ _ hg st fun v h' tk hv st' kk=>?_
  obtain ⟨t,rfl⟩:=hv
  have I1:Inv X pins σ H { s with heap:=h',toks:=tk }:=I.turned (fun b o hb e=>kk b o (by simpa using hb) e) f0 f1 f3 f4 f5
  refine ⟨_,rfl,qv (s:={ s with heap:=h',toks:=tk }) (n:="range_iterator") st' rfl rfl (by decide) ⟨.int (lo - i),H,I1,⟨t,?_⟩,⟨rfl,rfl⟩,st',fun b hb=>(hf b hb).1⟩⟩
  rw[show lo+(i:Int)*-1=lo - (i:Int) by lia]
 done:=by
  intro X hP hw hK hc i pins s σ H E I hf st hg
  subst hP hw hK
  obtain ⟨f0,f1,f2,f3,f4,f5⟩:=hf it (by simp)
  exact wpAny_pyNext_range_end (I.ok.hd hc) st (by have:n<=i:=hg;lia) fun h' eb=>⟨rfl,I.turned (t':=s.toks) (fun b o hb e=>eb b o hb e) f0 f1 f3 f4 f5⟩
 self:=fun _ _ _ _ _ st h=>wpAny_pyIter_rangeiter st h
section
variable {X:Cx}{tg:Uq}
theorem zD {pins:List (Rz×Obj)}{σ:St}{H:Hp}{s:Rm}{R:It->Hp->Prop}{E:Rl->Rm->Prop}{lo hi:Int}{t u v:Tok}{tk:Nat} (I:Inv X pins σ H s) (h1:-(2 ^ 62)<=lo) (h2:lo < 2 ^ 62) (h3:-(2 ^ 62)<=hi) (h4:hi < 2 ^ 62)
 (q:R (Itdn lo (lo - hi).toNat) H):wpAny (RX X.prog X.w) X.A (pyIter (.ref s.heap.objs.size)) (PIE X pins σ tg R) E { s with heap:=s.heap.push { cls:=.type "range",data:=.fields #[.int lo t,.int hi u,.int (-1) v] },toks:=tk }:=by
 refine wpAny_pyIter_range (WE ..) (PySem.W.small_down h1 h2 h3 h4) ?_
 have I1:Inv X pins σ H { s with heap:=s.heap.push { cls:=.type "range",data:=.fields #[.int lo t,.int hi u,.int (-1) v] },toks:=tk }:=I.kept fun b o e=>Rk _ e
 refine ⟨(s.heap.push { cls:=.type "range",data:=.fields #[.int lo t,.int hi u,.int (-1) v] }).objs.size,[(s.heap.push { cls:=.type "range",data:=.fields #[.int lo t,.int hi u,.int (-1) v] }).objs.size],_,_,H,rfl,
  I1.kept (t':=tk) fun b o e=>Rk _ e,uE _ lo (lo - hi).toNat,?_,fun b hb=>?_,q⟩
 ·have e1:lo+((0:Nat):Int)*(-1)=lo:=by simp
  have e2:(((lo - hi).toNat:Nat):Int) - ((0:Nat):Int)=Vy lo hi (-1):=by rw[PySem.W.rangeSize_downNat];simp
  show WD _ _ (lo+((0:Nat):Int)*(-1)) ((((lo - hi).toNat:Nat):Int) - ((0:Nat):Int)) (-1)
  rw[e1,e2]
  exact RB _ rfl
 ·have e:b=(s.heap.push { cls:=.type "range",data:=.fields #[.int lo t,.int hi u,.int (-1) v] }).objs.size:=by simpa using hb
  subst e
  exact I1.vd (Rr _) (I1.hok.fresh (Rr _))
end
end L2
namespace BS
open PySem PySem.Spec PyProof.Rows L2
section
variable {F:FT}{G:Str->Option BT.W}
theorem E9 {C:BT.HH->Prop}{K:Rj}{m0:List Rz}{H0:Hp} (lo:Int) (n:Nat):qe K (Itdn lo n) m0 H0 (BT.down lo n) C:=by
 have hl:(BT.down lo n).length=n:=by simp[BT.down]
 refine ⟨fun m H hh i x _ _ hi=>by rw[hl] at hi;exact hi,fun m H hh i v H' d x RR _ hd y=>?_,fun m H _ x _ _=>by rw[hl];exact Rr n⟩
 obtain ⟨rfl,rfl⟩:=y
 have hi:i < n:=by
  have:=getD_some hd
  rw[hl] at this
  exact this
 have:d=.int (lo - i):=by
  unfold BT.down at hd
  rw[RY,T3 hi] at hd
  exact (Ry hd).symm
 subst this
 exact ⟨.refl _ _,fun _ _ e=>e,.int _⟩
theorem BZ {X:Cx}{sc:Sx}{N:List Str} (O:Ok X F G sc N) {tg x y z:Rq}{sa:BT.Es}{p pos:Pos} (hg:dM sc "range"=true) (hs:noStar x=true) (hs2:noStar y=true) (hs3:noStar z=true) (hA:PA X [x,y,z] (tDs X F G sa)):PI X tg (.Call (.Name "range" p) [x,y,z] [] pos) (iD X F G .rng3 sa):=by
 intro pins s σ H R I q
 obtain ⟨m,s',h,ws,h',ds,RR,S,e,e2,ha,post⟩:=q
 obtain ⟨xs,rfl⟩:=rZ (ha.p (fun z=>by cases z))
 rw[vS,S7] at e2
 have hx:∃ i j c:Int,xs=[.int i,.int j,.int c]:=by
  match xs,e2 with
  | [.int i,.int j,.int c],_=>exact ⟨i,j,c,rfl⟩
 obtain ⟨i,j,c,rfl⟩:=hx
 rw[BT.qE] at e2
 obtain ⟨⟨rfl,c1,c2,c3,c4⟩,e3⟩:=dj e2
 subst e3
 refine Call_ (gS (u:=.type "range") I (dR O hg) (O.blt _ (by decide)) (by decide +kernel) (Sf (thn (hA pos pins s σ H (fun vs H1=>vs=[.int i,.int j,.int (-1)]/\R (Itdn i (i - j).toNat) H1) I ⟨m,s',h,_,h',RR,S,e,fun vs H1 m1 x1 R1 r1=>?_⟩) fun us s1 ⟨vs,H1,I1,r1,q1⟩=>?_) (cX hs) (dD (by simp[c5,hs2,hs3]))))
 ·cases r1 with
  | cons r t =>
   cases t with
   | cons r2 t2 =>
    cases t2 with
    | cons r3 t3 =>
     cases t3
     cases r with
     | p r =>
      cases r2 with
      | p r2 =>
       cases r3 with
       | p r3 =>
        cases r;cases r2;cases r3
        exact ⟨rfl,post H1 m1 _ x1 R1 (E9 i (i - j).toNat)⟩
 ·obtain ⟨rfl,q1⟩:=q1
  obtain ⟨u,u2,u3,rfl,eu,eu2,eu3⟩:∃ u u2 u3,us=[u,u2,u3]/\RelV (.int i) u/\RelV (.int j) u2/\RelV (.int (-1)) u3:=by
   cases r1 with
   | cons q t=>obtain ⟨u2,u3,rfl,k1,k2⟩:=vals2 t;exact ⟨_,_,_,rfl,q,k1,k2⟩
  obtain ⟨t,rfl⟩:=eu
  obtain ⟨t2,rfl⟩:=eu2
  obtain ⟨t3,rfl⟩:=eu3
  exact call_range_3 (by decide) (zD I1 (by lia) (by lia) (by lia) (by lia) q1) (.inl (Wc (by lia)))
end
end BS
end
section
namespace BS
open PySem PySem.Spec PyProof.Rows L2
section
variable {E:Rl->Rm->Prop}
end
section
variable {prog:RG}{w:Sb}{A:Sw}{s:Rm}{R:Wa->Rm->Prop}{xs ys:Array Rl}{z TI TO i1 i2 l1 l2 S:Rz}
end
section
variable {prog:RG}{w:Sb}{A:Sw}{E:Rl->Rm->Prop}{s:Rm}{R:Wa->Rm->Prop}{xs ys:Array Rl}{z TI TO i1 i2 l1 l2 S:Rz}
end
section
variable {E:Rl->Rm->Prop}
end
section
end
section
theorem zE {X:Cx}{v:V}{ds:List BT.D} (r:∀ m H,RW X.prog X.w X.K m H v (.p (.tup ds))):∃ a vs,v=.ref a/\KT X.K a vs:=by
 have z:=r [] (fun _=>none)
 cases z with
 | p z =>
  cases z with
  | @tup a vs _ h _ =>
   rcases h with ⟨h,_⟩ | h
   ·rcases h with h | ⟨o,h⟩<;>exact cU h
   ·exact ⟨a,vs,rfl,h⟩
theorem zF {X:Cx}{sc:Sx}{N:List Str} (O:Ok X F G sc N) {x:Str}{as:BT.Es}{es:List Rq}{np apos cpos:Pos} (h2:dM sc x=true) (h3:fy x=true) (hl:(apos.endLine==cpos.line)=true) (hlen:es.length < 20) (hc:CEs sc N as es) (ha:PA X es (tDs X F G as)) :
 PE X (.Call (.Attribute (.Name x np) "index" apos) es [] cpos) (tD X F G (.me .tindex (.glo x) as)):=by
 have hst:=gQ hc
 intro pins s σ H Q I q
 obtain ⟨m,s',h,z,h',R,S,ee,post⟩:=q
 simp only[BT.ev] at ee
 obtain ⟨w,g,e1,e2⟩:=cY ee
 obtain ⟨_,e2⟩:=xy e2
 obtain ⟨ws,g2,e3,e4⟩:=cY e2
 obtain ⟨w',e5,e6⟩:=dh e1
 cases e6
 obtain ⟨u,v0,hm,rv,rw0⟩:=O.glob _ _ e5
 have hT:∃ ds xs,BT.dG ws=some ds/\w=.p (.tup xs)/\ds≠[]:=by
  cases w with
  | r n=>cases ws<;>(first | exact cU e4 | simp[BT.meW] at e4)
  | k q=>cases ws<;>(first | exact cU e4 | simp[BT.meW] at e4)
  | c _ _=>cases ws<;>(first | exact cU e4 | simp[BT.meW] at e4)
  | x _=>cases ws<;>(first | exact cU e4 | simp[BT.meW] at e4)
  | o q=>cases ws<;>(first | exact cU e4 | simp[BT.meW] at e4)
  | p d =>
   rw[BT.oj] at e4
   cases gp:BT.dG ws with
   | none=>rw[gp] at e4;exact cU e4
   | some ds =>
    rw[gp] at e4
    obtain ⟨b,e7,e8⟩:=dh e4
    cases d with
    | tup xs=>refine ⟨ds,xs,rfl,rfl,fun z=>?_⟩;subst z;exact cU e7
    | _=>cases ds<;>exact cU e7
 obtain ⟨ds,xs,gp,rfl,hne⟩:=hT
 obtain ⟨a,vt,rfl,o,its,n,⟨k1,k2,k3,k4,k5⟩,k6⟩:=zE rw0
 cases es with
 | nil =>
  cases as with
  | cons a r=>exact (oV hc).elim
  | nil=>simp only[BT.evs] at e3;cases e3;simp[BT.dG] at gp;exact absurd gp hne
 | cons e es =>
  simp only[c5,Rn] at hst
  have h30:decide ((e :: es).length+([]:List Vn).length+(if ([]:List Vn).isEmpty then 0 else 1) < 30)=true:=decide_eq_true (by
   simp only[RO,Tw,List.isEmpty_nil,if_true] at hlen ⊢;lia)
  refine (AB PySem.F.plainAttrs_tuple PySem.F.slot_tuple_index PySem.F.type_tuple_index (zm O.hu) (wJ (dR O h2) hm rv (gx h3).1) ha rfl (by
   rw[jP (es:=e :: es) (by simp only[c5,Rn];exact hst),h30];rfl) hl (cX hst.1) (dD hst.2)) pins s σ H Q I ?_
  refine ⟨.inr (.inl ⟨rfl,o,k1,k2,k6⟩),m,s',h,ws,g2,R,S,e3,fun vs H2 m2 x2 R2 r2=>?_⟩
  exact ⟨m2,g2,.p (.tup xs),ws,z,h',R2,rw0 m2 H2,r2,e4,fun v5 H5 m5 x5 R5 r5=>post v5 H5 m5 (x2.trans x5) R5 r5⟩
theorem Js {X:Cx}{me:BT.Me} (hm:me=.append\/me=.pop\/me=.extend) {o:BT.E}:∀ (m:List Rz) (h h2:BT.HH) (H:Hp) (v:V) (x:BT.W) ws r,RH X.K m H h->RW X.prog X.w X.K m H v x->BT.pZ x h=true->BT.meW me x ws h2=some r->(∃ σ s,RS X.prog X.w X.K m H σ s/\∃ h0,BT.ev F G o s h0=some (x,h))->tyV X.K "list" v H:=by
 intro m h h2 H v x ws r R rq ok e _
 obtain ⟨n,rfl⟩:=PY hm e
 exact ty_list R rq ok
theorem P1 {X:Cx}{o:BT.E}:∀ (m:List Rz) (h h2:BT.HH) (H:Hp) (v:V) (x:BT.W) ws r,RH X.K m H h->RW X.prog X.w X.K m H v x->BT.pZ x h=true->BT.meW .sindex x ws h2=some r->(∃ σ s,RS X.prog X.w X.K m H σ s/\∃ h0,BT.ev F G o s h0=some (x,h))->tyV X.K "str" v H:=by
 intro m h h2 H v x ws r R rq _ e _
 cases x with
 | r n=>cases ws<;>(first | exact cU e | simp[BT.meW] at e)
 | k q=>cases ws<;>(first | exact cU e | simp[BT.meW] at e)
 | c _ _=>cases ws<;>(first | exact cU e | simp[BT.meW] at e)
 | x _=>cases ws<;>(first | exact cU e | simp[BT.meW] at e)
 | o q=>cases ws<;>(first | exact cU e | simp[BT.meW] at e)
 | p d =>
  rw[BT.om] at e
  cases g:BT.dG ws with
  | none=>rw[g] at e;exact cU e
  | some ds =>
   rw[g] at e
   obtain ⟨b,e7,e8⟩:=dh e
   cases d with
   | str y=>cases rq with | p r=>cases r;exact rfl
   | _=>cases ds<;>exact cU e7
theorem MK {X:Cx}{me:BT.Me} (hm:me=.count\/me=.lindex) {o:BT.E}:∀ (m:List Rz) (h h2:BT.HH) (H:Hp) (v:V) (x:BT.W) ws r,RH X.K m H h->RW X.prog X.w X.K m H v x->BT.pZ x h=true->BT.meW me x ws h2=some r->(∃ σ s,RS X.prog X.w X.K m H σ s/\∃ h0,BT.ev F G o s h0=some (x,h))->tyV X.K "list" v H:=by
 intro m h h2 H v x ws r R rq _ e _
 have key:∃ xs,x=.p (.lst xs):=by
  cases x with
  | r n=>rcases hm with rfl | rfl<;>cases ws<;>(first | exact cU e | simp[BT.meW] at e)
  | k q=>rcases hm with rfl | rfl<;>cases ws<;>(first | exact cU e | simp[BT.meW] at e)
  | c _ _=>rcases hm with rfl | rfl<;>cases ws<;>(first | exact cU e | simp[BT.meW] at e)
  | x _=>rcases hm with rfl | rfl<;>cases ws<;>(first | exact cU e | simp[BT.meW] at e)
  | o q=>rcases hm with rfl | rfl<;>cases ws<;>(first | exact cU e | simp[BT.meW] at e)
  | p d =>
   rw[uv] at e
   cases g:BT.dG ws with
   | none=>rw[g] at e;exact cU e
   | some ds =>
    rw[g] at e
    obtain ⟨b,e7,e8⟩:=dh e
    cases d with
    | lst y=>exact ⟨y,rfl⟩
    | _=>rcases hm with rfl | rfl<;>cases ds<;>exact cU e7
 obtain ⟨xs,rfl⟩:=key
 cases rq with
 | p r =>
  cases r with
  | @lst a vs _ h _=>exact .inl ⟨rfl,vs,LL.sq (h.elim (fun q=>.inl q.1) .inr)⟩
theorem P4 (σ:L2.St) (H:Hp) (Q:Bool->Hp->Prop) (q:tDT X F G e σ H Q):tB (tD X F G e) σ H Q:=by
 obtain ⟨m,s,h0,b,h',R,S,ee,post⟩:=q
 refine ⟨m,s,h0,_,h',R,S,ee,fun v H' m' x R' r=>?_⟩
 exact ⟨b,mE r,post H' m' x R'⟩
noncomputable def XE (F:FT) (G:Str->Option BT.W) (X:Cx) (e':BT.E) (e:Rq):Prop:=PE X e (tD X F G e')/\(tOK e'=true->PT X e (tDT X F G e')/\∀ op vs p,e=.BoolOp op vs p->PW X e (tDT X F G e'))
noncomputable def XO (F:FT) (G:Str->Option BT.W) (X:Cx) (es':BT.Es) (o:Option Rq):Prop:=∃ t,PO X o t ∧
 ∀ σ H (Q:Option Int->Hp->Prop),(∃ m s h l zs h',RH X.K m H h/\RS X.prog X.w X.K m H σ s/\BT.evs F G es' s h=some (zs,h')/\(BT.dG zs).bind BT.rB=some l/\∀ H' m',Ext m H m' H'->RH X.K m' H' h'->Q l H')->t σ H Q
theorem fq (p:PE X e (tD X F G e')) (hb:∀ op vs q,e≠.BoolOp op vs q) (he:∀ whole,isTrue e X.env whole=(do let v ← whole;Wu e.pos;UK [v] (truthy v)):=by intro _;rfl):XE F G X e' e :=
 ⟨p,fun _=>⟨PT.weak (G7 p he) P4,fun op vs q z=>absurd z (hb op vs q)⟩⟩
theorem Jt:XO F G X .nil none:=⟨_,DP,fun σ H Q q=>by
 obtain ⟨m,s,h,l,zs,h',R,S,e1,e2,post⟩:=q
 simp only[BT.evs] at e1
 cases e1
 simp[BT.dG,BT.rB] at e2
 subst e2
 exact post H m (.refl _ _) R⟩
theorem Ju (ha:PE X e (tD X F G a)):XO F G X (.cons a .nil) (some e):=by
 refine ⟨_,DQ ha,fun σ H Q q=>?_⟩
 obtain ⟨m,s,h,l,zs,h',R,S,e1,e2,post⟩:=q
 simp only[BT.evs] at e1
 obtain ⟨x,h1,e3,e4⟩:=cY e1
 simp only[BT.ly,BT.dW,BT.jH] at e4
 cases e4
 refine ⟨m,s,h,x,h',R,S,e3,fun v H1 m1 x1 R1 r1=>?_⟩
 cases r1 with
 | r _=>simp[BT.dG] at e2
 | k _ _=>simp[BT.dG] at e2
 | kl _ _=>simp[BT.dG] at e2
 | c _ _=>simp[BT.dG] at e2
 | x _=>simp[BT.dG] at e2
 | g _ _=>simp[BT.dG] at e2
 | o _=>simp[BT.dG] at e2
 | p r =>
  cases r<;>simp[BT.dG,BT.rB] at e2
  subst e2
  exact ⟨_,rfl,post H1 m1 x1 R1⟩
theorem sf (ha:PE X e (tD X F G a)) (hs:noStar e=true):PA X [e] (tDs X F G (.cons a .nil)) :=
 PA.weak (fT ha kG (cX hs)) fun σ H Q q=>by
  obtain ⟨m,s,h,z0,h',R,S,ee,post⟩:=cons_of σ H Q q
  exact ⟨m,s,h,z0,h',R,S,ee,fun v H1 m1 x1 R1 r1=>jl (post v H1 m1 x1 R1 r1)⟩
theorem vY (ha:PE X e (tD X F G a)) (hb:PE X f (tD X F G b)) (hs:noStar e=true) (hs2:noStar f=true):PA X [e,f] (tDs X F G (.cons a (.cons b .nil))) :=
 PA.weak (fT ha (sf hb hs2) (cX hs)) cons_of
noncomputable def ML (sc:Sx) (oe:Rq) (o:BT.E):Prop:=∃ x p,o=.glo x/\oe=.Name x p/\dM sc x=true/\fy x=true
noncomputable def P5 (sc:Sx):Tq->Prop
 | .e o oe=>vO o=false\/ML sc oe o
 | _=>True
theorem Fb (h:CQ sc N t):P5 sc t:=by
 induction h with
 | glo hg hn=>exact .inr ⟨_,_,rfl,rfl,hg,hn⟩
 | _=>first | exact .inl rfl | exact TM
theorem Jv (h:CE' sc N o oe):vO o=false\/ML sc oe o:=Fb h
theorem sMe (O:Ok X F G sc N) (h1:Iz m o=true) (h2:name=AY m) (h3:dB oe=true) (h6:(apos.endLine==cpos.line)=true) (h7:es.length < 20) (ho:CE' sc N o oe) (ha:CEs sc N as es) (hO:PE X oe (tD X F G o)) (hA:PA X es (tDs X F G as)) :
 PE X (.Call (.Attribute oe name apos) es [] cpos) (tD X F G (.me m o as)):=by
 subst h2
 cases m with
 | append=>exact mF (sc:=sc) (N:=N) S6 PySem.F.slot_list_append PySem.F.type_list_append zj h3 h6 h7 hO ha hA (Js (.inl rfl))
 | pop=>exact mF (sc:=sc) (N:=N) S6 PySem.F.slot_list_pop PySem.F.type_list_pop IL h3 h6 h7 hO ha hA (Js (.inr (.inl rfl)))
 | extend=>exact mF (sc:=sc) (N:=N) S6 PySem.F.slot_list_extend PySem.F.type_list_extend zk h3 h6 h7 hO ha hA (Js (.inr (.inr rfl)))
 | sindex=>exact mF (sc:=sc) (N:=N) PySem.F.plainAttrs_str PySem.F.slot_str_index PySem.F.type_str_index zo h3 h6 h7 hO ha hA P1
 | tindex =>
  rcases Jv ho with z | ⟨x,p,rfl,rfl,hg,hn⟩
  ·exact Bool.noConfusion (z.symm.trans h1)
  ·exact zF O hg hn h6 h7 ha hA
 | dget=>simp[Iz] at h1
 | count=>exact mF (sc:=sc) (N:=N) S6 PySem.F.slot_list_count PySem.F.type_list_count (By O.hu) h3 h6 h7 hO ha hA (MK (.inl rfl))
 | lindex=>exact mF (sc:=sc) (N:=N) S6 PySem.F.slot_list_index PySem.F.type_list_index (zx O.hu) h3 h6 h7 hO ha hA (MK (.inr rfl))
theorem MM (pe:PE X (.BoolOp .And (x :: r) p) (tD X F G (.and a b))) (w:tOK (.and a b)=true->PW X (.BoolOp .And (x :: r) p) (tDT X F G (.and a b))):XE F G X (.and a b) (.BoolOp .And (x :: r) p) :=
 ⟨pe,fun ht=>⟨(w ht).pt,fun _ _ _ e=>by cases e;exact w ht⟩⟩
theorem sOr (pe:PE X (.BoolOp .Or (x :: r) p) (tD X F G (.or a b))) (w:tOK (.or a b)=true->PW X (.BoolOp .Or (x :: r) p) (tDT X F G (.or a b))):XE F G X (.or a b) (.BoolOp .Or (x :: r) p) :=
 ⟨pe,fun ht=>⟨(w ht).pt,fun _ _ _ e=>by cases e;exact w ht⟩⟩
theorem nL (h:tOK (.and a b)=true):tOK a=true/\tOK b=true:=by
 have h:(tOK a&&tOK b)=true:=h
 simpa only[Rn] using h
theorem sj (h:tOK (.or a b)=true):tOK a=true/\tOK b=true:=by
 have h:(tOK a&&tOK b)=true:=h
 simpa only[Rn] using h
noncomputable def MX (F:FT) (G:Str->Option BT.W) (sc:Sx) (N:List Str):Tq->Prop
 | .e e' e=>∀ (X:Cx),Ok X F G sc N->XE F G X e' e
 | .es as es=>∀ (X:Cx),Ok X F G sc N->PA X es (tDs X F G as)
 | .o es' o=>∀ (X:Cx),Ok X F G sc N->XO F G X es' o
 | .c cond ifs=>o9 F G sc N cond ifs
 | .i sr sa iter=>∀ (X:Cx),Ok X F G sc N->∀ (tg:Rq),qG sr tg=true->PI X tg iter (iD X F G sr sa)
theorem sQ (h:CQ sc N t):MX F G sc N t:=by
 refine @CQ.rec (fun sc N t _=>MX F G sc N t)
  (fun h1 h2 h3 X O=>fq (rW O h1 h2 h3) (fun _ _ _ z=>nomatch z))
  (fun h X O=>fq (Ex h) (fun _ _ _ z=>nomatch z))
  (fun h2 h3 X O=>fq (Ey O h2 h3) (fun _ _ _ z=>nomatch z))
  (fun h _ _ ia ib X O=>fq (PE.weak (La (opB h) (ia _ O).1 (ib _ O).1) (mD fun s h=>by simp only[BT.ev])) (fun _ _ _ z=>nomatch z))
  (fun _ ia X O=>fq (PE.weak (GB Ai (ia _ O).1) IU) (fun _ _ _ z=>nomatch z))
  (fun _ ia X O=>⟨PE.weak (Hf (ia _ O).1) EC,fun ht=>⟨PT.weak (G9 ((ia _ O).2 ht).1) EB,fun _ _ _ e=>nomatch e⟩⟩)
  (fun _ _ ia ib X O=>MM (PE.weak (Aa (ia _ O).1 (z9 (ib _ O).1)) xC) fun ht=>PW.weak (z8 ((ia _ O).2 (nL ht).1).1 (Dy ((ib _ O).2 (nL ht).2).1)) xD)
  (fun _ _ ia ib X O=>MM (PE.weak (Aa (ia _ O).1 (ib _ O).1) xC) fun ht=>PW.weak (z8 ((ia _ O).2 (nL ht).1).1 (((ib _ O).2 (nL ht).2).2 _ _ _ rfl)) xD)
  (fun _ _ ia ib X O=>sOr (PE.weak (GA (ia _ O).1 (z9 (ib _ O).1)) Bl) fun ht=>PW.weak (Gx ((ia _ O).2 (sj ht).1).1 (G8 ((ib _ O).2 (sj ht).2).1)) Bm)
  (fun _ _ ia ib X O=>sOr (PE.weak (GA (ia _ O).1 (ib _ O).1) Bl) fun ht=>PW.weak (Gx ((ia _ O).2 (sj ht).1).1 (((ib _ O).2 (sj ht).2).2 _ _ _ rfl)) Bm)
  (fun h _ _ hm ia ib X O=>⟨PE.weak (wO (opC O h) (ia _ O).1 (ib _ O).1 hm) (mD fun s h=>by simp only[BT.ev]),fun _=>⟨PT.weak (wQ (opC O h) (ia _ O).1 (ib _ O).1 hm) (oW (mD fun s h=>by simp only[BT.ev])),fun _ _ _ e=>nomatch e⟩⟩)
  (fun h h' _ _ _ hm ia ib ic X O=>⟨PE.weak (Al (opC O h) (opC O h') (ia _ O).1 (ib _ O).1 (ic _ O).1 hm) uy,fun _=>⟨PT.weak (Am (opC O h) (opC O h') (ia _ O).1 (ib _ O).1 (ic _ O).1 hm) (oW uy),fun _ _ _ e=>nomatch e⟩⟩)
  (fun h _ _ _ ic ia ib X O=>⟨PE.weak (Ab ((ic _ O).2 h).1 (ia _ O).1 (ib _ O).1) IT,fun ht=>nomatch ht⟩)
  (fun _ ia X O=>⟨PE.weak (HC (ia _ O)) IX,fun ht=>nomatch ht⟩)
  (fun _ ia X O=>⟨PE.weak (HD (ia _ O)) IY,fun ht=>nomatch ht⟩)
  (fun _ _ hs ia ii X O=>fq (PE.weak (Lo IK (ia _ O).1 (ii _ O).1 (Bg hs)) (mD fun s h=>by simp only[BT.ev])) (fun _ _ _ z=>nomatch z))
  (fun _ _ _ ia il iu X O=>fq (by
   obtain ⟨tl,hl1,hl2⟩:=il _ O
   obtain ⟨tu,hu1,hu2⟩:=iu _ O
   exact PE.weak (AA osl (ia _ O).1 hl1 hu1) (IV hl2 hu2)) (fun _ _ _ z=>nomatch z))
  (fun hg hn ha ia X O=>fq (Bo O hg hn ha (ia _ O)) (fun _ _ _ z=>nomatch z))
  (fun hu hg hg2 hs _ ia X O=>fq (BU O hu hg hg2 hs (sf (ia _ O).1 hs)) (fun _ _ _ z=>nomatch z))
  (fun hu hb hg hs _ ia X O=>fq (IW O hu hb hg (by simp[c5,hs]) (sf (ia _ O).1 hs)) (fun _ _ _ z=>nomatch z))
  (fun hb hg hg2 hs _ ia X O=>fq (Bp O hb hg hg2 hs (ia _ O).1) (fun _ _ _ z=>nomatch z))
  (fun h1 h2 h3 h6 h7 ho ha io ia X O=>fq (sMe O h1 h2 h3 h6 h7 ho ha (io _ O).1 (ia _ O)) (fun _ _ _ z=>nomatch z))
  (fun hu hk ht hz hs _ _ _ ii ic ie X O=>⟨E7 O hu hk ht hs (ii _ O _ hz) ic fun X' O'=>(ie _ O').1,fun ht=>nomatch ht⟩)
  (fun hb hf _ ia X O=>fq (EE (sc:=sc) (N:=N) hb hf (ia _ O).1) (fun _ _ _ z=>nomatch z))
  (fun h3 h6 h7 _ ha io ia X O=>fq (Br O h3 h6 h7 (io _ O).1 ha (ia _ O)) (fun _ _ _ z=>nomatch z))
  (fun hk _ ia X O=>fq (EF hk (ia _ O).1) (fun _ _ _ z=>nomatch z))
  (fun hu hb hg hs1 hs2 _ _ ia ib X O=>fq (EG O hu hb hg (by simp[c5,hs1,hs2]) (vY (ia _ O).1 (ib _ O).1 hs1 hs2)) (fun _ _ _ z=>nomatch z))
  (fun hg hn ha ia X O=>fq (Bs O hg hn ha (ia _ O)) (fun _ _ _ z=>nomatch z))
  (fun h1 h2 h3 ha ia X O=>fq (Bx O h1 h2 h3 ha (ia _ O)) (fun _ _ _ z=>nomatch z))
  (fun X O=>fq ET (fun _ _ _ z=>nomatch z))
  (fun h3 h6 hs1 hs2 _ _ _ io ik id X O=>fq (Ji h3 h6 hs1 hs2 (io _ O).1 (ik _ O).1 (id _ O).1) (fun _ _ _ z=>nomatch z))
  (fun hu hg hs _ ia X O=>fq (Jj O hu hg hs (ia _ O).1) (fun _ _ _ z=>nomatch z))
  (fun hu hg hs _ ia X O=>fq (Jl O hu hg hs (ia _ O).1) (fun _ _ _ z=>nomatch z))
  (fun _ _ hm ia ib X O=>⟨PE.weak (wO (GQ O.hu) (ia _ O).1 (ib _ O).1 hm) (mD fun s h=>by simp only[BT.ev]),fun _=>⟨PT.weak (wQ (GQ O.hu) (ia _ O).1 (ib _ O).1 hm) (oW (mD fun s h=>by simp only[BT.ev])),fun _ _ _ e=>nomatch e⟩⟩)
  (fun X O=>PA.weak kG fun σ H Q q=>jl q)
  (fun hs _ _ ia ir X O=>PA.weak (fT (ia _ O).1 (ir _ O) (cX hs)) cons_of)
  (fun X O=>Jt)
  (fun _ ia X O=>Ju (ia _ O).1)
  (.inl ⟨rfl,rfl⟩)
  (fun ht _ ia=>.inr ⟨_,_,rfl,rfl,fun X' O'=>((ia _ O').2 ht).1⟩)
  (fun hg hs _ ia X O _ _=>BE O hg hs (sf (ia _ O).1 hs))
  (fun hg hs hs2 _ _ ia ib X O _ _=>BH O hg hs hs2 (vY (ia _ O).1 (ib _ O).1 hs hs2))
  (fun hg hs hs2 hs3 _ _ _ ia ib ic X O _ _=>BZ O hg hs hs2 hs3 (PA.weak (fT (ia _ O).1 (vY (ib _ O).1 (ic _ O).1 hs2 hs3) (cX hs)) cons_of))
  (fun hg hs _ ia X O _ _=>ES O hg hs (ia _ O).1)
  (fun _ ia X O _ _=>Jk (ia _ O).1)
  (fun h3 h6 _ io X O _ hz=>Jo hz h3 h6 (io _ O).1)
  (fun _ ia X O _ _=>ER (ia _ O).1)
  sc N t h
theorem sE (h:CE' sc N e' e) (O:Ok X F G sc N):PE X e (tD X F G e'):=(sQ h X O).1
theorem sT (h:CE' sc N e' e) (O:Ok X F G sc N) (ht:tOK e'=true):PT X e (tDT X F G e')/\∀ op vs p,e=.BoolOp op vs p->PW X e (tDT X F G e'):=(sQ h X O).2 ht
theorem sCC {cond:BT.Es} (h:CC sc N cond ifs):o9 F G sc N cond ifs:=sQ h
theorem sCI (h:CI sc N sr sa iter) (O:Ok X F G sc N) (hz:qG sr tg=true):PI X tg iter (iD X F G sr sa):=sQ h X O tg hz
end
noncomputable def mk3 (H:Hp) (P c f:Rz) (t c0 f0:HO):Hp:=upd (upd (upd H P t) c c0) f f0
theorem fj (hP:H P=some (.tbl ps)) (hc:H c=none) (hf:H f=none) (e:H a=some u) (n:A3 u=false):mk3 H P c f t c0 f0 a=some u:=by
 unfold mk3
 rw[c6 (dw e hf),c6 (dw e hc),c6 (fun z=>by subst z;rw[hP] at e;cases e;exact BT.yT n)];exact e
theorem vZ (l:List Rl) (h:TriplesOk l) (e:UA pos (l++[Uz a,Uz b,v0])=some v):UA pos l=some v\/v=v0:=by
 fun_induction TriplesOk l with
 | case1 =>
  simp only[Tt,Uz,UA] at e
  split at e
  ·cases e;exact .inr rfl
  ·exact BT.gi e
 | case2 a' t b' u x rest ih =>
  simp only[List.cons_append,UA] at e ⊢
  split at e
  ·rename_i hc;rw[if_pos hc];exact .inl e
  ·rename_i hc;rw[if_neg hc];exact ih h e
 | case3 l h1 h2=>exact h.elim
structure Made (X:Cx) (pins:List (Rz×Obj)) (σ:L2.St) (m:List Rz) (H:Hp) (h:BT.HH) (q:Str) (pa:Vo) (be:Rq) (sc:Sx) (cl:List (Str×Rz)) (f:Rz) (H3:Hp) (s3:Rm):Prop where
 inv:Inv X pins σ H3 s3
 ext:Ext m H m H3
 rh:RH X.K m H3 h
 ex:∃ pm ctv c' oc os t,Tr m H3 f (UM "<lambda>" q pa be sc cl pm c' ctv)/\Tr m H3 c' oc/\oc.data=.fields os/\os[1]?=some (.str q t)
theorem Fc (I:Inv X pins σ H s) (R:RH X.K m H h) (lx:LX X x) (tc:Sn X.K x=some (c,P)) (hP:H P=some (.tbl ps))
 (ht:TriplesOk ps.toList) (hall:∀ pos v,UA pos ps.toList=some v->∃ c' oc os t,v=.ref c'/\H c'=some (.frz oc (.own 0))/\oc.data=.fields os/\os[1]?=some (.str (zb x) t))
 (uniq:∀ y∈BT.gn,∀ c2,Sn X.K y=some (c2,P)->y=x)
 (hn:UA pos ps.toList=none) {f:Rz} (hfo:fo.isFreed=false) {os:Array Rl} (hx:Heap.ExtBut P s.heap h') (hge:s.heap.objs.size<=c') (hlt:c' < h'.objs.size) (ho:h'.get? c'=some oc) (hd:oc.data=.fields os) (hq:os[1]?=some (.str (zb x) t))
 (hT:h'.get? P=some (TQ (ps++#[Uz pos.line,Uz pos.col,.ref c']))) :
 Inv X pins σ (mk3 H P c' h'.objs.size (.tbl (ps++#[Uz pos.line,Uz pos.col,.ref c'])) (.frz oc (.own 0)) (.frz fo (.own 0))) { s with heap:=h'.push fo,toks:=tk }/\Ext m H m (mk3 H P c' h'.objs.size (.tbl (ps++#[Uz pos.line,Uz pos.col,.ref c'])) (.frz oc (.own 0)) (.frz fo (.own 0))) ∧
 RH X.K m (mk3 H P c' h'.objs.size (.tbl (ps++#[Uz pos.line,Uz pos.col,.ref c'])) (.frz oc (.own 0)) (.frz fo (.own 0))) h:=by
 have hPs:s.heap.get? P=some (TQ ps):=I.hok _ _ hP
 have szP:P < s.heap.objs.size:=Rt hPs
 have cP:c'≠P:=fun z=>by rw[z] at hge;exact absurd szP (Nat.not_lt.mpr hge)
 have fP:h'.objs.size≠P:=fun z=>by rw[← z] at szP;exact absurd (RU szP hge) (Nat.not_lt.mpr (SV hlt))
 have fc:h'.objs.size≠c':=TL hlt
 have fr:∀ a,s.heap.objs.size<=a->H a=none:=fun a ha=>I.hok.fresh ha
 have hc:=fr c' hge
 have hf:=fr h'.objs.size (SV (Vx hge hlt))
 have at1:∀ t c0 f0,mk3 H P c' h'.objs.size t c0 f0 h'.objs.size=some f0:=fun _ _ _=>dz
 have at2:∀ t c0 f0,mk3 H P c' h'.objs.size t c0 f0 c'=some c0:=fun _ _ _=>by unfold mk3;rw[c6 (SH fc),dz]
 have at3:∀ t c0 f0,mk3 H P c' h'.objs.size t c0 f0 P=some t:=fun _ _ _=>by unfold mk3;rw[c6 (SH fP),c6 (SH cP),dz]
 have at4:∀ t c0 f0 b,b≠P->b≠c'->b≠h'.objs.size->mk3 H P c' h'.objs.size t c0 f0 b=H b:=fun _ _ _ b n1 n2 n3=>by unfold mk3;rw[c6 n3,c6 n2,c6 n1]
 have nP:∀ b,H b=none->b≠P:=fun b e z=>by rw[z,hP] at e;cases e
 have lt:∀ b o,s.heap.get? b=some o->b≠c'/\b≠h'.objs.size:=fun b o e=>by
  have l:=Rt e
  exact ⟨fun z=>by rw[z] at l;exact absurd l (Nat.not_lt.mpr hge),fun z=>by rw[z] at l;exact absurd (RU l hge) (Nat.not_lt.mpr (SV hlt))⟩
 have kp:∀ b o,b≠P->s.heap.get? b=some o->(h'.push fo).get? b=some o:=fun b o n e=>Rk _ (hx b o n e)
 refine ⟨I.un ⟨fun b o e n _ _=>kp b o (nP b n) e,fun b o e n _ _=>⟨o.slots,kp b o (nP b n) e⟩,fun b o e n _=>?_,fun b o e _=>?_,fun b xs e=>fj hP hc hf e rfl,fun b o u e=>fj hP hc hf e rfl,fun b qs e=>?_⟩ fun b u e=>?_,?_,?_⟩
 ·rw[at4 _ _ _ b (nP b n) (lt b o e).1 (lt b o e).2];exact n
 ·by_cases z:b=P
  ·exact ⟨_,by rw[z];exact Rk _ hT⟩
  ·exact ⟨o,kp b o z e⟩
 ·by_cases z:b=P
  ·subst z;rw[hP] at e;cases e;exact ⟨_,at3 _ _ _⟩
  ·exact ⟨#[],by rw[at4 _ _ _ b z (dw e hc) (dw e hf),e];simp⟩
 ·by_cases z1:b=h'.objs.size
  ·subst z1;rw[at1] at e;cases e;exact ⟨RB _ hfo,_,RB _ hfo⟩
  by_cases z2:b=c'
  ·subst z2;rw[at2] at e;cases e;exact ⟨Rk _ ho,_,Rk _ ho⟩
  by_cases z3:b=P
  ·subst z3;rw[at3] at e;cases e;exact Rk _ hT
  rw[at4 _ _ _ b z3 z2 z1] at e
  refine (I.hok b u e).stay (fun d o hd q=>kp d o ?_ q) (fun d q=>fj hP hc hf q rfl) fun d xs q=>fj hP hc hf q rfl
  rcases hd with rfl | hd
  ·exact z3
  ·rintro rfl;rw[hP] at hd;cases hd
 ·refine ⟨⟨[],by simp,by simp⟩,fun a o e n t=>fj hP hc hf e t,fun a e=>?_,fun a ob vs e=>fj hP hc hf e rfl⟩
  by_cases z1:a=h'.objs.size
  ·rw[z1];exact hf
  by_cases z2:a=c'
  ·rw[z2];exact hc
  by_cases z3:a=P
  ·subst z3;rw[at3] at e;cases e
  rw[at4 _ _ _ a z3 z2 z1] at e;exact e
 ·have sq:oX H (mk3 H P c' h'.objs.size (.tbl (ps++#[Uz pos.line,Uz pos.col,.ref c'])) (.frz oc (.own 0)) (.frz fo (.own 0))) :=
   ⟨fun a vs r=>r.elim (fun z=>.inl (fj hP hc hf z rfl)) fun ⟨o,z⟩=>.inr ⟨o,fj hP hc hf z rfl⟩,fun a vs r=>r.elim (fun z=>.inl (fj hP hc hf z rfl)) fun ⟨o,z⟩=>.inr ⟨o,fj hP hc hf z rfl⟩⟩
  refine R.tr sq (fun a ha=>?_) fun y hy c2 P2 e2=>?_
  ·obtain ⟨o,e,z⟩:=R.mu ha
   rw[e];exact fj hP hc hf e (by cases o<;>first | rfl | exact BT.dQ z)
  ·by_cases z:P2=P
   ·subst z
    obtain rfl:=uniq y hy c2 e2
    refine ⟨_,at3 _ _ _,?_,fun pos' v e=>?_⟩
    ·have:=TriplesOk_snoc pos.line pos.col (.ref c') ps.toList ht
     simpa using this
    ·have e':UA pos' (ps.toList++[Uz pos.line,Uz pos.col,.ref c'])=some v:=by simpa using e
     rcases vZ _ ht e' with q | q
     ·obtain ⟨c3,oc3,os3,t3,q1,q2,q3⟩:=hall pos' v q
      exact ⟨c3,oc3,os3,t3,q1,fj hP hc hf q2 rfl,q3⟩
     ·subst q
      exact ⟨c',oc,os,t,rfl,at2 _ _ _,hd,hq⟩
   ·obtain ⟨qs,e3,e4,e5⟩:=R.tb y hy c2 P2 e2
    refine ⟨qs,by rw[at4 _ _ _ P2 z (dw e3 hc) (dw e3 hf)];exact e3,e4,fun pos' v e=>?_⟩
    obtain ⟨c3,oc3,os3,t3,q1,q2,q3⟩:=e5 pos' v e
    exact ⟨c3,oc3,os3,t3,q1,fj hP hc hf q2 rfl,q3⟩
theorem B0 (I:Inv X pins σ H s) (R:RH X.K m H h) (lx:LX X x) (hp:LPa pa ps)
 (hfree:∀ y∈scope.names,y.2=.free->X.env.scope.names.lookup y.1=some .cell) {E:Rl->Rm->Prop}
 (hQ:∀ f H3 s3,Made X pins σ m H h (zb x) pa be scope (BC.fJ X.env.cells scope.names []) f H3 s3->Q (.ref f) s3):wpAny (RX X.prog X.w) X.A (eval (.Lambda pa be scope lp) X.env) Q E s:=by
 obtain ⟨c,P,tc,hcode,chd,uniq⟩:=lx.ex
 obtain ⟨ts,hP,ht,hall⟩:=R.tb x lx.mem c P tc
 have hPs:s.heap.get? P=some (TQ ts):=I.hok _ _ hP
 have hg:=I.ok.mod.glob.keeps I.bk
 obtain ⟨bm,ob,b1,b2,b3,b4,b5,b6⟩:=lx.bm
 have b3':=I.bk _ _ b3
 have hgP:RI≠P:=fun q=>by
  obtain ⟨o,es,ep,e,hd,_⟩:=hg
  rw[q,hPs] at e;cases e;cases hd
 have hbP:bm≠P:=fun q=>by
  rw[q,hPs] at b3';cases b3';cases b4
 have hbG:bm≠RI:=fun q=>by
  obtain ⟨o,es,ep,e,hd,_⟩:=hg
  rw[q,e] at b3';cases b3';rw[hd] at b6;cases b6
 have hcl:closureFor scope X.env=pure (BC.fJ X.env.cells scope.names []):=BC.o6 fun y hy e=>I.ok.has y.1 (.inl (hfree y hy e))
 have hB:s.heap.BuiltinsAt X.mg P:=⟨bm,ob,b1,b2,hbG,hbP,b3',b4,b5,b6⟩
 refine PySem.W.kla_eval (by cases hp<;>rfl) ?_
 rw[lx.ql]
 cases hq:UA lp ts.toList with
 | none =>
  refine PySem.W.kla_makeFunction (mg:=X.mg) hcl I.ok.glob hg hcode (chd.keeps I.bk) hPs ht hq hgP hB fun c' ctv h' tk hx hge hlt hrec htb=>?_
  obtain ⟨c2,oc,vs,t,e2,hoc,hd,hv⟩:=hrec
  cases e2
  obtain ⟨z1,z2,z3⟩:=Fc (tk:=tk) (fo:=UM "<lambda>" (zb x) pa be scope (BC.fJ X.env.cells scope.names []) ((X.mg "__name__").getD .none) c' ctv) I R lx tc hP ht hall uniq (f:=h'.objs.size) hq rfl hx hge hlt hoc hd hv htb
  have nf:h'.objs.size≠c':=TL hlt
  have e1:=I.hok.fresh (SV (Vx hge hlt))
  have e2:=I.hok.fresh hge
  exact hQ _ _ _ ⟨z1,z2,z3,_,ctv,c',oc,vs,t,⟨dz,R.gD e1⟩,⟨by unfold mk3;rw[c6 (SH nf),dz],R.gD e2⟩,hd,hv⟩
 | some cv =>
  obtain ⟨c',oc,os,t,rfl,q2,q3,q4⟩:=hall _ _ hq
  refine PySem.W.kla_makeFunctionHit (mg:=X.mg) hcl I.ok.glob hg hcode (chd.keeps I.bk) hPs ht hq hB fun ctv h' tk hk hsz=>?_
  have e1:=I.hok.fresh hsz
  refine hQ _ _ _ ⟨I.laid (o:=.frz (UM "<lambda>" (zb x) pa be scope (BC.fJ X.env.cells scope.names []) ((X.mg "__name__").getD .none) c' ctv) (.own 0)) (t':=tk) (fun b u e=>Rk _ (hk b u e)) hsz ⟨RB _ rfl,_,RB _ rfl⟩,gF e1,R.new e1,_,ctv,c',oc,os,t,⟨dz,R.gD e1⟩,⟨rN e1 _ _ q2,R.nin q2 rfl⟩,q3,q4⟩
end BS
end
section
namespace BS
open PySem PySem.Spec PyProof.Rows L2
open Classical in
noncomputable def iH (cl:List (Str×Rz)) (h:Heap) (H:Hp):Hp:=fun b=>if ∃ x,cl.lookup x=some b then some (.frz ((h.get? b).getD default) (.own 0)) else H b
section
theorem nM (e:cl.lookup x=some b) (g:h.get? b=some o):iH cl h H b=some (.frz o (.own 0)):=by
 unfold iH;rw[if_pos ⟨x,e⟩,g];rfl
theorem iy (e:¬ ∃ x,cl.lookup x=some b):iH cl h H b=H b:=if_neg e
theorem Fd (N:∀ x c,cl.lookup x=some c->H c=none):Le H (iH cl h H):=fun a u e=>by
 rw[iy (fun ⟨x,q⟩=>by rw[N x a q] at e;exact cU e)];exact e
end
theorem nN:∀ {names:List (Str×Ub)}{acc:List (Str×Rz)},(BC.fJ cells names acc).lookup y=some d->acc.lookup y=some d\/(y,Ss)∈names
 | [],acc,e=>.inl e
 | (n,k) :: r,acc,e=>by
  rw[BC.fJ] at e
  split at e
  ·rename_i hk
   have hk:k=.free:=eq_of_beq hk
   split at e
   ·rename_i a ea
    rcases nN e with q | q
    ·rw[SQ] at q
     split at q
     ·rename_i hy
      have:y=n:=by simpa using hy
      subst this;subst hk
      exact .inr RE
     ·exact .inl q
    ·exact .inr (Ru _ q)
   ·rcases nN e with q | q
    ·exact .inl q
    ·exact .inr (Ru _ q)
  ·rcases nN e with q | q
   ·exact .inl q
   ·exact .inr (Ru _ q)
theorem Jw (e:(BC.fJ cells names []).lookup y=some d):(y,Ss)∈names:=by
 rcases nN e with q | q
 ·simp at q
 ·exact q
theorem RWs.le {K:Rj} (q:Le H H') (r:RWs P w K m H vs ws):RWs P w K m H' vs ws:=by
 induction r with
 | nil=>exact .nil
 | cons r t ih=>exact .cons (r.le q) ih
section
variable {F:FT}{G:Str->Option BT.W}
theorem Jx {K:Rj} (r:RW P w K m H v x) (e:BT.tW x=some cp):RA K m H v cp.w:=by
 cases r with
 | p r=>cases e;exact .p r
 | o h=>cases e;exact .o h
 | r h=>exact cU e
 | k _ _=>exact cU e
 | kl _ _=>exact cU e
 | c _ _=>exact cU e
 | x _=>exact cU e
 | g _ _=>exact cU e
theorem uF (I:Inv X pins σ H s) (R:RH X.K m H g) (hsc:X.env.scope=sc) (hN:X.N=N) (S:RS X.prog X.w X.K m H σ sl)
 (hsub:∀ x c,cl.lookup x=some c->X.env.cells.lookup x=some c):∀ (fv:List (Nat×Str)) (cs:List BT.Cp),za sc N fv=true->(∀ q∈fv,∃ c,cl.lookup q.2=some c)->BT.caps sl fv=some cs->∃ cvs,jC m (iH cl s.heap H) cl (fv.map (·.2)) cvs/\RCs X.K m H cvs cs
 | [],cs,_,_,e=>by cases e;exact ⟨[],.nil,.nil⟩
 | q :: r,cs,hv,hc,e=>by
  simp only[za,Vt,Rn] at hv
  rw[BT.yZ] at e
  split at e
  ·rename_i w g1
   obtain ⟨cp,e1,e2⟩:=Option.bind_eq_some_iff.mp e
   obtain ⟨cs',e3,rfl⟩:=dh e2
   obtain ⟨cvs,c1,c2⟩:=uF I R hsc hN S hsub r cs' hv.2 (fun q hq=>hc q (Ru _ hq)) e3
   obtain ⟨v,s1,rv⟩:=S.get _ _ g1
   obtain ⟨c,hcc⟩:=hc q RE
   have hce:=hsub _ _ hcc
   obtain ⟨mm,hn,hl⟩:=I.loc
   have kc:X.env.scope.names.lookup q.2=some .cell:=by rw[hsc];exact eq_of_beq hv.1.2
   obtain ⟨u,ru,lk⟩:=hl q.1 q.2 v (by rw[hN];exact eq_of_beq hv.1.1) s1 (.inr (.inl kc))
   rcases lk with ⟨k,_⟩ | ⟨k,c',ec,o,ho,hd⟩
   ·have:X.env.scope.names.lookup q.2=some .local:=k
    rw[kc] at this;cases this
   ·rw[hce] at ec
    cases ec
    exact ⟨v :: cvs,.cons hcc ⟨nM hcc ho,R.gD (I.freeC _ _ hce)⟩ hd ru c1,.cons (Jx rv e1) c2⟩
  ·exact cU e
theorem zG (e:BT.vJ F m ea L ocs x h=some r) :
 ∃ n c fs ws g cs,x=.o n/\BT.oat h n=some (c,fs)/\(BT.d7 m fs).isNone=true/\ea h=some (ws,g)/\ocs=some cs/\F (.m c m) (.o n :: (ws++[.c (.l L) cs])) g=some r/\BT.noC [r.1]=true:=by
 cases x with
 | o n =>
  rw[BT.AM] at e
  cases g:BT.oat h n with
  | none=>rw[g] at e;exact cU e
  | some q =>
   obtain ⟨c,fs⟩:=q
   rw[g] at e
   simp only at e
   split at e
   ·rename_i c1
    obtain ⟨ws,g2,e1,e2⟩:=cY e
    cases ocs with
    | none=>exact cU e2
    | some cs =>
     rw[BT.y9] at e2
     obtain ⟨z,h2,e3,e4⟩:=cY e2
     refine ⟨n,c,fs,ws,g2,cs,rfl,g,c1,e1,rfl,?_⟩
     cases z with
     | c _ _=>exact cU e4
     | x _=>exact cU e4
     | p _=>cases e4;exact ⟨e3,rfl⟩
     | r _=>cases e4;exact ⟨e3,rfl⟩
     | k _=>exact cU e4
     | o _=>cases e4;exact ⟨e3,rfl⟩
   ·exact cU e
 | p d=>exact cU e
 | r n=>exact cU e
 | k q=>exact cU e
 | c _ _=>exact cU e
 | x _=>exact cU e
noncomputable def Fe (X:Cx) (F:FT) (G:Str->Option BT.W) (as:BT.Es) (args:List Rq) (lam:Rq):Prop :=
 ∀ (pos:Pos) (pins:List (Rz×Obj)) (s:Rm) (σ:L2.St) (H:Hp) (m:List Rz) (sl:BT.Sl) (h:BT.HH) (ws:List BT.W) (g:BT.HH) (Q:List Rl->Rm->Prop),Inv X pins σ H s->RH X.K m H h->RS X.prog X.w X.K m H σ sl->BT.evs F G as sl h=some (ws,g) →
  (∀ vs us H1 s1 m1,Inv X pins σ H1 s1->c9 vs us->Ext m H m1 H1->RH X.K m1 H1 g->RWs X.prog X.w X.K m1 H1 vs ws->wpAny (RX X.prog X.w) X.A (eval lam X.env) (fun u s2=>Q (us++[u]) s2) X.xe s1) →
  wpAny (RX X.prog X.w) X.A (Wv (T9 pos (R8 args X.env))) Q X.xe s
theorem MN:Fe X F G .nil [.Lambda pa be scope lp] (.Lambda pa be scope lp):=by
 intro pos pins s σ H m sl h ws g Q I R S e k
 simp only[BT.evs] at e
 cases e
 show wpAny _ _ (Wv ((false,eval (.Lambda pa be scope lp) X.env) :: T9 pos (R8 [] X.env))) _ _ s
 exact Ua (thn (k [] [] H s m I .nil (.refl _ _) R .nil) fun u s2 q=>UD q)
theorem MO (hs:noStar e=true) (ha:PE X e (tD X F G a)):Fe X F G (.cons a .nil) [e,.Lambda pa be scope lp] (.Lambda pa be scope lp):=by
 intro pos pins s σ H m sl h ws g Q I R S ee k
 simp only[BT.evs] at ee
 obtain ⟨z,g1,e1,e2⟩:=cY ee
 simp only[BT.ly,BT.dW,BT.jH] at e2
 cases e2
 rw[cX hs]
 show wpAny _ _ (Wv ((false,eval e X.env) :: T9 pos (R8 [.Lambda pa be scope lp] X.env))) _ _ s
 refine Ua (thn (ha pins s σ H (fun v H1=>∃ m1,Ext m H m1 H1/\RH X.K m1 H1 g/\RW X.prog X.w X.K m1 H1 v z) I ⟨m,sl,h,z,g,R,S,e1,fun v H1 m1 x1 R1 r1=>⟨m1,x1,R1,r1⟩⟩) fun u s1 zq=>?_)
 obtain ⟨v,H1,I1,r1,m1,x1,R1,w1⟩:=zq
 show wpAny _ _ (Wv ((false,eval (.Lambda pa be scope lp) X.env) :: T9 pos (R8 [] X.env))) _ _ s1
 exact Ua (thn (k [v] [u] H1 s1 m1 I1 (.cons r1 .nil) x1 R1 (.cons w1 .nil)) fun u s2 q=>UD q)
inductive B3 (X:Cx) (pins:List (Rz×Obj)) (σ:L2.St) (m0:List Rz) (H:Hp) (n:Nat) (ws:List BT.W) (g:BT.HH) (L:Nat) (cs:List BT.Cp) (a f:Rz) (us:List Rl) (vs:List V) (m2:List Rz) (H3:Hp) (s3:Rm) (cl:List (Str×Rz)):Prop where
 | mk (I3:Inv X pins σ H3 s3) (hnone:∀ y d,cl.lookup y=some d->H3 d=none) (hobj:∀ y d,cl.lookup y=some d->∃ o u,s3.heap.get? d=some o/\o.data=.cell u) (hfrm:∀ y d,cl.lookup y=some d->d∉frs X.stack) (le:Le H3 (iH cl s3.heap H3)) (R4:RH X.K m2 (iH cl s3.heap H3) g)
  (w4:RWs X.prog X.w X.K m2 (iH cl s3.heap H3) (.ref a :: (vs++[.ref f])) (.o n :: (ws++[.c (.l L) cs]))) (e04:nW X.prog X.w X.K X.mg X.base X.A X.stack s3 (iH cl s3.heap H3)) (rv4:c9 (V.ref a :: (vs++[.ref f])) (So a :: (us++[.ref f]))) (x:Ext m0 H m2 H3) (rh:RH X.K m2 H3 g):B3 X pins σ m0 H n ws g L cs a f us vs m2 H3 s3 cl
theorem zH (O:Ok X F G sc N) (hf:∀ x,X.fn x=true) {rest:List Rq}
 (hl:BT.qb L=some ⟨ns,ns,.ret bt⟩) (hp:LPa pa ps) (hn:ns=ps++fv.map (·.2)) (hk:oQ ps (fv.map (·.2)) scope=true) (hv:za sc N fv=true) (ht:N.contains (BT.fu (BT.xq L))=true) (hc:CE' scope ns bt be) (h3:dB oe=true) (h6:(apos.endLine==cpos.line)=true)
 (hO:PE X oe (tD X F G o)) (hst:c5 (e0 :: rest)=true) (hlen:(e0 :: rest).length < 20) (hS:Fe X F G as (e0 :: rest) (.Lambda pa be scope lp))
 (I:Inv X pins σ H s) (R:RH X.K m0 H h) (S:RS X.prog X.w X.K m0 H σ s') (hC:mX X.K c C) (hM:yI X.K C m ga)
 (e1:BT.ev F G o s' h=some (.o n,h1)) (e3:BT.oat h1 n=some (c,fs)) (e4:(BT.d7 m fs).isNone=true) (e5:BT.evs F G as s' h1=some (ws,g)) (e6:BT.caps s' fv=some cs)
 (kk:∀ (a f:Rz) (us:List Rl) (vs:List V) (m2:List Rz) (H3:Hp) (s3:Rm) (cl:List (Str×Rz)),B3 X pins σ m0 H n ws g L cs a f us vs m2 H3 s3 cl->wpAny (RX X.prog X.w) X.A (call (.ref ga) (So a :: (us++[So f]))) Q X.xe s3) :
 wpAny (RX X.prog X.w) X.A (eval (.Call (.Attribute oe m apos) (e0 :: rest) [] cpos) X.env) Q X.xe s:=by
 have lx:=O.lamx hf _ ht
 have lf:=MG hk
 subst hn
 refine UL (thn (hO pins s σ H (fun v H1=>∃ m1,Ext m0 H m1 H1/\RH X.K m1 H1 h1/\RW X.prog X.w X.K m1 H1 v (.o n)) I ⟨m0,s',h,_,h1,R,S,e1,fun v H1 m1 x1 R1 r1=>⟨m1,x1,R1,r1⟩⟩) fun u s1 ⟨v,H1,I1,rv,m1,x1,R1,w1⟩=>?_) (mG h3 hst hlen h6)
 cases w1 with
 | @o a _ ha =>
 obtain rfl:u=.ref a:=rv
 obtain ⟨C',dx,vs0,q1,q2,q3⟩:=R1.qH _ _ _ _ ha e3
 cases q2.cn.inj hC.cn
 refine kF I1 q1 hC.cls hM (q3.none e4) ?_
 have hst':=hst
 simp only[c5,Rn] at hst'
 refine T5 (first:=[.ref a]) (h₀:=X.base) I.ok.mod.kin hM.kp (hS cpos pins s1 σ H1 m1 s' h1 ws g _ I1 R1 (S.ext x1) e5 fun vs us H2 s2 m2 I2 rvs x2 R2 w2=>?_) (cX hst'.1) (dD hst'.2)
 have hfree:∀ y∈scope.names,y.2=.free->X.env.scope.names.lookup y.1=some .cell:=fun y hy e=>by
  have hm:=lf.all y hy e
  obtain ⟨p,hp1,hp2⟩:=List.mem_map.mp hm
  have:=List.all_eq_true.mp hv p hp1
  simp only[Rn] at this
  rw[O.hsc,← hp2];exact eq_of_beq this.2
 refine B0 I2 R2 lx hp hfree fun f H3 s3 M=>?_
 have I3:=M.inv
 have hsub:∀ y d,(BC.fJ X.env.cells scope.names []).lookup y=some d->X.env.cells.lookup y=some d:=fun y d e=>BC.o7 (fun _ _ z=>by simp at z) y d e
 have hfr:∀ y d,(BC.fJ X.env.cells scope.names []).lookup y=some d->y∈fv.map (·.2):=fun y d e=>lf.all (y,.free) (Jw e) rfl
 have hhas:∀ p∈fv,∃ d,(BC.fJ X.env.cells scope.names []).lookup p.2=some d:=fun p hp'=>by
  have hm:=(lf.fre p.2 (W6 hp')).2
  exact BC.o8 hm (I3.ok.has p.2 (.inl (hfree _ hm rfl)))
 generalize BC.fJ X.env.cells scope.names []=cl at M hsub hfr hhas
 have hcel:∀ y d,cl.lookup y=some d->X.s₀.heap.objs.size<=d:=fun y d e=>I3.ok.cab y d (hf y) (hsub y d e)
 have hnone:∀ y d,cl.lookup y=some d->H3 d=none:=fun y d e=>I3.freeC y d (hsub y d e)
 have hobj:∀ y d,cl.lookup y=some d->∃ o u,s3.heap.get? d=some o/\o.data=.cell u:=fun y d e=>by
  obtain ⟨u,ob,g1,g2⟩:=I3.cell y d (hsub y d e)
  exact ⟨ob,u,g1,g2⟩
 have hfrm:∀ y d,cl.lookup y=some d->d∉frs X.stack:=fun y d e hb=>by
  rcases List.mem_cons.mp (I3.nS d hb) with q | q
  ·exact I3.cne y d (hsub y d e) q
  ·obtain ⟨_,ob,g1,_⟩:=I3.ok.kE.mem q
   exact absurd (Rt g1) (Nat.not_lt.mpr (hcel y d e))
 obtain ⟨cvs,cp,rc⟩:=uF I3 M.rh O.hsc O.hN ((S.ext x1).ext (x2.trans M.ext)) hsub fv cs hv hhas e6
 have le:Le H3 (iH cl s3.heap H3):=Fd hnone
 obtain ⟨pm,ctv,c',oc,os,t,t1,t2,t3,t4⟩:=M.ex
 have la:jz m2 (iH cl s3.heap H3) f L cvs:=⟨bt,ps,fv.map (·.2),pa,be,scope,cl,pm,ctv,c',oc,os,t,_,hl,hp,hk,hc,fun y y' d e e'=>I3.ok.inj _ _ _ (hsub _ _ e) (hsub _ _ e'),hfr,⟨le _ _ t1.1,t1.2⟩,⟨le _ _ t2.1,t2.2⟩,t3,t4,cp⟩
 have R4:RH X.K m2 (iH cl s3.heap H3) g:=M.rh.le le
 have w4:RWs X.prog X.w X.K m2 (iH cl s3.heap H3) (.ref a :: (vs++[.ref f])) (.o n :: (ws++[.c (.l L) cs])):=.cons (.o (x2.ix ha)) (RWs.app ((w2.ext M.ext).le le) (.cons (.c la (rc.tr le.sq)) .nil))
 have out:∀ b ob,X.base.get? b=some ob->¬ ∃ y,cl.lookup y=some b:=fun b ob e ⟨y,q⟩=>absurd (Rt (I3.ok.bs b ob e).1) (Nat.not_lt.mpr (hcel y b q))
 have e04:nW X.prog X.w X.K X.mg X.base X.A X.stack s3 (iH cl s3.heap H3):=by
  refine ⟨I3.ok.frames,I3.ok.mod,fun b ob e=>⟨(I3.bs b ob e).1,by rw[iy (out b ob e)];exact (I3.bs b ob e).2⟩,Sq I3.ok.bsz I3.sz,I3.stack,fun b hb=>?_,fun b u e=>?_,I3.bare⟩
  ·rw[iy (fun ⟨y,q⟩=>hfrm y b q hb)];exact I3.qW b hb
  ·by_cases cc:∃ y,cl.lookup y=some b
   ·obtain ⟨y,q⟩:=cc
    obtain ⟨ob,uu,g1,g2⟩:=hobj y b q
    rw[nM q g1] at e
    cases e
    exact ⟨g1,_,g1⟩
   ·rw[iy cc] at e
    exact (I3.hok b u e).stay (fun _ _ _ z=>z) (fun d z=>le _ _ z) fun d xs z=>le _ _ z
 have rv4:c9 (V.ref a :: (vs++[.ref f])) (So a :: (us++[.ref f])):=.cons rfl (rvs.append (.cons rfl .nil))
 exact ⟨I3.kIn,kk a f us vs m2 H3 s3 cl ⟨I3,hnone,hobj,hfrm,le,R4,w4,e04,rv4,x1.trans (x2.trans M.ext),M.rh⟩⟩
section
variable {X:Cx}{cl:List (Str×Rz)}{H3 H5:Hp}{s3 s5:Rm}{m2 m5:List Rz}
theorem B4 (hnone:∀ y d,cl.lookup y=some d->H3 d=none) (b:Rz) (uu:HO) (e:H3 b=some uu):¬ ∃ y,cl.lookup y=some b:=fun ⟨y,q⟩=>by rw[hnone y b q] at e;exact cU e
theorem Jy (hnone:∀ y d,cl.lookup y=some d->H3 d=none) (hobj:∀ y d,cl.lookup y=some d->∃ o u,s3.heap.get? d=some o/\o.data=.cell u) (hfrm:∀ y d,cl.lookup y=some d->d∉frs X.stack) (le:Le H3 (iH cl s3.heap H3))
 (un:Un (frs X.stack) [] (iH cl s3.heap H3) H5 s3.heap s5.heap) (hok5:HOk P w H5 s5.heap):Un (frs X.stack) [] H3 (hid cl H5) s3.heap s5.heap:=by
 have nc:=B4 hnone
 refine ⟨fun b ob e nn hb hx=>?_,fun b ob e nn hb hx=>?_,fun b ob e nn hx=>?_,fun b ob e hx=>un.there b ob e hx,fun b xs e=>?_,fun b ob uu e=>?_,fun b qs e=>?_⟩
 ·by_cases cc:∃ y,cl.lookup y=some b
  ·obtain ⟨y,q⟩:=cc
   exact (hok5 _ _ (un.frzs _ _ _ (nM q e))).1
  ·exact un.keep b ob e (by rw[iy cc];exact nn) hb hx
 ·exact un.slot b ob e (by rw[iy (fun ⟨y,q⟩=>hfrm y b q hb)];exact nn) hb hx
 ·by_cases cc:∃ y,cl.lookup y=some b
  ·obtain ⟨y,q⟩:=cc;exact vR q
  ·exact iw (un.free b ob e (by rw[iy cc];exact nn) hx)
 ·rw[fD (nc _ _ e)];exact un.tups b xs (le _ _ e)
 ·rw[fD (nc _ _ e)];exact un.frzs b ob uu (le _ _ e)
 ·rw[fD (nc _ _ e)];exact un.tbls b qs (le _ _ e)
theorem Ff (hnone:∀ y d,cl.lookup y=some d->H3 d=none) (le:Le H3 (iH cl h0 H3)) (x5:Ext m2 (iH cl h0 H3) m5 H5):Ext m2 H3 m5 (hid cl H5):=by
 have nc:=B4 hnone
 obtain ⟨ex,hm,he⟩:=x5.pre
 have lno:∀ b,iH cl h0 H3 b=none->H3 b=none:=fun b e=>by
  cases gg:H3 b with
  | none=>rfl
  | some uu=>rw[le _ _ gg] at e;cases e
 refine ⟨⟨ex,hm,fun b hb=>lno b (he b hb)⟩,fun b ob e nn tt=>?_,fun b e=>?_,fun b ob vs e=>by rw[fD (nc _ _ e)];exact x5.frz b ob vs (le _ _ e)⟩
 ·rw[fD (nc _ _ e)];exact x5.keep b ob (le _ _ e) nn tt
 ·by_cases cc:∃ y,cl.lookup y=some b
  ·obtain ⟨y,q⟩:=cc;exact hnone y b q
  ·rw[fD cc] at e;exact lno b (x5.live b e)
end
theorem uG (O:Ok X F G sc N) (hf:∀ x,X.fn x=true) {rest:List Rq}
 (hl:BT.qb L=some ⟨ns,ns,.ret bt⟩) (hp:LPa pa ps) (hn:ns=ps++fv.map (·.2)) (hk:oQ ps (fv.map (·.2)) scope=true) (hv:za sc N fv=true) (ht:N.contains (BT.fu (BT.xq L))=true) (hc:CE' scope ns bt be) (h3:dB oe=true) (h6:(apos.endLine==cpos.line)=true)
 (hO:PE X oe (tD X F G o)) (hst:c5 (e0 :: rest)=true) (hlen:(e0 :: rest).length < 20) (hS:Fe X F G as (e0 :: rest) (.Lambda pa be scope lp)) :
 PE X (.Call (.Attribute oe m apos) (e0 :: rest) [] cpos) (tD X F G (.methL o m as L fv)):=by
 intro pins s σ H Q I q
 obtain ⟨m0,s',h,z,h',R,S,ee,post⟩:=q
 simp only[BT.ev] at ee
 obtain ⟨x,h1,e1,e2⟩:=cY ee
 obtain ⟨n,c,fs,ws,g,cs,rfl,e3,e4,e5,e6,e7,e8⟩:=zG e2
 obtain ⟨C,ga,fd,ps',k,hC,hM,hB,hR,ok⟩:=O.meth _ _ _ _ _ e7
 refine zH O hf hl hp hn hk hv ht hc h3 h6 hO hst hlen hS I R S hC hM e1 e3 e4 e5 e6 fun a f us vs m2 H3 s3 cl P=>?_
 obtain ⟨I3,hnone,hobj,hfrm,le,R4,w4,e04,rv4,xx,rh⟩:=P
 have sp4:spF X.prog X.w X.K (F (.m c m)) (V.ref a :: (vs++[.ref f])) (iH cl s3.heap H3) (fun v5 H5=>∃ m5,Ext m2 (iH cl s3.heap H3) m5 H5/\RH X.K m5 H5 h'/\RW X.prog X.w X.K m5 H5 v5 z) E0:=⟨m2,_,g,z,h',R4,w4,e7,fun v5 H5 m5 x5 R5 r5=>⟨m5,x5,R5,r5⟩⟩
 have hl4:(So a :: (us++[.ref f])).length=ps'.length:=by rw[← rv4.length];exact ok.len _ _ _ _ sp4
 have hb4:=hB s3 (So a :: (us++[.ref f])) I3.kIn (by rw[Sy];exact hl4)
 rw[Sy] at hb4
 have run4:=ok.run X.A X.stack s3 (iH cl s3.heap H3) ⟨So a :: (us++[So f]),[]⟩ (So a :: (us++[So f])) _ _ E0 hR e04 hb4 rv4 sp4
 refine WY (codeAny_mono run4 fun r s' hq=>?_)
 cases r with
 | error e=>exact Sk hq
 | ok fl =>
  cases fl with
  | next=>exact Sk hq
  | brk=>exact Sk hq
  | cont=>exact Sk hq
  | ret u =>
   obtain ⟨v5,H5,os5,bare5,un,hok5,rv5,m5,x5,R5,r5⟩:=hq
   have C5:fH cl H5:=fun y d e=>by
    obtain ⟨ob,uu,g1,g2⟩:=hobj y d e
    exact ⟨ob,uu,un.frzs _ _ _ (nM e g1),g2⟩
   have un6:=Jy hnone hobj hfrm le un hok5
   have I6:=I3.KQ os5 un6 (xJ C5 hok5 fun _ _ e=>e) bare5 (fun b zz=>absurd zz (by simp))
   have x6:=Ff hnone le x5
   have r6:RW X.prog X.w X.K m5 (hid cl H5) v5 z:=by
    have:=RWs.tr C5.sq (.cons r5 .nil) e8
    cases this with
    | cons r _=>exact r
   exact ⟨v5,hid cl H5,I6,rv5,post v5 _ m5 (xx.trans x6) (C5.rh R5) r6⟩
end
end BS
end
section
namespace BS
open PySem PySem.Spec PyProof.Rows L2
noncomputable def jQ:Rq->Bool
 | .ListComp _ _ _ _=>false
 | .SetComp _ _ _ _=>false
 | .DictComp _ _ _ _ _=>false
 | _=>true
noncomputable def swB (sc scope:Sx) (x:Str) (np pos:Pos):Bool :=
 (if sc.kind.isAnnotationScope then ScopeKind.function else sc.kind)==.function&&sc.names.lookup x==some .local&&np.line==pos.line&&!(scope.names.any fun (n,k)=>n==x&&(k==.local||k==.cell))
mutual
inductive CS (sc:Sx) (N:List Str):BT.S->Sv->Prop where
 | setL {i:Nat}{x m:Str}{o:BT.E}{as:BT.Es}{L:Nat}{fv:List (Nat×Str)}{call:Rq}{np p:Pos} (h1:N[i]?=some x) (h2:nq sc x=true) (hl:CL sc N o m as L fv call):CS sc N (.set i (.methL o m as L fv)) (.Assign [.Name x np] call p)
 | retL {m:Str}{o:BT.E}{as:BT.Es}{L:Nat}{fv:List (Nat×Str)}{call:Rq}{p:Pos} (hl:CL sc N o m as L fv call):CS sc N (.ret (.methL o m as L fv)) (.Return (some call) p)
 | setc {i:Nat}{x:Str}{mu:Bool}{sr:BT.Sr}{sa:BT.Es}{tg:List Str}{fv:List (Nat×Str)}{cond:BT.Es}{elt:BT.E}{te iter elt':Rq}{ifs:List Rq}{scope:Sx}{pos np p:Pos} (hu:fX N=true) (h1:N[i]?=some x) (h3:(sc.names.lookup x==some .cell||swB sc scope x np pos)=true)
  (hk:kL sc N tg fv scope=true) (ht:ur (dY scope sc) tg te=true) (hz:qG sr te=true) (hs:kJ iter=true) (hi:CI sc N sr sa iter) (hc:CC (dY scope sc) (tg++fv.map (·.2)) cond ifs) (he:CE' (dY scope sc) (tg++fv.map (·.2)) elt elt') :
  CS sc N (.set i (.comp mu sr sa tg fv cond elt)) (.Assign [.Name x np] (.ListComp elt' [⟨te,iter,ifs,0⟩] scope pos) p)
 | set {i:Nat}{x:Str}{e:BT.E}{v:Rq}{np p:Pos} (h1:N[i]?=some x) (h2:nq sc x=true) (h3:jQ v=true) (he:CE' sc N e v):CS sc N (.set i e) (.Assign [.Name x np] v p)
 | unp {tg:List (Nat×Str)}{e:BT.E}{es:List Rq}{k:Nat}{fe:Rq}{args:List Rq}{kw:List Vn}{tp cp p:Pos} (hu:fX N=true) (ht:CT sc N tg (.Tuple es k tp)) (he:CE' sc N e (.Call fe args kw cp)):CS sc N (.unp tg e) (.Assign [.Tuple es k tp] (.Call fe args kw cp) p)
 | put {i:Nat}{x:Str}{k e:BT.E}{ke v:Rq}{np sp p:Pos} (h1:N[i]?=some x) (h2:mW sc x=true) (h3:fy x=true) (h4:jQ v=true) (h5:lz ke=true) (hk:CE' sc N k ke) (he:CE' sc N e v):CS sc N (.put i k e) (.Assign [.Subscript (.Name x np) ke sp] v p)
 | wC {i:Nat}{x:Str}{k e:BT.E}{ke v:Rq}{np sp p:Pos} (h1:N[i]?=some x) (h2:mW sc x=true) (h3:fy x=true) (h4:jQ v=true) (h5:lz ke=true) (hk:CE' sc N k ke) (he:CE' sc N e v):CS sc N (.wC i k e) (.Assign [.Subscript (.Name x np) ke sp] v p)
 | aug {i:Nat}{x:Str}{o:BT.Bin}{op:UJ}{e:BT.E}{v:Rq}{np p:Pos} (h1:N[i]?=some x) (h2:nq sc x=true) (h3:Bt o op=true) (he:CE' sc N e v):CS sc N (.aug i o e) (.AugAssign (.Name x np) op v p)
 | setf {o e:BT.E}{f:Str}{oe v:Rq}{np p:Pos} (h1:attrName f=true) (h2:jQ v=true) (ho:CE' sc N o oe) (he:CE' sc N e v):CS sc N (.setf o f e) (.Assign [.Attribute oe f np] v p)
 | augf {o e:BT.E}{f:Str}{b:BT.Bin}{op:UJ}{oe v:Rq}{np p:Pos} (h1:attrName f=true) (h3:Bt b op=true) (ho:CE' sc N o oe) (he:CE' sc N e v):CS sc N (.augf o f b e) (.AugAssign (.Attribute oe f np) op v p)
 | ex {e:BT.E}{v:Rq}{p:Pos} (h:jQ v=true) (he:CE' sc N e v):CS sc N (.ex e) (.Expr v p)
 | ret {e:BT.E}{v:Rq}{p:Pos} (he:CE' sc N e v):CS sc N (.ret e) (.Return (some v) p)
 | ife {c:BT.E}{a b:BT.S}{t:Rq}{xs ys:List Sv}{p:Pos} (h:tOK c=true) (hc:CE' sc N c t) (ha:CSs sc N a xs) (hb:CSs sc N b ys):CS sc N (.ife c a b) (.If t xs ys p)
 | whl {c:BT.E}{b:BT.S}{t:Rq}{xs:List Sv}{p:Pos} (h:tOK c=true) (hc:CE' sc N c t) (hb:CSs sc N b xs):CS sc N (.whl c b) (.While t xs [] p)
 | for {tg:List (Nat×Str)}{sr:BT.Sr}{sa:BT.Es}{b:BT.S}{te iter:Rq}{xs:List Sv}{p:Pos} (hu:fX N=true) (ht:CT sc N tg te) (hi:CI sc N sr sa iter) (hz:qG sr te=true) (hs:kJ iter=true) (hb:CSs sc N b xs):CS sc N (.for tg sr sa b) (.For te iter xs [] p)
 | brk {p:Pos}:CS sc N .brk (.Break p)
 | cnt {p:Pos}:CS sc N .cnt (.Continue p)
 | bad {st:Sv}:CS sc N .bad st
inductive CSs (sc:Sx) (N:List Str):BT.S->List Sv->Prop where
 | nil:CSs sc N .nil []
 | one {s:BT.S}{st:Sv} (h:CS sc N s st):CSs sc N s [st]
 | cons {a b:BT.S}{st st2:Sv}{r:List Sv} (h:CS sc N a st) (hr:CSs sc N b (st2 :: r)):CSs sc N (.seq a b) (st :: st2 :: r)
end
noncomputable def lH (X:Cx) (m:List Rz) (H:Hp) (fl:BT.Fl) (D:Ends):Prop:=match fl with
 | .nx s' h'=>∀ σ' H' m',Ext m H m' H'->RH X.K m' H' h'->RS X.prog X.w X.K m' H' σ' s'->D.nx σ' H'
 | .rt z h'=>∀ v H' m',Ext m H m' H'->RH X.K m' H' h'->RW X.prog X.w X.K m' H' v z->D.rt v H'
 | .bk s' h'=>∀ σ' H' m',Ext m H m' H'->RH X.K m' H' h'->RS X.prog X.w X.K m' H' σ' s'->D.bk σ' H'
 | .ct s' h'=>∀ σ' H' m',Ext m H m' H'->RH X.K m' H' h'->RS X.prog X.w X.K m' H' σ' s'->D.ct σ' H'
theorem lH.ext {D:Ends} (x:Ext m H m' H') (p:lH X m H fl D):lH X m' H' fl D:=by
 cases fl<;>exact fun a b c y=>p a b c (x.trans y)
inductive tDS (X:Cx) (F:FT) (G:Str->Option BT.W) (S:BT.S) (D:Ends) (σ:L2.St) (H:Hp):Prop where
 | mk (m:List Rz) (s:BT.Sl) (h:BT.HH) (fl:BT.Fl) (R:RH X.K m H h) (r:RS X.prog X.w X.K m H σ s) (e:BT.evS F G S s h=some fl) (p:lH X m H fl D):tDS X F G S D σ H
theorem PS.weak {st:Sv} (h:PS X st t) (q:∀ D σ H,t' D σ H->t D σ H):PS X st t':=fun pins s σ H D I hw=>h pins s σ H D I (q _ _ _ hw)
theorem PSs.weak {st:List Sv} (h:PSs X st t) (q:∀ D σ H,t' D σ H->t D σ H):PSs X st t':=fun pins s σ H D I hw=>h pins s σ H D I (q _ _ _ hw)
section
theorem B5 (D:Ends) (σ:L2.St) (H:Hp) (q:tDS X F G (.seq a b) D σ H):KZ (tDS X F G a) (tDS X F G b) D σ H:=by
 obtain ⟨m,s,h,fl,R,S,e,post⟩:=q
 simp only[BT.evS] at e
 cases g:BT.evS F G a s h with
 | none=>rw[g] at e;exact cU e
 | some f1 =>
  rw[g] at e
  refine ⟨m,s,h,f1,R,S,g,?_⟩
  cases f1 with
  | nx s1 h1=>exact fun σ1 H1 m1 x1 R1 S1=>⟨m1,s1,h1,fl,R1,S1,e,post.ext x1⟩
  | rt z h1=>cases e;exact post
  | bk s1 h1=>cases e;exact post
  | ct s1 h1=>cases e;exact post
theorem jR {X:Cx}{S0:BT.S}{a:BT.E}{k:BT.Sl->BT.W->BT.HH->Option BT.Fl} (he:∀ s h,BT.evS F G S0 s h=BT.bnd (BT.ev F G a s h) (k s)) {D:Ends}{σ:L2.St}{H:Hp} (q:tDS X F G S0 D σ H) {R':V->Hp->Prop}
 (h1:∀ m s h x fl v H1,RH X.K m H1 h->RS X.prog X.w X.K m H1 σ s->RW X.prog X.w X.K m H1 v x->k s x h=some fl->lH X m H1 fl D->R' v H1):tD X F G a σ H R':=by
 obtain ⟨m,s,h,fl,R,S,ee,post⟩:=q
 rw[he] at ee
 obtain ⟨x,g,e1,e2⟩:=cY ee
 exact ⟨m,s,h,x,g,R,S,e1,fun v H1 m1 x1 R1 r1=>h1 m1 s g x fl v H1 R1 (S.ext x1) r1 e2 (post.ext x1)⟩
theorem xR (h:BT.tst x k=some fl):∃ b g,x=some (.p (.bl b),g)/\k b g=some fl:=by
 unfold BT.tst at h
 obtain ⟨w,g,e1,e2⟩:=cY h
 unfold BT.Mi at e2
 cases w with
 | p d =>
  cases d<;>simp only at e2<;>try contradiction
  exact ⟨_,g,e1,e2⟩
 | r n=>exact cU e2
 | k q=>exact cU e2
 | c _ _=>exact cU e2
 | x _=>exact cU e2
 | o q=>exact cU e2
theorem lI (h:jQ e=true):Uy e t l env=pure false:=by
 cases e<;>first | rfl | exact BT.dQ h
theorem xS (h:jQ e=true):swapsWithSole [t] e l env=pure false:=lI h
theorem pq (h:lz i=true):∀ v,V8 (.Subscript o i pos) env v=(do
 let ov ← UK [v] (eval o env)
 let iv ← UK [v,ov] (eval i env)
 Wu pos
 UK [v,ov,iv] (setItem ov iv v)
 release [v,ov,iv] []):=by
 intro v
 cases i<;>first | rfl | exact BT.dQ h
theorem Jz (D:Ends) (σ:L2.St) (H:Hp) (q:tDS X F G (.whl c b) D σ H):Ag (tDT X F G c) (tDS X F G b) D σ H:=by
 obtain ⟨m0,s,h,fl,R,S,e,post⟩:=q
 simp only[BT.evS] at e
 refine ⟨fun n σ H=>∃ m s h,RH X.K m H h/\RS X.prog X.w X.K m H σ s/\BT.eX (BT.ev F G c) (BT.evS F G b) n s h=some fl/\lH X m H fl D,⟨BT.turns,m0,s,h,R,S,e,post⟩,?_⟩
 rintro n σ1 H1 ⟨m,s,h,R,S,e,post⟩
 cases n with
 | zero=>exact cU e
 | succ n =>
  rw[BT.eX] at e
  obtain ⟨t,g,e1,e2⟩:=xR e
  refine ⟨m,s,h,t,g,R,S,e1,fun H2 m2 x2 R2=>?_⟩
  cases t with
  | false =>
   rw[BT.mw] at e2
   cases e2
   rw[if_neg (by decide)]
   exact post σ1 H2 m2 x2 R2 (S.ext x2)
  | true =>
   rw[BT.mq] at e2
   rw[if_pos rfl]
   refine ⟨fun σ' H'=>∃ m' s' h',RH X.K m' H' h'/\RS X.prog X.w X.K m' H' σ' s'/\BT.eX (BT.ev F G c) (BT.evS F G b) n s' h'=some fl/\lH X m' H' fl D,fun σ' H' ⟨m',s',h',a1,a2,a3,a4⟩=>⟨n,TY n,m',s',h',a1,a2,a3,a4⟩,?_⟩
   cases gb:BT.evS F G b s g with
   | none=>rw[gb] at e2;exact cU e2
   | some f1 =>
    rw[gb] at e2
    refine ⟨m2,s,g,f1,R2,S.ext x2,gb,?_⟩
    cases f1 with
    | nx s1 h1=>exact fun σ3 H3 m3 x3 R3 S3=>⟨m3,s1,h1,R3,S3,e2,(post.ext x2).ext x3⟩
    | ct s1 h1=>exact fun σ3 H3 m3 x3 R3 S3=>⟨m3,s1,h1,R3,S3,e2,(post.ext x2).ext x3⟩
    | bk s1 h1=>cases e2;exact fun σ3 H3 m3 x3 R3 S3=>post σ3 H3 m3 (x2.trans x3) R3 S3
    | rt z h1=>cases e2;exact fun v H3 m3 x3 R3 r3=>post v H3 m3 (x2.trans x3) R3 r3
theorem JA (D:Ends) (σ:L2.St) (H:Hp) (q:tDS X F G (.aug i o e) D σ H):K5 i (tD X F G e) (IZ o) D σ H:=by
 obtain ⟨m,s,h,fl,R,S,ee,post⟩:=q
 simp only[BT.evS] at ee
 obtain ⟨y,g,e1,e2⟩:=cY ee
 unfold BT.Mq at e2
 have hs:∃ d d' z,s[i]?=some (some (.p d))/\y=.p d'/\BT.oi o d d'=some z/\fl=.nx (s.set i (some (.p z))) g:=by
  cases g1:s[i]? with
  | none=>rw[g1] at e2;cases y<;>exact cU e2
  | some ow =>
   cases ow with
   | none=>rw[g1] at e2;cases y<;>exact cU e2
   | some w0 =>
    rw[g1] at e2
    cases w0<;>cases y<;>simp only at e2<;>try contradiction
    obtain ⟨z,e3,e4⟩:=dh e2
    exact ⟨_,_,z,rfl,rfl,e3,e4.symm⟩
 obtain ⟨d,d',z,g1,rfl,e3,rfl⟩:=hs
 obtain ⟨a,b,k,rfl,rfl,rfl⟩:=xG e3
 obtain ⟨v,hv,rv⟩:=S.get i _ g1
 have ev:v=.int a:=by cases rv with | p rv=>cases rv;rfl
 subst ev
 refine ⟨_,hv,m,s,h,_,g,R,S,e1,fun u H1 m1 x1 R1 r1=>?_⟩
 cases r1 with
 | p r1 =>
  cases r1
  exact ⟨a,b,k,rfl,rfl,e3,post _ H1 m1 x1 R1 ((S.ext x1).set (.p (.int k)))⟩
theorem zI (e:BT.rK s f v x h=some fl):∃ n c fs,x=.o n/\BT.oat h n=some (c,fs)/\BT.attrOk v=true/\fs.length < 1000/\fl=.nx s (h.set n (.o c (BT.d9 f v fs))):=by
 cases x with
 | o n =>
  rw[BT.AQ] at e
  cases g:BT.oat h n with
  | none=>rw[g] at e;exact cU e
  | some q =>
   obtain ⟨c,fs⟩:=q
   rw[g] at e
   simp only at e
   obtain ⟨c1,e⟩:=dj e
   cases e
   simp only[Rn,decide_eq_true_eq] at c1
   exact ⟨n,c,fs,rfl,g,c1.1,c1.2,rfl⟩
 | p d=>exact cU e
 | r n=>exact cU e
 | k q=>exact cU e
 | c _ _=>exact cU e
 | x _=>exact cU e
theorem uH {D:Ends} (R:RH X.K m H h) (S:RS X.prog X.w X.K m H σ s) (hn:m[n]?=some a) (h1:H a=some (.ins C dx vs)) (h2:mX X.K c C) (h3:RFs X.K m H vs fs) (ra:RA X.K m H v y)
 (post:lH X m H (.nx s (h.set n (.o c (BT.d9 f y fs)))) D):D.nx σ (upd H a (.ins C dx (L2.d9 f v vs))):=by
 have x:Ext m H m (upd H a (.ins C dx (L2.d9 f v vs))):=jK (RJ hn) ⟨_,h1,rfl⟩
 exact post σ _ m x (R.setC hn ⟨_,h1,rfl⟩ ⟨C,dx,_,dz,h2,(RFs.put ra h3).ext x⟩) (S.ext x)
theorem Fg {X:Cx}{o e:BT.E}{f:Str} (hf:attrName f=true) (D:Ends) (σ:L2.St) (H:Hp) (q:tDS X F G (.setf o f e) D σ H):Li X.K (tD X F G o) (tD X F G e) f D σ H:=by
 refine jR (k:=fun s=>BT.AR (BT.ev F G o s) s f) (fun s h=>by simp only[BT.evS]) q fun m s h y fl v H1 R S r e1 post=>?_
 rw[BT.AS] at e1
 obtain ⟨x,g,e2,e3⟩:=cY e1
 obtain ⟨n,c,fs,rfl,g1,ok,hl,rfl⟩:=zI e3
 refine ⟨m,s,h,.o n,g,R,S,e2,fun u H2 m2 x2 R2 r2=>?_⟩
 cases r2 with
 | @o a _ hn =>
  obtain ⟨C,dx,vs,q1,q2,q3⟩:=R2.qH _ _ _ _ hn g1
  exact ⟨a,C,dx,vs,rfl,q1,q2.cls,q2.no f hf,by rw[q3.length];exact hl,uH R2 (S.ext x2) hn q1 q2 q3 ((r.ext x2).ra ok) (post.ext x2)⟩
theorem B6 (e:BT.xo ee s f op x h=some fl):∃ n c fs d y g fs' z,x=.o n/\BT.oat h n=some (c,fs)/\BT.d7 f fs=some (.p d)/\ee h=some (.p y,g)/\BT.oat g n=some (c,fs')/\BT.oi op d y=some z/\fs'.length < 1000/\fl=.nx s (g.set n (.o c (BT.d9 f (.p z) fs'))):=by
 cases x with
 | o n =>
  rw[BT.Eg] at e
  cases g1:BT.oat h n with
  | none=>rw[g1] at e;exact cU e
  | some q =>
   obtain ⟨c,fs⟩:=q
   rw[g1] at e
   simp only at e
   cases g2:BT.d7 f fs with
   | none=>rw[g2] at e;exact cU e
   | some w0 =>
    rw[g2] at e
    cases w0 with
    | p d =>
     simp only at e
     obtain ⟨y,g,e1,e2⟩:=cY e
     cases y with
     | p y =>
      rw[BT.AU] at e2
      cases g3:BT.oat g n with
      | none=>rw[g3] at e2;exact cU e2
      | some q =>
       obtain ⟨c',fs'⟩:=q
       rw[g3] at e2
       simp only at e2
       cases g4:BT.oi op d y with
       | none=>rw[g4] at e2;exact cU e2
       | some z =>
        rw[g4] at e2
        simp only at e2
        obtain ⟨c1,e2⟩:=dj e2
        cases e2
        obtain ⟨rfl,c1⟩:=c1
        exact ⟨n,c',fs,d,y,g,fs',z,rfl,g1,g2,e1,g3,g4,c1,rfl⟩
     | r n=>exact cU e2
     | k q=>exact cU e2
     | c _ _=>exact cU e2
     | x _=>exact cU e2
     | o n=>exact cU e2
    | r n=>exact cU e
    | k q=>exact cU e
    | c _ _=>exact cU e
    | x _=>exact cU e
    | o n=>exact cU e
 | p d=>exact cU e
 | r n=>exact cU e
 | k q=>exact cU e
 | c _ _=>exact cU e
 | x _=>exact cU e
theorem Fi {X:Cx}{o e:BT.E}{f:Str}{b:BT.Bin} (hf:attrName f=true) (D:Ends) (σ:L2.St) (H:Hp) (q:tDS X F G (.augf o f b e) D σ H):wR X.K (tD X F G o) (tD X F G e) (IZ b) f D σ H:=by
 refine jR (k:=fun s=>BT.xo (BT.ev F G e s) s f b) (fun s h=>by simp only[BT.evS]) q fun m s h y fl v H1 R S r e1 post=>?_
 obtain ⟨n,c,fs,d,y,g,fs',z,rfl,g1,g2,e2,g3,g4,hl,rfl⟩:=B6 e1
 obtain ⟨i,j,k,rfl,rfl,rfl⟩:=xG g4
 cases r with
 | @o a _ hn =>
  obtain ⟨C,dx,vs,q1,q2,q3⟩:=R.qH _ _ _ _ hn g1
  obtain ⟨u,l,ra⟩:=q3.get g2
  have eu:u=.int i:=by cases ra with | p ra=>cases ra;rfl
  subst eu
  refine ⟨a,C,dx,vs,_,rfl,q1,q2.cls,q2.no f hf,l,m,s,h,_,g,R,S,e2,fun u2 H2 m2 x2 R2 r2=>?_⟩
  cases r2 with
  | p r2 =>
   cases r2
   obtain ⟨C',dx',vs',p1,p2,p3⟩:=R2.qH _ _ _ _ (x2.ix hn) g3
   cases p2.cn.inj q2.cn
   exact ⟨i,j,k,rfl,rfl,g4,dx',vs',p1,by rw[p3.length];exact hl,uH R2 (S.ext x2) (x2.ix hn) p1 p2 p3 (.p (.int k)) (post.ext x2)⟩
theorem JB {X:Cx}{i:Nat}{k e:BT.E} (D:Ends) (σ:L2.St) (H:Hp) (q:tDS X F G (.put i k e) D σ H):yx (tD X F G e) (Hl (tD X F G (.var i)) (tD X F G k) GD) D σ H:=by
 refine jR (k:=fun s=>BT.Iw (BT.ev F G k s) s i) (fun s h=>by simp only[BT.evS]) q fun m s h y fl v H1 R S r e1 post=>?_
 unfold BT.Iw at e1
 cases y with
 | r n=>exact cU e1
 | k q=>exact cU e1
 | c _ _=>exact cU e1
 | x _=>exact cU e1
 | o q=>exact cU e1
 | p d =>
  cases g:s[i]? with
  | none=>rw[g] at e1;exact cU e1
  | some o =>
   cases o with
   | none=>rw[g] at e1;exact cU e1
   | some wz =>
    cases wz with
    | p _=>rw[g] at e1;exact cU e1
    | k _=>rw[g] at e1;exact cU e1
    | c _ _=>rw[g] at e1;exact cU e1
    | x _=>rw[g] at e1;exact cU e1
    | o _=>rw[g] at e1;exact cU e1
    | r n =>
     rw[g] at e1
     simp only at e1
     obtain ⟨q,h2,e2,e3⟩:=cY e1
     refine ⟨m,s,h,.r n,h,R,S,by simp only[BT.ev,g],fun o H2 m2 x2 R2 r2=>⟨m2,s,h,q,h2,R2,S.ext x2,e2,fun ki H3 m3 x3 R3 r3=>?_⟩⟩
     unfold BT.GI at e3
     cases q with
     | r _=>exact cU e3
     | k _=>exact cU e3
     | c _ _=>exact cU e3
     | x _=>exact cU e3
     | o _=>exact cU e3
     | p dk =>
      cases g2:BT.lat h2 n with
      | none=>rw[g2] at e3;cases dk<;>exact cU e3
      | some xs =>
       rw[g2] at e3
       cases dk with
       | int j =>
        simp only at e3
        cases g3:BT.place xs.length j with
        | none=>rw[g3] at e3;exact cU e3
        | some mm =>
         rw[g3] at e3
         cases e3
         have r2':=r2.ext x3
         cases r2' with
         | @r a _ hn =>
          cases r3 with
          | p r3 =>
           cases r3
           obtain ⟨us,hH,ru⟩:=R3.cell n a xs hn g2
           refine ⟨a,us,j,mm,rfl,rfl,hH,by rw[ru.length];exact g3,?_⟩
           have x4:Ext m3 H3 m3 (upd H3 a (.lst (us.set mm v))):=i9 (RJ hn) hH
           cases r with
           | p r=>exact post σ _ m3 ((x2.trans x3).trans x4) (R3.set hn hH (RDs.set ((r.ext x2).ext x3) mm ru)) (((S.ext x2).ext x3).ext x4)
       | _=>exact cU e3
theorem Fj {X:Cx}{i:Nat}{k e:BT.E} (D:Ends) (σ:L2.St) (H:Hp) (q:tDS X F G (.wC i k e) D σ H):yx (tD X F G e) (Hl (tD X F G (.var i)) (tD X F G k) GP) D σ H:=by
 refine jR (k:=fun s=>BT.xm (BT.ev F G k s) s i) (fun s h=>by simp only[BT.evS]) q fun m s h y fl v H1 R S r e1 post=>?_
 cases y with
 | r n=>exact cU e1
 | k q=>exact cU e1
 | c _ _=>exact cU e1
 | x _=>exact cU e1
 | o q=>exact cU e1
 | p d =>
  rw[BT.Ef] at e1
  cases g:s[i]? with
  | none=>rw[g] at e1;exact cU e1
  | some o =>
   cases o with
   | none=>rw[g] at e1;exact cU e1
   | some wz =>
    cases wz with
    | p _=>rw[g] at e1;exact cU e1
    | k _=>rw[g] at e1;exact cU e1
    | c _ _=>rw[g] at e1;exact cU e1
    | x _=>rw[g] at e1;exact cU e1
    | o _=>rw[g] at e1;exact cU e1
    | r n =>
     rw[g] at e1
     simp only at e1
     obtain ⟨q,h2,e2,e3⟩:=cY e1
     refine ⟨m,s,h,.r n,h,R,S,by simp only[BT.ev,g],fun o H2 m2 x2 R2 r2=>⟨m2,s,h,q,h2,R2,S.ext x2,e2,fun ki H3 m3 x3 R3 r3=>?_⟩⟩
     cases q with
     | r _=>exact cU e3
     | k _=>exact cU e3
     | c _ _=>exact cU e3
     | x _=>exact cU e3
     | o _=>exact cU e3
     | p dk =>
      rw[BT.AO] at e3
      obtain ⟨kvs,e4,e5⟩:=Option.bind_eq_some_iff.mp e3
      obtain ⟨ky,e6,e7⟩:=Option.bind_eq_some_iff.mp e5
      split at e7
      case isFalse=>exact cU e7
      rename_i c
      cases e7
      have r2':=r2.ext x3
      cases r2' with
      | @r a _ hn =>
       cases r3 with
       | p r3 =>
        obtain ⟨us,hH,ru⟩:=R3.xr n a kvs hn e4
        have:=fG
        have hl:=ru.length
        refine ⟨a,us,ky,rfl,oS r3 e6,hH,by lia,?_⟩
        have x4:Ext m3 H3 m3 (upd H3 a (.dK (putK us ky v))):=jK (RJ hn) ⟨_,hH,rfl⟩
        cases r with
        | p r=>exact post σ _ m3 ((x2.trans x3).trans x4) (R3.setC hn ⟨_,hH,rfl⟩ ⟨_,dz,(ru.put ky (A6 r3 e6) ((r.ext x2).ext x3)).ext x4⟩) (((S.ext x2).ext x3).ext x4)
end
section
theorem JC (hg:GOk X tg g) (D:Ends) (σ:L2.St) (H:Hp) (q:tDS X F G (.for tg sr sa b) D σ H):K9 (iD X F G sr sa) g (tDS X F G b) D σ H:=by
 obtain ⟨m,s,h,fl,R,S,e,post⟩:=q
 simp only[BT.evS] at e
 obtain ⟨ws,h1,e1,e2⟩:=cY e
 unfold BT.kFor at e2
 cases g1:(BT.rds ws h1).bind (BT.gC sr) with
 | none=>rw[g1] at e2;exact cU e2
 | some ds =>
  rw[g1] at e2
  simp only at e2
  split at e2
  ·rename_i ca
   refine ⟨m,s,h,ws,h1,ds,R,S,e1,g1,.inl ca,fun H1 m1 J x1 R1 it=>?_⟩
   refine ⟨fun i n σ H=>i<=ds.length/\n=ds.length - i/\∃ m s h,Ext m1 H1 m H/\RH X.K m H h/\RS X.prog X.w X.K m H σ s/\BT.dJ (BT.evS F G b) tg (ds.drop i) s h=some fl/\lH X m H fl D,
    ⟨ds.length,Sz _,rfl,m1,s,h1,.refl _ _,R1,S.ext x1,by rw[List.drop_zero];exact e2,post.ext x1⟩,?_⟩
   rintro i n σ2 H2 ⟨hi,rfl,m2,s2,h2,x2,R2,S2,e3,post2⟩
   by_cases c:i < ds.length
   ·refine .inr ⟨it.go m2 H2 h2 i x2 R2 (o4 ca) c,_,fun σ' H' z=>⟨ds.length - (i+1),by lia,c,rfl,z⟩,fun x H3 y=>?_⟩
    obtain ⟨x3,k3,r3⟩:=it.yld m2 H2 h2 i x H3 ds[i] x2 R2 (o4 ca) (Rv c) y
    rw[We c,BT.dJ] at e3
    cases g2:BT.target tg.length ds[i] with
    | none=>rw[g2] at e3;exact cU e3
    | some dd =>
     rw[g2] at e3
     simp only at e3
     have R3:=R2.ext x3 k3
     refine hg m2 H3 σ2 s2 x ds[i] dd _ (S2.ext x3) r3 g2 fun σ4 S4=>?_
     cases g3:BT.evS F G b (BT.sets tg dd s2) h2 with
     | none=>rw[g3] at e3;exact cU e3
     | some f1 =>
      rw[g3] at e3
      refine ⟨m2,_,h2,f1,R3,S4,g3,?_⟩
      cases f1 with
      | nx s5 h5=>exact fun σ5 H5 m5 x5 R5 S5=>⟨m5,s5,h5,(x2.trans x3).trans x5,R5,S5,e3,(post2.ext x3).ext x5⟩
      | ct s5 h5=>exact fun σ5 H5 m5 x5 R5 S5=>⟨m5,s5,h5,(x2.trans x3).trans x5,R5,S5,e3,(post2.ext x3).ext x5⟩
      | bk s5 h5=>cases e3;exact fun σ5 H5 m5 x5 R5 S5=>post2 σ5 H5 m5 (x3.trans x5) R5 S5
      | rt z h5=>cases e3;exact fun v H5 m5 x5 R5 r5=>post2 v H5 m5 (x3.trans x5) R5 r5
   ·have ei:i=ds.length:=by lia
    subst ei
    refine .inl ⟨it.stop m2 H2 h2 x2 R2 (o4 ca),?_⟩
    rw[List.drop_length,BT.dJ] at e3
    cases e3
    exact post2 σ2 H2 m2 (.refl _ _) R2 S2
  ·exact cU e2
theorem MP {X:Cx}{sc:Sx}{N:List Str} (O:Ok X F G sc N) {x:Str}{np pos p:Pos}{elt':Rq}{gs:List Comprehension}{scope:Sx} (h:swB sc scope x np pos=true):Uy (.ListComp elt' gs scope pos) (some (.Name x np)) p.line X.env=pure true:=by
 have e:Uy (.ListComp elt' gs scope pos) (some (.Name x np)) p.line X.env=pure (swB X.env.scope scope x np pos):=rfl
 rw[e,O.hsc,h]
theorem Fk (c:(sc.names.lookup x==some .cell)=true):nq sc x=true:=by
 unfold nq
 rw[eq_of_beq c]
theorem B7 (h:swB sc scope x np pos=true):sc.names.lookup x=some .local:=by
 unfold swB at h
 simp only[Rn] at h
 exact eq_of_beq h.1.1.2
theorem MQ {X:Cx}{sc:Sx}{N:List Str} (O:Ok X F G sc N) {x:Str}{np pos p:Pos}{elt':Rq}{gs:List Comprehension}{scope:Sx} (c:(sc.names.lookup x==some .cell)=true):Uy (.ListComp elt' gs scope pos) (some (.Name x np)) p.line X.env=pure false:=by
 have e:Uy (.ListComp elt' gs scope pos) (some (.Name x np)) p.line X.env=pure (swB X.env.scope scope x np pos):=rfl
 have z:swB sc scope x np pos=false:=by
  cases h:swB sc scope x np pos with
  | false=>rfl
  | true =>
   have:=B7 h
   rw[eq_of_beq c] at this
   cases this
 rw[e,O.hsc,z]
theorem sCL (O:Ok X F G sc N) (hf:∀ x,X.fn x=true) {call:Rq} (h:CL sc N o m as L fv call):PE X call (tD X F G (.methL o m as L fv))/\jQ call=true:=by
 cases h with
 | zero hl hp hn hk hv ht hc h3 h6 ho=>exact ⟨uG O hf hl hp hn hk hv ht hc h3 h6 (sE ho O) rfl (by simp) MN,rfl⟩
 | one hl hp hn hk hv ht hc h3 h6 ho hs ha=>exact ⟨uG O hf hl hp hn hk hv ht hc h3 h6 (sE ho O) (by simp only[c5,hs];rfl) (by simp) (MO hs (sE ha O)),rfl⟩
theorem B8:PSs X [] (tDS X F G .nil):=PSs.weak Dz fun D σ H q=>by
 obtain ⟨m,s,h,fl,R,S,e,post⟩:=q
 simp only[BT.evS] at e
 cases e
 exact post σ H m (.refl _ _) R S
theorem sS (O:Ok X F G sc N) (hf:∀ x,X.fn x=true) {st:Sv} (hh:CS sc N s st):PS X st (tDS X F G s) :=
 CS.rec (motive_1:=fun s st _=>PS X st (tDS X F G s)) (motive_2:=fun s sts _=>PSs X sts (tDS X F G s))
  (@fun i x m o as L fv call np p h1 h2 hl=>PS.weak (vc (i:=i) O.nd (by rw[O.hN];exact h1) (mJ O h2) (sCL O hf hl).1 (lI (sCL O hf hl).2) (.inl (hf x))) fun D σ H q =>
   jR (k:=fun s=>BT.vM s i) (fun s h=>by simp only[BT.evS]) q fun m s h y fl v H1 R S r e1 post=>by
    simp only[BT.vM] at e1
    cases e1
    exact post _ H1 m (.refl _ _) R (S.set r))
  (fun hl=>PS.weak (Ad (sCL O hf hl).1) fun D σ H q =>
   jR (k:=fun s=>BT.AV) (fun s h=>by simp only[BT.evS]) q fun m s h y fl v H1 R S r e1 post=>by
    simp only[BT.AV] at e1
    cases e1
    exact post v H1 m (.refl _ _) R r)
  (@fun i x mu sr sa tg fv cond elt te iter elt' ifs scope pos np p hu h1 h3 hk ht hz hs hi hc he=>by
   have K:∀ (D:Ends) (σ:L2.St) (H:Hp),tDS X F G (.set i (.comp mu sr sa tg fv cond elt)) D σ H->yx (tD X F G (.comp mu sr sa tg fv cond elt)) (wL i) D σ H:=fun D σ H q =>
    jR (k:=fun s=>BT.vM s i) (fun s h=>rfl) q fun m s h y fl v H1 R S r e1 post=>by
     simp only[BT.vM] at e1
     cases e1
     exact post _ H1 m (.refl _ _) R (S.set r)
   by_cases c:(sc.names.lookup x==some .cell)=true
   ·exact PS.weak (vc (i:=i) O.nd (by rw[O.hN];exact h1) (mJ O (Fk c)) (sE (CQ.comp hu hk ht hz hs hi hc he) O) (MQ O c) (.inl (hf x))) K
   ·have h4:swB sc scope x np pos=true:=by
     rw[TJ] at h3
     exact h3.resolve_left c
    exact PS.weak (E8 O hu hk ht hs (sCI hi O hz) (sCC hc) (fun X' O'=>sE he O') h1 (B7 h4) (MP O h4)) K)
  (@fun i x e v np p h1 h2 h3 he=>PS.weak (vc (i:=i) O.nd (by rw[O.hN];exact h1) (mJ O h2) (sE he O) (lI h3) (.inl (hf x))) fun D σ H q =>
   jR (k:=fun s=>BT.vM s i) (fun s h=>by simp only[BT.evS]) q fun m s h y fl v H1 R S r e1 post=>by
    simp only[BT.vM] at e1
    cases e1
    exact post _ H1 m (.refl _ _) R (S.set r))
  (@fun tg e es k fe args kw tp cp p hu ht he=>by
   obtain ⟨g,hg1,hg2⟩:=sCT O (O.calm hu) ht fun q _=>.inl (hf q.2)
   exact PS.weak (u9 (sE he O) hg1 rfl rfl) fun D σ H q=>jR (k:=fun s=>BT.Iv s tg) (fun s h=>by simp only[BT.evS]) q fun m s h y fl v H1 R S r e1 post=>by
    cases r with
    | p r =>
     simp only[BT.Iv] at e1
     rename_i d
     cases g1:BT.unpack tg.length d with
     | none=>rw[g1] at e1;exact cU e1
     | some ds =>
      rw[g1] at e1
      cases e1
      refine hg2 m H1 σ s _ d ds _ S r ?_ fun σ' S'=>post _ H1 m (.refl _ _) R S'
      cases ht with
      | tup hl _ =>
       unfold BT.target
       rw[if_neg (by have:=WV hl;lia)];exact g1
    | _=>exact cU e1)
  (fun h1 h2 h3 h4 h5 hk he=>PS.weak (u9 (sE he O) (Af (rW O h1 h2 h3) (sE hk O) set_list (pq h5)) (xS h4) rfl) JB)
  (fun h1 h2 h3 h4 h5 hk he=>PS.weak (u9 (sE he O) (Af (rW O h1 h2 h3) (sE hk O) set_dict (pq h5)) (xS h4) rfl) Fj)
  (fun h1 h2 h3 he=>PS.weak (Ho O.nd (by rw[O.hN];exact h1) (mJ O h2) (sE he O) (xF h3) (.inl (hf _))) JA)
  (fun h1 h2 ho he=>PS.weak (HB (sE ho O) (sE he O) (lI h2)) (Fg h1))
  (fun h1 h3 ho he=>PS.weak (yJ (sE ho O) (sE he O) (xF h3)) (Fi h1))
  (fun h he=>PS.weak (DA (sE he O) (lI h)) fun D σ H q =>
   jR (k:=fun s=>BT.kEx s) (fun s h=>by simp only[BT.evS]) q fun m s h y fl v H1 R S r e1 post=>by
    simp only[BT.kEx] at e1
    cases e1
    exact post σ H1 m (.refl _ _) R S)
  (fun he=>PS.weak (Ad (sE he O)) fun D σ H q =>
   jR (k:=fun s=>BT.AV) (fun s h=>by simp only[BT.evS]) q fun m s h y fl v H1 R S r e1 post=>by
    simp only[BT.AV] at e1
    cases e1
    exact post v H1 m (.refl _ _) R r)
  (fun h hc ha hb ia ib=>PS.weak (K2 (sT hc O h).1 ia ib) fun D σ H q=>by
   obtain ⟨m,s,h,fl,R,S,e,post⟩:=q
   simp only[BT.evS] at e
   obtain ⟨t,g,e1,e2⟩:=xR e
   refine ⟨m,s,h,t,g,R,S,e1,fun H1 m1 x1 R1=>?_⟩
   simp only[BT.kIf] at e2
   cases t with
   | true=>exact ⟨m1,s,g,fl,R1,S.ext x1,e2,post.ext x1⟩
   | false=>exact ⟨m1,s,g,fl,R1,S.ext x1,e2,post.ext x1⟩)
  (fun h hc hb ib=>PS.weak (Ah O.own (sT hc O h).1 ib) Jz)
  (fun hu ht hi hz hs hb ib=>by
   obtain ⟨g,hg1,hg2⟩:=sCT O (O.calm hu) ht (fun q _=>.inl (hf q.2))
   exact PS.weak (Hr O.own (O.calm hu) (sCI hi O hz) hg1 ib (xM hs)) (JC hg2))
  (PS.weak Ac fun D σ H q=>by
   obtain ⟨m,s,h,fl,R,S,e,post⟩:=q
   simp only[BT.evS] at e
   cases e
   exact post σ H m (.refl _ _) R S)
  (PS.weak tO fun D σ H q=>by
   obtain ⟨m,s,h,fl,R,S,e,post⟩:=q
   simp only[BT.evS] at e
   cases e
   exact post σ H m (.refl _ _) R S)
  (fun pins s σ H D I q=>by
   obtain ⟨m,s,h,fl,R,S,e,post⟩:=q
   simp only[BT.evS] at e
   exact cU e)
  B8
  (fun _ ih=>wK ih)
  (fun _ _ ih ir=>PSs.weak (tN ih ir) B5)
  hh
theorem sSs (O:Ok X F G sc N) (hf:∀ x,X.fn x=true) {sts:List Sv} (hh:CSs sc N s sts):PSs X sts (tDS X F G s):=by
 refine CSs.rec (motive_1:=fun _ _ _=>True) (motive_2:=fun s sts _=>PSs X sts (tDS X F G s)) ?_ ?_ ?_ ?_ ?_ ?_ ?_ ?_ ?_ ?_ ?_ ?_ ?_ ?_ ?_ ?_ ?_ ?_ B8 (fun h _=>wK (sS O hf h)) (fun h _ _ ir=>PSs.weak (tN (sS O hf h) ir) B5) hh<;>(intros;trivial)
end
section
variable {K:Rj}
mutual
theorem RD.shrink (x:∀ a∈m,a∈m'):∀ {v:V}{d:BT.D},RD K m' H v d->RD K m H v d
 | _,_,.non=>.non
 | _,_,.bl b=>.bl b
 | _,_,.int i=>.int i
 | _,_,.str y h=>.str y h
 | _,_,.tup h r=>.tup (h.elim (fun q=>.inl ⟨q.1,fun z=>q.2 (x _ z)⟩) .inr) (RDs.shrink x r)
 | _,_,.lst h r=>.lst (h.elim (fun q=>.inl ⟨q.1,fun z=>q.2 (x _ z)⟩) .inr) (RDs.shrink x r)
theorem RDs.shrink (x:∀ a∈m,a∈m'):∀ {vs:List V}{ds:List BT.D},RDs K m' H vs ds->RDs K m H vs ds
 | _,_,.nil=>.nil
 | _,_,.cons r t=>.cons (RD.shrink x r) (RDs.shrink x t)
end
end
theorem RFs.shrink {K:Rj}:∀ {vs0 vs:List (Str×V)}{fs:List (Str×BT.W)},RFs K m H vs0 fs->RFs K (m++ex) H' vs fs->RFs K m H' vs fs
 | _,_,_,.nil,.nil=>.nil
 | _,_,_,.cons r0 t0,.cons r t=>by
  refine .cons ?_ (RFs.shrink t0 t)
  have back:∀ {n:Nat}{a b:Rz},m[n]?=some b->(m++ex)[n]?=some a->m[n]?=some a:=fun {n a b} h1 h2=>by
   rw[Rx (getD_some h1)] at h2
   exact h2
  cases r with
  | p r=>exact .p (r.shrink fun a ha=>TR _ ha)
  | r h=>cases r0 with | r h0=>exact .r (back h0 h)
  | o h=>cases r0 with | o h0=>exact .o (back h0 h)
theorem RKs.shrink {K:Rj} (sub:∀ a∈m,a∈m') (r:RKs K m' H vs kvs):RKs K m H vs kvs:=by
 induction r with
 | nil=>exact .nil
 | cons hk r t ih=>exact .cons (hk.shrink sub) (r.shrink sub) ih
theorem mO {K:Rj} (e:BT.fin h y g=some (z,h')) (R:RH K m H h) (x:Ext m H m' H') (R':RH K m' H' g) (r:RW P w K m' H' v y) :
 ∃ m2,Ext m H m2 H'/\RH K m2 H' h'/\RW P w K m2 H' v z:=by
 unfold BT.fin at e
 split at e
 ·cases e;exact ⟨m',x,R',r⟩
 ·split at e
  ·rename_i c1 c2
   obtain ⟨ex,rfl,hx⟩:=x.pre
   have sub:∀ a∈m,a∈m++ex:=fun a ha=>TR _ ha
   have x2:Ext m H m H':=⟨⟨[],by simp,by simp⟩,x.keep,x.live,x.frz⟩
   have R2:RH K m H' h:=by
    refine ⟨R.nd,R.len,fun i a xs e1 e2=>?_,R'.tb⟩
    have hi:i < m.length:=getD_some e1
    have hi2:i < h.length:=by rw[← R.len];exact hi
    have e3:g[i]?=some xs:=by
     rw[← c2,T6 hi2] at e2
     exact e2
    have z:=R'.cl i a xs (by rw[Rx hi];exact e1) e3
    cases xs with
    | l ys=>obtain ⟨vs,q1,q2⟩:=z;exact ⟨vs,q1,q2.shrink sub⟩
    | o c fs =>
     obtain ⟨C0,dx0,vs0,_,_,q0⟩:=R.cl i a _ e1 e2
     obtain ⟨C,dx,vs,q1,q2,q3⟩:=z
     exact ⟨C,dx,vs,q1,q2,q0.shrink q3⟩
    | d kvs=>obtain ⟨vs,q1,q2⟩:=z;exact ⟨vs,q1,q2.shrink sub⟩
    | z=>exact z
   cases r with
   | p r=>cases e;exact ⟨m,x2,R2,.p (r.shrink sub)⟩
   | k _ _=>exact cU e
   | kl _ _=>exact cU e
   | c _ _=>exact cU e
   | x _=>exact cU e
   | g _ _=>exact cU e
   | @o a n hn =>
    simp only at e
    split at e
    ·rename_i c3
     cases e
     refine ⟨m,x2,R2,.o ?_⟩
     rw[Rx (by rw[R.len];exact c3)] at hn
     exact hn
    ·cases e;exact ⟨m++ex,x,R',.o hn⟩
   | @r a n hn =>
    simp only at e
    split at e
    ·rename_i c3
     cases e
     refine ⟨m,x2,R2,.r ?_⟩
     rw[Rx (by rw[R.len];exact c3)] at hn
     exact hn
    ·rename_i c3
     obtain ⟨xs,e4,e5⟩:=dh e
     cases e5
     obtain ⟨vs,q1,q2⟩:=R'.cell n a xs hn e4
     refine ⟨m,x2,R2,.p (.lst (.inl ⟨.inl q1,fun z=>?_⟩) (q2.shrink sub))⟩
     obtain ⟨j,hj⟩:=SZ z
     have hjl:=getD_some hj
     have ej:(m++ex)[j]?=some a:=by rw[Rx hjl];exact hj
     have:=qI R'.nd ej hn
     rw[R.len] at hjl
     lia
  ·cases e;exact ⟨m',x,R',r⟩
theorem uI {K:Rj} (r:RWs P w K m H vs ws):RS P w K m H (L2.start N vs) (BT.iV N.length ws):=by
 have hl:=r.length
 refine ⟨by simp[L2.start,BT.iV,hl],fun i y e=>?_⟩
 simp only[BT.iV] at e
 by_cases c:i < ws.length
 ·rw[Rx (by simpa using c),RY] at e
  obtain ⟨z,e1,e2⟩:=dh e
  cases e2
  have:∀ {vs:List V}{ws:List BT.W}{i:Nat},RWs P w K m H vs ws->ws[i]?=some y->∃ v,vs[i]?=some v/\RW P w K m H v y:=by
   intro vs ws i r
   induction r generalizing i with
   | nil=>intro e;simp at e
   | cons r t ih =>
    intro e
    cases i with
    | zero=>simp at e;subst e;exact ⟨_,rfl,r⟩
    | succ i=>simpa using ih (by simpa using e)
  obtain ⟨v,h1,h2⟩:=this r e1
  refine ⟨v,?_,h2⟩
  unfold L2.start
  rw[Rx (by simp;lia),RY,h1];rfl
 ·rw[RZ (by simpa using c),Uc] at e
  split at e<;>cases e
theorem JD {K:Rj} (hT:BT.qb L=some ⟨ns,ns,.ret bt⟩)
 (hg:∀ ws h r,g ws h=some r->ws.length=ns.length/\BT.oO (BT.evS F G (.ret bt) (BT.iV ns.length ws) h) (BT.fin h)=some r)
 (hO:∀ (q:Str) (sc:Sx) (cl:List (Str×Rz)) (f c':Rz) (A:Sw) (outer:List Env) (s:Rm) (H:Hp),ns.Nodup->fz k (A.deeper (Ut q sc s.heap.objs.size f (.ref c') cl))->Ok (Bw P w K mg base ns q sc cl f c' A outer s H) F G sc ns):ux P w K mg base (k+1) L g:=by
 intro A outer s H f us vs cvs m ws cs h z h' Q E hr e0 rv R rw nc la rc e post
 obtain ⟨bt',ps,fs,pa,be,sc,cl,pm,ctv,c',oc,os,t,q,l0,l1,l2,l3,l4,l5,l6,l7,l8,l9,l10⟩:=la
 rw[hT] at l0
 cases l0
 have lf:=MG l2
 obtain ⟨hwl,e1⟩:=hg _ _ _ e
 have C:=l10.cells l5
 have J9:=rv.length
 have Ka:=rw.length
 have Gg:=l10.len
 have Kc:cvs.length=cs.length:=by
  clear e e1 hwl l10 Gg
  induction rc with
  | nil=>rfl
  | cons _ _ ih=>simp[ih]
 have hu:us.length=ps.length:=by
  simp only[RT,RP] at hwl
  lia
 refine PySem.W.kla_callFunE hr.depth (e0.hok _ _ l6.1).1 rfl lf.co lf.ge rfl ⟨c',oc,os,t,rfl,(e0.hok _ _ l7.1).1,l8,l9⟩ ?_
 rw[EK l1 hu]
 refine wpAny_pure (wpAny_newFunctionEnv lf.cell (fun y hy=>lf.loc y.1 (UV hy).1) (fun h1 hns hsb=>?_) lf.kd)
 have hk1:∀ b o,s.heap.get? b=some o->h1.get? b=some o:=fun b o e=>hsb.extBut b o (RK (Rt e)) (Rk _ e)
 refine ⟨e0.mod.nolimit.keeps fun b o e=>hk1 b o (e0.bs b o e).1,?_⟩
 show codeAny _ _ (.expr be (Ut q sc s.heap.objs.size f (.ref c') cl)) _ _
 refine PySem.W.kla_codeExpr ?_
 have I:=EL (q:=q) (f:=f) (c':=c') (tk:=s.toks+(ps.zip us).length) l1 lf l4 l5 l10 hr.hd e0 rv hu hns hk1
 have hr1:fz k (A.deeper (Ut q sc s.heap.objs.size f (.ref c') cl)):=hr.deeper _
 have O:=hO q sc cl f c' A outer s H lf.nd hr1
 simp only[BT.evS] at e1
 cases g1:BT.ev F G bt (BT.iV (ps++fs).length (ws++cs.map BT.Cp.w)) h with
 | none=>rw[g1] at e1;exact cU e1
 | some yg =>
  obtain ⟨y,gh⟩:=yg
  rw[g1] at e1
  have e2:BT.fin h y gh=some (z,h'):=e1
  have hs:RS P w K m (hid cl H) (vs.map some++cvs.map some) (BT.iV (ps++fs).length (ws++cs.map BT.Cp.w)):=by
   have r0:=uI (N:=ps++fs) ((rw.tr C.sq nc).app (RCs.ws (P:=P) (w:=w) (rc.tr C.sq)))
   have e3:L2.start (ps++fs) (vs++cvs)=vs.map some++cvs.map some:=by
    unfold L2.start
    simp only[RT]
    rw[show ps.length+fs.length - (vs.length+cvs.length)=0 by lia]
    simp
   rw[e3] at r0;exact r0
  refine SX (sE l3 O [] _ _ _ (fun v H'=>∃ m',Ext m (hid cl H) m' H'/\RH K m' H' gh/\RW P w K m' H' v y) I ⟨m,_,h,y,gh,C.rh R,hs,g1,fun v H' m' x' R' r'=>⟨m',x',R',r'⟩⟩) (fun u s' ⟨v,H',I',rv',m',x',R',r'⟩=>?_) (fun e s' hx=>Sk hx)
  have N':∀ x c,cl.lookup x=some c->H' c=none:=fun x c e=>I'.freeC x c e
  have le:Le H' (ret cl H H'):=Jc N'
  obtain ⟨m2,x2,R2,r2⟩:=mO e2 (C.rh R) x' R' r'
  have B:Un (frs outer) [] (hid cl H) H' s.heap s'.heap:=I'.base
  have nc':∀ b,H b=none->¬ ∃ y,cl.lookup y=some b:=fun b n ⟨y,qq⟩=>by
   obtain ⟨o,uu,k1,_⟩:=C y b qq
   rw[n] at k1;exact cU k1
  refine ⟨v,ret cl H H',I'.os,I'.bare,⟨fun b o e n hb hx=>B.keep b o e (iw n) hb hx,fun b o e n hb hx=>B.slot b o e (iw n) hb hx,fun b o e n hx=>?_,fun b o e hx=>B.there b o e hx,fun b xs e=>?_,fun b o uu e=>?_,fun b qs e=>?_⟩,fun b uu e=>?_,rv',post v _ m2 (C.Jd N' x2 R2) (R2.le le) (r2.le le)⟩
  ·rw[gG (nc' b n)];exact B.free b o e (iw n) hx
  ·rw[gG (C.out e rfl)];exact B.tups b xs (C.hid e rfl)
  ·by_cases cc:∃ y,cl.lookup y=some b
   ·obtain ⟨y,qq⟩:=cc;rw[oY qq];exact e
   ·rw[gG cc];exact B.frzs b o uu (by rw[fD cc];exact e)
  ·rw[gG (C.out e rfl)];exact B.tbls b qs (C.hid e rfl)
  ·by_cases cc:∃ y,cl.lookup y=some b
   ·obtain ⟨y,qq⟩:=cc
    rw[oY qq] at e
    obtain ⟨o,u2,k1,k2⟩:=C y b qq
    rw[k1] at e
    cases e
    have k3:=B.keep b o (e0.hok _ _ k1).1 (vR qq) (fun hb=>by rw[e0.frf b hb] at k1;exact cU k1) (by simp)
    exact ⟨k3,_,k3⟩
   ·rw[gG cc] at e
    exact (I'.hok b uu e).stay (fun _ _ _ q=>q) (fun d q=>le _ _ q) fun d xs q=>le _ _ q
noncomputable def mZ (K:Rj) (q:Str) (fd:S9) (fn:BT.Fn):Prop:=∀ y,fn.ns.contains (BT.fu y)=true->q=y/\y∈BT.gn ∧
 (∃ c P,Sn K y=some (c,P)/\fd.code=.ref c/\UE K c P=true/\∀ z∈BT.gn,∀ c2,Sn K z=some (c2,P)->z=y) ∧
 ∃ bm ob,Sh K RI "__builtins__"=some (some (.ref bm))/\bm≠To/\K.lookup bm=some ob/\ob.cls=.type "module"/\ob.dict=some To/\ob.data=.plain
inductive MR (K:Rj) (mg:Str->Option Rl) (x:Str) (fn:BT.Fn):Prop where
 | mk (f:Rz) (fd:S9) (st:Sv) (h1:mg x=some (.ref f)) (h2:Fun K x x st f fd) (h3:fU fn.ns fn.ps (c7 st)) (h4:Binds K fd fn.ps []) (h5:CSs (c7 st) fn.ns fn.body (dI st)) (h6:mZ K x fd fn):MR K mg x fn
structure Def (K:Rj) (mg:Str->Option Rl) (x:Str) (fn:BT.Fn):Prop where
 ex:MR K mg x fn
inductive GR (K:Rj) (mg:Str->Option Rl) (c m:Str) (fn:BT.Fn):Prop where
 | mk (C f:Rz) (fd:S9) (x qual:Str) (st:Sv) (h1:mX K c C) (h2:mg c=some (.ref C)) (h3:yI K C m f) (h4:(m="__init__"->Mk K C f)) (h5:Fun K x qual st f fd) (h6:fU fn.ns fn.ps (c7 st)) (h7:Binds K fd fn.ps []) (h8:CSs (c7 st) fn.ns fn.body (dI st)) (h9:mZ K qual fd fn):GR K mg c m fn
structure B9 (K:Rj) (mg:Str->Option Rl) (c m:Str) (fn:BT.Fn):Prop where
 ex:GR K mg c m fn
structure Txt (P:RG) (w:Sb) (K:Rj) (mg:Str->Option Rl) (T:BT.FK->Option BT.Fn) (G:Str->Option BT.W):Prop where
 defs:∀ x fn,T (.f x)=some fn->Def K mg x fn
 meths:∀ c m fn,T (.m c m)=some fn->B9 K mg c m fn
 lams:∀ L fn,T (.l L)=some fn->BT.qb L=some fn/\∃ ns bt,fn=⟨ns,ns,.ret bt⟩/\∀ y,ns.contains (BT.fu y)=false
 glob:∀ x z,G x=some z->∃ u v,mg x=some u/\RelV v u/\∀ m H,RW P w K m H v z
 blt:∀ x∈MD,mg x=none
theorem xT (e:BT.runN T G k x ws h=some r):∃ fn,T x=some fn:=by
 cases k with
 | zero=>exact cU e
 | succ k =>
  rw[BT.runN] at e
  cases q:T x with
  | none=>rw[q] at e;exact cU e
  | some fn=>exact ⟨fn,rfl⟩
theorem Fo {K:Rj}{st:Sv} (F:Fun K x qual st f fd) (S:fU N ps (c7 st)) (len:∀ vs H Q E,sp vs H Q E->vs.length=ps.length)
 (hbody:∀ (cdv:Rl) (A:Sw) (outer:List Env) (s:Rm) (H:Hp) (vs:List V) (Q:VK) (E:XK),fd.code=cdv->fz k (A.deeper (Wx qual (c7 st) s.heap.objs.size f cdv))->Mod K mg base->sp vs H Q E →
  ∃ t,PSs (vo CX0 P w K mg base N qual (c7 st) f cdv A outer s H E).nox (dI st) t/\t { nx:=fun _ H'=>Q .non H',rt:=Q } (L2.start N vs) H):je P w K mg base CX0 (k+1) f fd ps sp:=by
 obtain ⟨oc,od,kV,doc,pm,an,cdv,ct,osl,rfl,lk,hcd⟩:=F.ex
 refine ⟨len,fun A outer s H args us vs Q E hr e0 hb r hs=>?_⟩
 have F1:je P w K mg base CX0 (k+1) f (SM x qual (fS st) (dI st) (c7 st) .none kV doc pm an cdv ct) ps sp:=Ll lk hcd S len fun A outer s H vs Q E hr hsp=>by
  obtain ⟨t,h,q⟩:=hbody cdv A outer s H vs Q E rfl hr e0.mod hsp
  exact ⟨t,h.nox,q⟩
 exact F1.run A outer s H args us vs Q E hr e0 hb r hs
theorem GS {K:Rj} (X:Txt P w K mg T G)
 (ih:∀ (x:BT.FK) (fn:BT.Fn),T x=some fn->∀ (f:Rz) (fd:S9) (nm qual:Str) (st:Sv),Fun K nm qual st f fd->fU fn.ns fn.ps (c7 st)->CSs (c7 st) fn.ns fn.body (dI st)->mZ K qual fd fn->je P w K mg base CX0 (2*k) f fd fn.ps (spF P w K (BT.runN T G k x)))
 (il:∀ L,(∃ fn,T (.l L)=some fn)->ux P w K mg base (2*k) L (BT.runN T G k (.l L)))
 (e1:Y.prog=P) (e2:Y.w=w) (e3:Y.K=K) (e4:Y.mg=mg) (e5:Y.base=base) (hsc:Y.env.scope=sc) (hN:Y.N=N) (nd:Y.N.Nodup) (ca:Y.calm=true) (hr:fz (2*k+1) Y.A) (own:PassesOwn (RX Y.prog Y.w) Y.A Y.env Y.xe)
 (lx:(∀ x,Y.fn x=true)->∀ x,N.contains (BT.fu x)=true->LX Y x):Ok Y (BT.runN T G k) G sc N:=by
 subst e1 e2 e3 e4 e5
 refine ⟨hsc,hN,nd,fun _=>ca,?_,own,X.glob,fun g ws h r e=>?_,fun c g ws h r e=>?_,fun c ws h r e=>?_,X.blt,fun L ws h r e=>⟨2*k,hr.mono (Te _),il L (xT e)⟩,lx⟩
 ·have:=hr.un
  lia
 ·obtain ⟨fn',hTg⟩:=xT e
  obtain ⟨f',fd',st',a1,a2,a3,a4,a5,a6⟩:=(X.defs g fn' hTg).ex
  exact ⟨f',fd',fn'.ps,2*k,a1,a2.kp,a4,hr.mono (Te _),ih _ fn' hTg f' fd' g g st' a2 a3 a5 a6⟩
 ·obtain ⟨fn',hTg⟩:=xT e
  obtain ⟨C,f',fd',x',q',st',b1,b2,b3,b4,a2,a3,a4,a5,a6⟩:=(X.meths c g fn' hTg).ex
  exact ⟨C,f',fd',fn'.ps,2*k,b1,b3,a4,hr.mono (Te _),ih _ fn' hTg f' fd' x' q' st' a2 a3 a5 a6⟩
 ·obtain ⟨fn',hTg⟩:=xT e
  obtain ⟨C,f',fd',x',q',st',b1,b2,b3,b4,a2,a3,a4,a5,a6⟩:=(X.meths c _ fn' hTg).ex
  exact ⟨C,f',fd',fn'.ps,2*k,b1,b2,b4 rfl,a4,hr,ih _ fn' hTg f' fd' x' q' st' a2 a3 a5 a6⟩
theorem Fp {K:Rj} (X:Txt P w K mg T G) :
 ∀ (k:Nat),(∀ (x:BT.FK) (fn:BT.Fn),T x=some fn->∀ (f:Rz) (fd:S9) (nm qual:Str) (st:Sv),Fun K nm qual st f fd->fU fn.ns fn.ps (c7 st)->CSs (c7 st) fn.ns fn.body (dI st)->mZ K qual fd fn->je P w K mg base CX0 (2*k) f fd fn.ps (spF P w K (BT.runN T G k x))) ∧
  ∀ L,(∃ fn,T (.l L)=some fn)->ux P w K mg base (2*k) L (BT.runN T G k (.l L)):=by
 intro k
 induction k with
 | zero =>
  refine ⟨fun x fn hT f fd nm qual st h2 h3 h5 h6=>?_,fun L hL=>?_⟩
  ·have no:∀ vs H Q E,¬ spF P w K (BT.runN T G 0 x) vs H Q E:=fun vs H Q E h=>by
    obtain ⟨m,ws,h,z,h',_,_,e,_⟩:=h
    exact cU e
   exact ⟨fun vs H Q E h=>absurd h (no vs H Q E),fun A outer s H args us vs Q E _ _ _ _ h=>absurd h (no vs H Q E)⟩
  ·intro A outer s H f us vs cvs m ws cs h z h' Q E hr e0 rv R rw nc la rc e post
   exact cU e
 | succ k ihk =>
  obtain ⟨ih,il⟩:=ihk
  refine ⟨fun x fn hT f fd nm qual st h2 h3 h5 h6=>?_,fun L hL=>?_⟩
  ·show je P w K mg base CX0 (2*k+1+1) f fd fn.ps (spF P w K (BT.runN T G (k+1) x))
   refine Fo h2 h3 (fun vs H Q E h=>?_) fun cdv A outer s H vs Q E hcd hr hM h=>?_
   ·obtain ⟨m,ws,h,z,h',R,r,e,post⟩:=h
    rw[BT.runN,hT] at e
    simp only at e
    split at e
    ·rename_i c;rw[r.length];exact c
    ·exact cU e
   ·obtain ⟨m,ws,h,z,h',R,r,e,post⟩:=h
    rw[BT.runN,hT] at e
    simp only at e
    split at e
    ·have O:Ok (vo CX0 P w K mg base fn.ns qual (c7 st) f cdv A outer s H E).nox (BT.runN T G k) G (c7 st) fn.ns:=by
      refine GS X ih il rfl rfl rfl rfl rfl rfl rfl h3.nd rfl hr Vv fun _ y hy=>?_
      obtain ⟨t1,t2,⟨c,Pt,t3,t4,t5,t6⟩,bm,ob,t7,t8,t9,t10,t11,t12⟩:=h6 y hy
      exact ⟨t2,⟨c,Pt,t3,hcd.symm.trans t4,WB hM.kin t5,t6⟩,by show qual++".<locals>."=_;rw[t1],bm,ob,Tj hM.kin hM.glob t7,t8,hM.kin _ _ t9,t10,t11,t12⟩
     refine ⟨_,sSs O (fun _=>rfl) h5,?_⟩
     cases gg:BT.evS (BT.runN T G k) G fn.body (BT.iV fn.ns.length ws) h with
     | none=>rw[gg] at e;exact cU e
     | some fl =>
      rw[gg] at e
      refine ⟨m,_,h,fl,R,uI r,gg,?_⟩
      cases fl with
      | rt y g =>
       intro v H' m' x' R' r'
       obtain ⟨m2,y1,y2,y3⟩:=mO e R x' R' r'
       exact post v H' m2 y1 y2 y3
      | nx s' g =>
       intro σ' H' m' x' R' _
       obtain ⟨m2,y1,y2,y3⟩:=mO (v:=.non) e R x' R' (.p .non)
       exact post .non H' m2 y1 y2 y3
      | bk s' g=>exact cU e
      | ct s' g=>exact cU e
    ·exact cU e
  ·obtain ⟨fn,hT⟩:=hL
   obtain ⟨hl,ns,bt,rfl,nt⟩:=X.lams L fn hT
   show ux P w K mg base (2*k+1+1) L (BT.runN T G (k+1) (.l L))
   refine JD (F:=BT.runN T G k) (G:=G) hl (fun ws h r e=>?_) fun q sc cl f c' A outer s H nd hr=>GS X ih il rfl rfl rfl rfl rfl rfl rfl nd rfl hr Vv fun _ y hy=>absurd hy (by rw[nt y];decide)
   rw[BT.runN,hT] at e
   simp only at e
   split at e
   ·rename_i c;exact ⟨c,e⟩
   ·exact cU e
theorem JE {K:Rj} (X:Txt P w K mg T G) (k:Nat) (x:BT.FK) (fn:BT.Fn) (hT:T x=some fn) (f:Rz) (fd:S9) (nm qual:Str) (st:Sv) (h2:Fun K nm qual st f fd) (h3:fU fn.ns fn.ps (c7 st)) (h5:CSs (c7 st) fn.ns fn.body (dI st)) (h6:mZ K qual fd fn) :
 je P w K mg base CX0 (2*k) f fd fn.ps (spF P w K (BT.runN T G k x)):=(Fp X k).1 x fn hT f fd nm qual st h2 h3 h5 h6
end BS
end
section
namespace BT
open PySem
noncomputable def fB:Fn:=⟨["part"],["part"],
 (.seq (.ife (.cmp .eq (.idx (.glo "INNER_COUNTS") (.idx (.var 0) (.cst (.int 0)))) (.cst (.int 0))) (.ret (.tup .nil)) .nil)
 (.ret (.slc (.var 0) (.cons (.cst (.int 1)) .nil) .nil)))⟩
noncomputable def lJ:Fn:=⟨[],[],
 (.ret (.tup (.cons (.cst (.int 0)) (.cons (.bin .mul (.tup (.cons (.cst (.int 0)) .nil)) (.bi .len false (.cons (.glo "LETTERS") .nil))) (.cons (.bin .mul (.tup (.cons (.cst (.int 0)) .nil)) (.glo "CELL_COUNT")) (.cons (.tup .nil) (.cons (.cst (.int 0)) (.cons (.tup .nil) .nil))))))))⟩
noncomputable def iM:Fn:=⟨["term"],["term","parts","waiting","part"],
 (.seq (.set 1 (.lst true .nil))
 (.seq (.set 2 (.lst true (.cons (.var 0) .nil)))
 (.seq (.whl (.cmp .gt (.bi .len false (.cons (.var 2) .nil)) (.cst (.int 0))) (.seq (.set 3 (.me .pop (.var 2) .nil))
 (.seq (.ex (.me .append (.var 1) (.cons (.var 3) .nil)))
 (.ex (.me .extend (.var 2) (.cons (.call "inner_sums" (.cons (.var 3) .nil)) .nil))))))
 (.ret (.var 1)))))⟩
noncomputable def kg:Fn:=⟨["word","one","other"],["word","one","other"],
 (.seq (.ife (.cmp .eq (.var 0) (.cst (.str "less"))) (.ret (.ite (.cmp .lt (.var 1) (.var 2)) (.cst (.int 1)) (.cst (.int 0)))) .nil)
 (.seq (.ife (.cmp .eq (.var 0) (.cst (.str "add"))) (.ret (.bin .mod (.bin .add (.var 1) (.var 2)) (.glo "WORTH_COUNT"))) .nil)
 (.seq (.ife (.cmp .eq (.var 0) (.cst (.str "sub"))) (.ret (.bin .mod (.bin .sub (.var 1) (.var 2)) (.glo "WORTH_COUNT"))) .nil)
 (.ret (.bin .mod (.bin .mul (.var 1) (.var 2)) (.glo "WORTH_COUNT"))))))⟩
noncomputable def iz:Fn:=⟨["thing"],["thing"],
 (.ret (.cmp .mem (.var 0) (.glo "LETTERS")))⟩
noncomputable def gy:Fn:=⟨["state","thing"],["state","thing"],
 (.seq (.ife (.call "is_name" (.cons (.var 1) .nil)) (.ret (.idx (.idx (.var 0) (.glo "NAMES")) (.me .tindex (.glo "LETTERS") (.cons (.var 1) .nil)))) .nil)
 (.seq (.ex (.call "check_thing" (.cons (.var 1) .nil)))
 (.ret (.idx (.idx (.var 0) (.glo "CELLS")) (.var 1)))))⟩
noncomputable def eZ:Fn:=⟨["part","worths","state"],["part","worths","state","word","last"],
 (.seq (.set 3 (.idx (.var 0) (.cst (.int 0))))
 (.seq (.ife (.cmp .eq (.var 3) (.cst (.str "num"))) (.ret (.idx (.var 0) (.cst (.int 1)))) .nil)
 (.seq (.ife (.cmp .eq (.var 3) (.cst (.str "name"))) (.ret (.call "worth_in" (.cons (.var 2) (.cons (.idx (.var 0) (.cst (.int 1))) .nil)))) .nil)
 (.seq (.set 4 (.me .pop (.var 1) .nil))
 (.seq (.ife (.cmp .eq (.var 3) (.cst (.str "cell"))) (.ret (.idx (.idx (.var 2) (.glo "CELLS")) (.bin .mod (.var 4) (.glo "CELL_COUNT")))) .nil)
 (.ret (.call "of_two" (.cons (.var 3) (.cons (.me .pop (.var 1) .nil) (.cons (.var 4) .nil))))))))))⟩
noncomputable def iN:Fn:=⟨["term","state"],["term","state","worths","part"],
 (.seq (.set 2 (.lst true .nil))
 (.seq (.for [(3,"part")] .rev (.cons (.call "laid_out" (.cons (.var 0) .nil)) .nil) (.ex (.me .append (.var 2) (.cons (.call "worth_of" (.cons (.var 3) (.cons (.var 2) (.cons (.var 1) .nil)))) .nil))))
 (.ret (.idx (.var 2) (.cst (.int 0))))))⟩
noncomputable def jo:Fn:=⟨["term","state"],["term","state"],
 (.ret (.bin .mod (.call "reckoned" (.cons (.var 0) (.cons (.var 1) .nil))) (.glo "CELL_COUNT")))⟩
noncomputable def iA:Fn:=⟨["program","state"],["program","state","word"],
 (.seq (.ife (.cmp .ge (.idx (.var 1) (.glo "ROW")) (.bi .len false (.cons (.var 0) .nil))) (.ret (.cst (.bl true))) .nil)
 (.seq (.set 2 (.idx (.idx (.var 0) (.idx (.var 1) (.glo "ROW"))) (.cst (.int 0))))
 (.seq (.ife (.cmp .eq (.var 2) (.cst (.str "back"))) (.ret (.cmp .eq (.bi .len false (.cons (.idx (.var 1) (.glo "CALLS")) .nil)) (.cst (.int 0)))) .nil)
 (.seq (.ife (.cmp .eq (.var 2) (.cst (.str "call"))) (.ret (.cmp .ge (.bi .len false (.cons (.idx (.var 1) (.glo "CALLS")) .nil)) (.glo "MOST_CALLS"))) .nil)
 (.ret (.cmp .eq (.var 2) (.cst (.str "stop"))))))))⟩
noncomputable def fE:Fn:=⟨["row","state"],["row","state","word"],
 (.seq (.set 2 (.idx (.var 0) (.cst (.int 0))))
 (.seq (.ife (.or (.cmp .eq (.var 2) (.cst (.str "jump"))) (.cmp .eq (.var 2) (.cst (.str "call")))) (.ret (.idx (.var 0) (.cst (.int 1)))) .nil)
 (.seq (.ife (.cmp .eq (.var 2) (.cst (.str "back"))) (.ret (.idx (.idx (.var 1) (.glo "CALLS")) (.neg (.cst (.int 1))))) .nil)
 (.seq (.ife (.and (.cmp .eq (.var 2) (.cst (.str "unless"))) (.cmp .eq (.call "reckoned" (.cons (.idx (.var 0) (.cst (.int 1))) (.cons (.var 1) .nil))) (.cst (.int 0)))) (.ret (.idx (.var 0) (.cst (.int 2)))) .nil)
 (.ret (.bin .add (.idx (.var 1) (.glo "ROW")) (.cst (.int 1))))))))⟩
noncomputable def gq:Fn:=⟨["worths","number","worth"],["worths","number","worth"],
 (.ret (.bin .add (.bin .add (.slc (.var 0) .nil (.cons (.var 1) .nil)) (.tup (.cons (.var 2) .nil))) (.slc (.var 0) (.cons (.bin .add (.var 1) (.cst (.int 1))) .nil) .nil)))⟩
noncomputable def gH:Fn:=⟨["state","name","worth"],["state","name","worth"],
 (.ret (.call "with_worth" (.cons (.idx (.var 0) (.glo "NAMES")) (.cons (.me .tindex (.glo "LETTERS") (.cons (.var 1) .nil)) (.cons (.var 2) .nil)))))⟩
noncomputable def iB:Fn:=⟨["asked","number"],["asked","number"],
 (.ret (.ite (.cmp .lt (.var 1) (.bi .len false (.cons (.var 0) .nil))) (.idx (.var 0) (.var 1)) (.cst (.int 0))))⟩
noncomputable def jq:Fn:=⟨["program","asked","state"],["program","asked","state","row","word","behind"],
 (.seq (.set 3 (.idx (.var 0) (.idx (.var 2) (.glo "ROW"))))
 (.seq (.set 4 (.idx (.var 3) (.cst (.int 0))))
 (.seq (.set 5 (.bi .list true (.cons (.var 2) .nil)))
 (.seq (.put 5 (.glo "ROW") (.call "place_behind" (.cons (.var 3) (.cons (.var 2) .nil))))
 (.seq (.ife (.cmp .eq (.var 4) (.cst (.str "set"))) (.put 5 (.glo "NAMES") (.call "with_name" (.cons (.var 2) (.cons (.idx (.var 3) (.cst (.int 1))) (.cons (.call "reckoned" (.cons (.idx (.var 3) (.cst (.int 2))) (.cons (.var 2) .nil))) .nil))))) (.ife (.cmp .eq (.var 4) (.cst (.str "put"))) (.put 5 (.glo "CELLS") (.call "with_worth" (.cons (.idx (.var 2) (.glo "CELLS")) (.cons (.call "cell_by" (.cons (.idx (.var 3) (.cst (.int 1))) (.cons (.var 2) .nil))) (.cons (.call "reckoned" (.cons (.idx (.var 3) (.cst (.int 2))) (.cons (.var 2) .nil))) .nil))))) (.ife (.cmp .eq (.var 4) (.cst (.str "ask"))) (.seq (.put 5 (.glo "NAMES") (.call "with_name" (.cons (.var 2) (.cons (.idx (.var 3) (.cst (.int 1))) (.cons (.call "brought" (.cons (.var 1) (.cons (.idx (.var 2) (.glo "ASKED")) .nil))) .nil)))))
 (.put 5 (.glo "ASKED") (.bin .add (.idx (.var 2) (.glo "ASKED")) (.cst (.int 1))))) (.ife (.cmp .eq (.var 4) (.cst (.str "say"))) (.put 5 (.glo "SAID") (.bin .add (.idx (.var 2) (.glo "SAID")) (.tup (.cons (.call "reckoned" (.cons (.idx (.var 3) (.cst (.int 1))) (.cons (.var 2) .nil))) .nil)))) (.ife (.cmp .eq (.var 4) (.cst (.str "call"))) (.put 5 (.glo "CALLS") (.bin .add (.idx (.var 2) (.glo "CALLS")) (.tup (.cons (.bin .add (.idx (.var 2) (.glo "ROW")) (.cst (.int 1))) .nil)))) (.ife (.cmp .eq (.var 4) (.cst (.str "back"))) (.put 5 (.glo "CALLS") (.slc (.idx (.var 2) (.glo "CALLS")) .nil (.cons (.neg (.cst (.int 1))) .nil))) .nil))))))
 (.ret (.bi .tuple false (.cons (.var 5) .nil))))))))⟩
theorem xU:RM s=RM t↔s=t:=by
 constructor
 ·intro h
  rw[WK,WK] at h
  have h1:(s.toList.map Wm)=(t.toList.map Wm):=by
   have:=congrArg (fun x:Str=>x.cps.toList) h
   simpa using this
  have inj:∀ (a b:List Char),a.map Wm=b.map Wm->a=b:=by
   intro a
   induction a with
   | nil=>intro b h;cases b with
    | nil=>rfl
    | cons _ _=>simp at h
   | cons x xs ih=>intro b h;cases b with
    | nil=>simp at h
    | cons y ys =>
     simp only[RL,Ul] at h
     have:x=y:=Char.toNat_inj.mp h.1
     rw[this,ih ys h.2]
  have h2:=inj _ _ h1
  exact String.toList_inj.mp h2
 ·intro h;rw[h]
@[simp] theorem Oz (s t:String):(RM s==RM t)=(s==t):=by
 by_cases h:s=t
 ·subst h;simp
 ·have h1:¬ RM s=RM t:=fun e=>h (xU.mp e)
  rw[beq_eq_false_iff_ne.mpr h1,beq_eq_false_iff_ne.mpr h]
@[simp] theorem P6 (s t:String):(RM s=RM t)=(s=t):=propext xU
@[simp] theorem Q9 (h:List α) (a:α) (r:List α):(h++a :: r)[h.length]?=some a:=by simp
@[simp] theorem MS (h:List α) (a b:α) (r:List α):(h++a :: b :: r)[h.length+1]?=some b:=by
 rw[RZ (by lia)];simp
@[simp] theorem Rc (h:List α) (a x:α) (r:List α):(h++a :: r).set h.length x=h++x :: r:=by simp
@[simp] theorem Re (h:List α) (a b x:α) (r:List α):(h++a :: b :: r).set (h.length+1) x=h++a :: x :: r:=by
 rw[List.set_append_right _ _ (by lia)];simp
theorem cW (h:HH) (w:W):fin h w h=some (w,h):=by simp[fin]
theorem lK (h g:HH) (d:D):fin h (.p d) (h++g)=some (.p d,h):=by
 unfold fin
 cases g with
 | nil=>simp
 | cons c g=>simp
@[simp] theorem P7 (h:HH) (a:Cl) (r:HH):lat (h++a :: r) h.length=pX a:=by simp[lat]
@[simp] theorem Rf (h:HH) (a b:Cl) (r:HH):lat (h++a :: b :: r) (h.length+1)=pX b:=by
 unfold lat;rw[MS];rfl
@[simp] theorem Rg (h:HH) (a:Cl) (r:HH):oat (h++a :: r) h.length=rA a:=by simp[oat]
@[simp] theorem Rh (h:HH) (a b:Cl) (r:HH):oat (h++a :: b :: r) (h.length+1)=rA b:=by
 unfold oat;rw[MS];rfl
theorem Fq (e:lat h n=some ys) (c:Cl):lat (h.set n c) n=pX c:=by
 unfold lat at e ⊢
 cases g:h[n]? with
 | none=>rw[g] at e;exact gi e
 | some q=>rw[List.getElem?_set_self',g];rfl
theorem Ca (h:HH) (xs:List D) (g:HH):fin h (.r h.length) (h++.l xs :: g)=some (.p (.lst xs),h):=by
 unfold fin;simp
theorem xV (h h':HH) (w:W) (e:h'.length=h.length):fin h w h'=some (w,h'):=by simp[fin,e]
structure Prg (T:FK->Option Fn) (G:Str->Option W):Prop where
 inner_sums:T "inner_sums"=some fB
 begun:T "begun"=some lJ
 laid_out:T "laid_out"=some iM
 of_two:T "of_two"=some kg
 worth_of:T "worth_of"=some eZ
 is_name:T "is_name"=some iz
 worth_in:T "worth_in"=some gy
 reckoned:T "reckoned"=some iN
 cell_by:T "cell_by"=some jo
 is_over:T "is_over"=some iA
 place_behind:T "place_behind"=some fE
 with_worth:T "with_worth"=some gq
 with_name:T "with_name"=some gH
 brought:T "brought"=some iB
 stepped:T "stepped"=some jq
 LETTERS:G "LETTERS"=some (.p (.tup [.str "a",.str "b",.str "c",.str "d",.str "e",.str "f"]))
 CELL_COUNT:G "CELL_COUNT"=some (.p (.int 4))
 WORTH_COUNT:G "WORTH_COUNT"=some (.p (.int 10007))
 INNER:G "INNER_COUNTS"=some (.k (.t [("num",.int 0),("name",.int 0),("cell",.int 1),("add",.int 2),("sub",.int 2),("mul",.int 2),("less",.int 2)]))
 ROW:G "ROW"=some (.p (.int 0))
 NAMES:G "NAMES"=some (.p (.int 1))
 CELLS:G "CELLS"=some (.p (.int 2))
 CALLS:G "CALLS"=some (.p (.int 3))
 ASKED:G "ASKED"=some (.p (.int 4))
 SAID:G "SAID"=some (.p (.int 5))
 MOST_CALLS:G "MOST_CALLS"=some (.p (.int 6))
inductive Op where
 | add | sub | mul | less
noncomputable def Op.w:Op->String
 | .add=>"add" | .sub=>"sub" | .mul=>"mul" | .less=>"less"
inductive Nm where
 | a | b | c | d | e | f
noncomputable def Nm.w:Nm->String
 | .a=>"a" | .b=>"b" | .c=>"c" | .d=>"d" | .e=>"e" | .f=>"f"
noncomputable def Nm.ix:Nm->Nat
 | .a=>0 | .b=>1 | .c=>2 | .d=>3 | .e=>4 | .f=>5
theorem Nm.Cb (x:Nm):x.ix < 6:=by cases x<;>decide
inductive Sm where
 | num (n:Int)
 | nam (i:Nm)
 | cell (s:Sm)
 | two (o:Op) (s t:Sm)
noncomputable def Sm.enc:Sm->D
 | .num n=>.tup [.str "num",.int n]
 | .nam i=>.tup [.str "name",.str i.w]
 | .cell s=>.tup [.str "cell",s.enc]
 | .two o s t=>.tup [.str o.w,s.enc,t.enc]
noncomputable def Sm.size:Sm->Nat
 | .num _=>1
 | .nam _=>1
 | .cell s=>s.size+1
 | .two _ s t=>s.size+t.size+1
noncomputable def Sm.lay:Sm->List Sm
 | .num n=>[.num n]
 | .nam i=>[.nam i]
 | .cell s=>.cell s :: s.lay
 | .two o s t=>.two o s t :: (t.lay++s.lay)
noncomputable def Sm.subs:Sm->List Sm
 | .num _=>[]
 | .nam _=>[]
 | .cell s=>[s]
 | .two _ s t=>[s,t]
noncomputable def Wth (n:Int):Prop:=0<=n/\n<=10006
noncomputable def Sm.ok:Sm->Prop
 | .num n=>Wth n
 | .nam _=>True
 | .cell s=>s.ok
 | .two _ s t=>s.ok/\t.ok
theorem Sm.size_pos (s:Sm):1<=s.size:=by cases s<;>simp[Sm.size]
structure St where
 row:Nat
 names:List Int
 cells:List Int
 calls:List Nat
 asked:Nat
 said:List Int
noncomputable def cV (xs:List Int):List D:=xs.map D.int
noncomputable def dH (xs:List Nat):List D:=xs.map fun (n:Nat)=>D.int (n:Int)
noncomputable def St.enc (s:St):D:=.tup [.int s.row,.tup (cV s.names),.tup (cV s.cells),.tup (dH s.calls),.int s.asked,.tup (cV s.said)]
structure St.ok (s:St):Prop where
 nlen:s.names.length=6
 clen:s.cells.length=4
 nw:∀ x∈s.names,Wth x
 cw:∀ x∈s.cells,Wth x
noncomputable def two (o:Op) (x y:Int):Int:=match o with
 | .add=>(x+y) % 10007
 | .sub=>(x - y) % 10007
 | .mul=>(x*y) % 10007
 | .less=>if x < y then 1 else 0
noncomputable def Sm.val (st:St):Sm->Int
 | .num n=>n
 | .nam i=>st.names.getD i.ix 0
 | .cell s=>st.cells.getD (s.val st % 4).toNat 0
 | .two o s t=>BT.two o (s.val st) (t.val st)
theorem pA {xs:List Int} (h:∀ x∈xs,Wth x) (i:Nat):Wth (xs.getD i 0):=by
 rw[Si]
 cases e:xs[i]? with
 | none=>exact ⟨by decide,by decide⟩
 | some x=>exact h x (RJ e)
theorem MT (o:Op):Wth (BT.two o x y):=by
 cases o<;>simp only[BT.two,Wth]
 ·lia
 ·lia
 ·lia
 ·split<;>decide
theorem Sm.m6 {st:St} (ho:st.ok):∀ {s:Sm},s.ok->Wth (s.val st)
 | .num _,h=>h
 | .nam i,_=>pA ho.nw _
 | .cell _,_=>pA ho.cw _
 | .two _ _ _,_=>MT _
section
theorem zJ (P:Prg T G) (k:Nat) (s:Sm) (h:HH):runN T G (k+1) "inner_sums" [.p s.enc] h=some (.p (.tup (s.subs.map Sm.enc)),h):=by
 rw[run_eq P.inner_sums rfl]
 cases s with
 | two o s t =>
  have g:=P.INNER
  have q:gj (RM o.w) [("num",.int 0),("name",.int 0),("cell",.int 1),("add",.int 2),("sub",.int 2),("mul",.int 2),("less",.int 2)]=some (.int 2):=by cases o<;>simp[Op.w]
  generalize ([("num",.int 0),("name",.int 0),("cell",.int 1),("add",.int 2),("sub",.int 2),("mul",.int 2),("less",.int 2)]:List (Str×D))=I at *
  simp[fB,g,q,Sm.enc,Sm.subs,cW]
 | _=>simp[fB,P.INNER,Sm.enc,Sm.subs,cW]
theorem v7 (P:Prg T G) (k:Nat) (o:Op) (hx:Wth x) (h:HH) :
 runN T G (k+1) "of_two" [.p (.str o.w),.p (.int x),.p (.int y)] h=some (.p (.int (two o x y)),h):=by
 rw[run_eq P.of_two rfl]
 have b:big x=true:=by unfold big;exact decide_eq_true (by have h1:=hx.1;have h2:=hx.2;lia)
 cases o<;>simp[kg,P.WORTH_COUNT,cW,Op.w,two,b]
 by_cases c:x < y<;>simp[c,cW]
noncomputable def qf:List D:=[.str "a",.str "b",.str "c",.str "d",.str "e",.str "f"]
theorem Ft (x:Nm):gE .mem (.str x.w) (.tup qf)=some true:=by cases x<;>simp[qf,Nm.w]
theorem Cd (x:Nm):meD .tindex (.tup qf) [.str x.w]=some (.int (x.ix:Int)):=by
 rw[AE]
 cases x<;>simp[qf,Nm.w,Nm.ix,jg]
theorem uJ {i:Nat} (h:i < xs.length):dF (.tup (cV xs)) (.int (i:Int))=some (.int (xs.getD i 0)):=by
 show atP _ _=_
 unfold atP place cV
 rw[if_pos (Int.natCast_nonneg _),if_pos (by rw[RP];lia)]
 show (xs.map D.int)[((i:Int)).toNat]?=_
 rw[Int.toNat_natCast,RY,Si,Rv h];rfl
theorem qM (st:St):dF st.enc (.int 1)=some (.tup (cV st.names)):=rfl
theorem zK (st:St):dF st.enc (.int 2)=some (.tup (cV st.cells)):=rfl
theorem jS (P:Prg T G) (k:Nat) (x:Nm) (h:HH):runN T G (k+1) "is_name" [.p (.str x.w)] h=some (.p (.bl true),h):=by
 rw[run_eq P.is_name rfl]
 have g:G "LETTERS"=some (.p (.tup qf)):=P.LETTERS
 have m:=Ft x
 generalize qf=L at *
 simp[-gW,iz,g,m,cW]
theorem lM (P:Prg T G) (k:Nat) (st:St) (ho:st.ok) (x:Nm) (h:HH):runN T G (k+2) "worth_in" [.p st.enc,.p (.str x.w)] h=some (.p (.int (st.names.getD x.ix 0)),h):=by
 rw[run_eq P.worth_in rfl]
 have r:=jS P k x
 have lx:=x.Cb
 have i1:=uJ (xs:=st.names) (i:=x.ix) (by rw[ho.nlen];exact lx)
 have i2:=Cd x
 have i3:=qM st
 have g:G "LETTERS"=some (.p (.tup qf)):=P.LETTERS
 generalize qf=L at *
 generalize st.enc=se at *
 generalize cV st.names=sn at *
 simp[-gk,gy,r,P.NAMES,g,i1,i2,i3,cW]
theorem jT (P:Prg T G) (k:Nat) (st:St) (ho:st.ok) (n:Nat) (h:HH) :
 (∀ i,runN T G (k+3) "worth_of" [.p (Sm.num i).enc,.r n,.p st.enc] h=some (.p (.int i),h)) ∧
 (∀ i,runN T G (k+3) "worth_of" [.p (Sm.nam i).enc,.r n,.p st.enc] h=some (.p (.int (st.names.getD i.ix 0)),h)):=by
 refine ⟨fun i=>?_,fun i=>?_⟩<;>rw[run_eq P.worth_of rfl]
 ·simp[eZ,Sm.enc,cW]
 ·have r:=lM P k st ho i
  simp[eZ,Sm.enc,cW,r]
theorem pB (P:Prg T G) (k:Nat) (st:St) (ho:st.ok) (n:Nat) (h:HH) (s:Sm) (ws:List D) (v:Int) (e:lat h n=some (ws++[.int v])) (hv:0<=v) :
 runN T G (k+1) "worth_of" [.p (Sm.cell s).enc,.r n,.p st.enc] h=some (.p (.int (st.cells.getD (v % 4).toNat 0)),h.set n (.l ws)):=by
 rw[run_eq P.worth_of rfl]
 have c:(((v % 4).toNat:Nat):Int)=v % 4:=by lia
 have i1:=uJ (xs:=st.cells) (i:=(v % 4).toNat) (by rw[ho.clen];lia)
 rw[c] at i1
 have i3:=zK st
 generalize st.enc=se at *
 generalize cV st.cells=sn at *
 generalize st.cells.getD (v % 4).toNat 0=z at *
 simp[eZ,Sm.enc,P.CELLS,P.CELL_COUNT,e,i1,i3,xV]
theorem Op.other (o:Op):¬ o.w="num"/\¬ o.w="name"/\¬ o.w="cell":=by cases o<;>decide
theorem qh (P:Prg T G) (k:Nat) (st:St) (n:Nat) (h:HH) (o:Op) (s t:Sm) (ws:List D) (x y:Int) (hx:Wth x) (e:lat h n=some (ws++[.int x,.int y])) :
 runN T G (k+2) "worth_of" [.p (Sm.two o s t).enc,.r n,.p st.enc] h=some (.p (.int (two o x y)),h.set n (.l ws)):=by
 rw[run_eq P.worth_of rfl]
 have e3:lat (h.set n (.l (ws++[.int x]))) n=some (ws++[.int x]):=Fq e _
 have e1:(ws++[D.int x,D.int y]).getLast?=some (.int y):=by simp
 have e2:(ws++[D.int x,D.int y]).dropLast=ws++[.int x]:=by simp
 have r:=fun hh=>v7 P k o (x:=x) (y:=y) hx hh
 obtain ⟨n1,n2,n3⟩:=o.other
 have en:(Sm.two o s t).enc=.tup [.str o.w,s.enc,t.enc]:=rfl
 rw[en]
 generalize o.w=ow at *
 generalize s.enc=se at *
 generalize t.enc=te at *
 simp[eZ,e,e1,e2,e3,n1,n2,n3,r,xV,WL]
noncomputable def loC:E:=.cmp .gt (.bi .len false (.cons (.var 2) .nil)) (.cst (.int 0))
noncomputable def loB:S:=.seq (.set 3 (.me .pop (.var 2) .nil))
 (.seq (.ex (.me .append (.var 1) (.cons (.var 3) .nil)))
 (.ex (.me .extend (.var 2) (.cons (.call "inner_sums" (.cons (.var 3) .nil)) .nil))))
noncomputable def sizes (l:List Sm):Nat:=(l.map Sm.size).sum
theorem v8 (s:Sm) (l:List Sm):sizes (s.subs.reverse++l)+1=sizes (s :: l):=by
 cases s<;>simp[sizes,Sm.subs,Sm.size]<;>lia
theorem Ce (s:Sm) (l:List Sm):(s :: l).flatMap Sm.lay=s :: (s.subs.reverse++l).flatMap Sm.lay:=by
 cases s<;>simp[Sm.lay,Sm.subs,List.flatMap_cons]
theorem Fv (s:Sm):s.subs.length<=2:=by cases s<;>simp[Sm.subs]
theorem qN (l:List Sm):l.length<=sizes l:=by
 induction l with
 | nil=>simp[sizes]
 | cons s l ih =>
  have h1:=s.size_pos
  simp only[sizes,RL,Wp,RO] at ih ⊢
  lia
theorem Fw (P:Prg T G) (k:Nat) (h:HH) (t0:W):∀ (m:Nat) (stk:List Sm) (ps:List D) (x:Option W),sizes stk<=m->ps.length+sizes stk<=50000 →
 ∃ x',eX (ev (runN T G (k+1)) G loC) (evS (runN T G (k+1)) G loB) (m+1) [some t0,some (.r h.length),some (.r (h.length+1)),x] (h++[.l ps,.l (stk.reverse.map Sm.enc)]) =
  some (.nx [some t0,some (.r h.length),some (.r (h.length+1)),x'] (h++[.l (ps++(stk.flatMap Sm.lay).map Sm.enc),.l []])):=by
 intro m
 induction m with
 | zero =>
  intro stk ps x hs _
  have:stk=[]:=by
   have:=qN stk
   exact VL (by lia)
  subst this
  exact ⟨x,by simp[eX,loC,rd]⟩
 | succ m ih =>
  intro stk ps x hs hl
  cases stk with
  | nil=>exact ⟨x,by simp[eX,loC,rd]⟩
  | cons s l =>
   have e:=v8 s l
   obtain ⟨x',q⟩:=ih (s.subs.reverse++l) (ps++[s.enc]) (some (.p s.enc)) (by lia) (by simp only[RT,UW];lia)
   refine ⟨x',?_⟩
   have r:=zJ P k s
   have l1:l.length+s.subs.length<=100000:=by
    have h1:=Fv s
    have h2:=qN l
    have h3:sizes (s :: l)=s.size+sizes l:=by simp[sizes]
    lia
   have c1:(0:Int) < (l.length:Int)+1:=by lia
   have l2:ps.length < 100000:=by lia
   have hc:ev (runN T G (k+1)) G loC [some t0,some (.r h.length),some (.r (h.length+1)),x] (h++[.l ps,.l ((s :: l).reverse.map Sm.enc)])=some (.p (.bl true),h++[.l ps,.l ((s :: l).reverse.map Sm.enc)]):=by
    simp[loC,rd,c1]
   have hb:evS (runN T G (k+1)) G loB [some t0,some (.r h.length),some (.r (h.length+1)),x] (h++[.l ps,.l ((s :: l).reverse.map Sm.enc)]) =
    some (.nx [some t0,some (.r h.length),some (.r (h.length+1)),some (.p s.enc)] (h++[.l (ps++[s.enc]),.l ((s.subs.reverse++l).reverse.map Sm.enc)])):=by
    simp[loB,r,l1,l2]
   rw[eX,hc,iU,mq,hb,eY,q,Ce,RL,SG,SR]
theorem pC:iM=⟨["term"],["term","parts","waiting","part"],.seq (.set 1 (.lst true .nil))
 (.seq (.set 2 (.lst true (.cons (.var 0) .nil))) (.seq (.whl loC loB) (.ret (.var 1))))⟩:=rfl
theorem su (P:Prg T G) (k:Nat) (s:Sm) (hs:s.size<=40000) (h:HH):runN T G (k+2) "laid_out" [.p s.enc] h=some (.p (.lst (s.lay.map Sm.enc)),h):=by
 rw[run_eq P.laid_out rfl]
 obtain ⟨x',q⟩:=Fw P k h (.p s.enc) 99999 [s] [] none (by simp only[sizes,RL,Tu,Wp,List.sum_nil];lia) (by simp only[sizes,RL,Tu,Wp,List.sum_nil,Tw];lia)
 simp only[List.flatMap_cons,List.flatMap_nil,Sy,Tt,UQ,RL,Tu] at q
 rw[pC]
 simp[turns,q,Ca]
noncomputable def rkB:S:=.ex (.me .append (.var 2) (.cons (.call "worth_of" (.cons (.var 3) (.cons (.var 2) (.cons (.var 1) .nil)))) .nil))
theorem Fx (P:Prg T G) (k:Nat) (h:HH) (t0:W) (st:St) (ho:st.ok):∀ (s:Sm),s.ok->∀ (ws:List D) (rest:List D) (x:Option W),ws.length+s.size<=50000 →
 ∃ x',dJ (evS (runN T G (k+3)) G rkB) [(3,"part")] ((s.lay.map Sm.enc).reverse++rest) [some t0,some (.p st.enc),some (.r h.length),x] (h++[.l ws]) =
  dJ (evS (runN T G (k+3)) G rkB) [(3,"part")] rest [some t0,some (.p st.enc),some (.r h.length),x'] (h++[.l (ws++[.int (s.val st)])]):=by
 intro s
 induction s with
 | num n =>
  intro _ ws rest x hl
  refine ⟨some (.p (Sm.num n).enc),?_⟩
  have r:=(jT P k st ho h.length (h++[.l ws])).1 n
  have l:ws.length < 100000:=by simp only[Sm.size] at hl;lia
  have hb:evS (runN T G (k+3)) G rkB [some t0,some (.p st.enc),some (.r h.length),some (.p (Sm.num n).enc)] (h++[.l ws]) =
   some (.nx [some t0,some (.p st.enc),some (.r h.length),some (.p (Sm.num n).enc)] (h++[.l (ws++[.int n])])):=by
   simp[rkB,r,l]
  simp only[Sm.lay,RL,Tu,UQ,SR,Sm.val]
  simp[hb]
 | nam i =>
  intro _ ws rest x hl
  refine ⟨some (.p (Sm.nam i).enc),?_⟩
  have r:=(jT P k st ho h.length (h++[.l ws])).2 i
  have l:ws.length < 100000:=by simp only[Sm.size] at hl;lia
  have hb:evS (runN T G (k+3)) G rkB [some t0,some (.p st.enc),some (.r h.length),some (.p (Sm.nam i).enc)] (h++[.l ws]) =
   some (.nx [some t0,some (.p st.enc),some (.r h.length),some (.p (Sm.nam i).enc)] (h++[.l (ws++[.int (st.names.getD i.ix 0)])])):=by
   simp[rkB,r,l]
  simp only[Sm.lay,RL,Tu,UQ,SR,Sm.val]
  simp[hb]
 | cell s ih =>
  intro hok ws rest x hl
  obtain ⟨x1,e1⟩:=ih hok ws ((Sm.cell s).enc :: rest) x (by simp only[Sm.size] at hl;lia)
  refine ⟨some (.p (Sm.cell s).enc),?_⟩
  have r:=pB P (k+2) st ho h.length (h++[.l (ws++[.int (s.val st)])]) s ws (s.val st) (by simp) (Sm.m6 (s:=s) ho hok).1
  have l:ws.length < 100000:=by simp only[Sm.size] at hl;lia
  have hb:evS (runN T G (k+3)) G rkB [some t0,some (.p st.enc),some (.r h.length),some (.p (Sm.cell s).enc)] (h++[.l (ws++[.int (s.val st)])]) =
   some (.nx [some t0,some (.p st.enc),some (.r h.length),some (.p (Sm.cell s).enc)] (h++[.l (ws++[.int ((Sm.cell s).val st)])])):=by
   simp[rkB,r,l,Sm.val]
  simp only[Sm.lay,RL,List.reverse_cons,SG,SR]
  rw[e1]
  simp[hb]
 | two o s t ihs iht =>
  intro hok ws rest x hl
  have hl':=hl
  simp only[Sm.size] at hl'
  obtain ⟨x1,e1⟩:=ihs hok.1 ws ((t.lay.map Sm.enc).reverse++((Sm.two o s t).enc :: rest)) x (by lia)
  obtain ⟨x2,e2⟩:=iht hok.2 (ws++[.int (s.val st)]) ((Sm.two o s t).enc :: rest) x1 (by simp only[RT,UW];have:=s.size_pos;lia)
  refine ⟨some (.p (Sm.two o s t).enc),?_⟩
  have r:=qh P (k+1) st h.length (h++[.l (ws++[.int (s.val st),.int (t.val st)])]) o s t ws (s.val st) (t.val st) (Sm.m6 ho hok.1) (by simp)
  have l:ws.length < 100000:=by lia
  have hb:evS (runN T G (k+3)) G rkB [some t0,some (.p st.enc),some (.r h.length),some (.p (Sm.two o s t).enc)] (h++[.l (ws++[.int (s.val st),.int (t.val st)])]) =
   some (.nx [some t0,some (.p st.enc),some (.r h.length),some (.p (Sm.two o s t).enc)] (h++[.l (ws++[.int ((Sm.two o s t).val st)])])):=by
   simp[rkB,r,l,Sm.val]
  simp only[Sm.lay,RL,VU,List.reverse_cons,List.reverse_append,SG,SR]
  rw[e1,e2]
  simp only[SG,SR]
  simp[hb]
theorem pF:iN=⟨["term","state"],["term","state","worths","part"],.seq (.set 2 (.lst true .nil))
 (.seq (.for [(3,"part")] .rev (.cons (.call "laid_out" (.cons (.var 0) .nil)) .nil) rkB) (.ret (.idx (.var 2) (.cst (.int 0)))))⟩:=rfl
theorem fY (P:Prg T G) (k:Nat) (s:Sm) (hs:s.size<=40000) (hok:s.ok) (st:St) (ho:st.ok) (h:HH) :
 runN T G (k+4) "reckoned" [.p s.enc,.p st.enc] h=some (.p (.int (s.val st)),h):=by
 rw[run_eq P.reckoned rfl]
 obtain ⟨x',q⟩:=Fx P k h (.p s.enc) st ho s hok [] [] none (by simp only[Tw];lia)
 rw[pF]
 simp only[Sy,Tt] at q
 have r:=su P (k+1) s hs
 simp[r,gY,q,lK,rd]
end
section
variable {T:FK->Option Fn}{F:FK->List W->HH->Option (W×HH)}{G:Str->Option W}{i:Nat}{e e' c:E}{a b:S}{s s':Sl}{h g:HH}{w:W}{d d' z:D}
end
section
theorem lN (xs:List α) (i:Nat):atP xs (i:Int)=xs[i]?:=by
 unfold atP place
 by_cases h:i < xs.length
 ·have h1:((i:Int) < (xs.length:Int)):=by lia
  simp[h1,h]
 ·have h1:¬ ((i:Int) < (xs.length:Int)):=by lia
  simp[h1];lia
theorem iC (P:Prg T G) (k:Nat) (xs:List D) (i:Nat) (hi:i < xs.length) (hl:xs.length<=1000) (d:D) (h:HH) :
 runN T G (k+1) "with_worth" [.p (.tup xs),.p (.int i),.p d] h=some (.p (.tup (xs.set i d)),h):=by
 rw[run_eq P.with_worth rfl]
 have a1:¬ ((i:Int) < 0):=by lia
 have a2:(i:Int)<=(xs.length:Int):=by lia
 have a3:¬ ((i:Int)+1 < 0):=by lia
 have a4:(i:Int)+1<=(xs.length:Int):=by lia
 have a5:((i:Int)+1).toNat=i+1:=by lia
 have a6:xs.length - (i+1)+(i+1)<=100000:=by lia
 have a7:i+1+(xs.length - (i+1))<=100000:=by lia
 have a8:min i xs.length=i:=by lia
 have a9:i+1<=100000:=by lia
 have e:xs.take i++d :: xs.drop (i+1)=xs.set i d:=by
  rw[List.set_eq_take_append_cons_drop,if_pos hi]
 have b1:(xs.take i).length=i:=by simp;lia
 have b2:(xs.drop (i+1)).length=xs.length - (i+1):=by simp
 have b3:((xs.drop (i+1)).take (xs.length - (i+1)))=xs.drop (i+1):=by
  apply List.take_of_length_le;simp
 simp[gq,a1,a2,a3,a4,a5,a7,a8,a9,b3,e,cW]
@[simp] theorem Q2 (st:St):dF st.enc (.int 0)=some (.int st.row):=rfl
@[simp] theorem Q3 (st:St):dF st.enc (.int 1)=some (.tup (cV st.names)):=rfl
@[simp] theorem Q4 (st:St):dF st.enc (.int 2)=some (.tup (cV st.cells)):=rfl
@[simp] theorem Q5 (st:St):dF st.enc (.int 3)=some (.tup (dH st.calls)):=rfl
@[simp] theorem Q6 (st:St):dF st.enc (.int 4)=some (.int st.asked):=rfl
@[simp] theorem Q7 (st:St):dF st.enc (.int 5)=some (.tup (cV st.said)):=rfl
inductive Rw where
 | set (x:Nm) (s:Sm) | put (s t:Sm) | ask (x:Nm) | say (s:Sm) | jump (p:Nat) | unless (s:Sm) (p:Nat) | call (p:Nat) | back | stop
noncomputable def Rw.enc:Rw->D
 | .set x s=>.tup [.str "set",.str x.w,s.enc]
 | .put s t=>.tup [.str "put",s.enc,t.enc]
 | .ask x=>.tup [.str "ask",.str x.w]
 | .say s=>.tup [.str "say",s.enc]
 | .jump p=>.tup [.str "jump",.int p]
 | .unless s p=>.tup [.str "unless",s.enc,.int p]
 | .call p=>.tup [.str "call",.int p]
 | .back=>.tup [.str "back"]
 | .stop=>.tup [.str "stop"]
noncomputable def sy (s:Sm):Prop:=s.ok/\s.size<=15
noncomputable def Rw.ok (n:Nat):Rw->Prop
 | .set _ s=>sy s
 | .put s t=>sy s/\sy t
 | .ask _=>True
 | .say s=>sy s
 | .jump p=>p<=n
 | .unless s p=>sy s/\p<=n
 | .call p=>p<=n
 | .back=>True
 | .stop=>True
noncomputable abbrev Pg:=List Rw
noncomputable def gI (p:Pg):D:=.tup (p.map Rw.enc)
noncomputable def Pg.ok (p:Pg):Prop:=∀ r∈p,r.ok p.length
noncomputable def Rw.next (asked:List Int) (st:St):Rw->St
 | .set x s=>{ st with row:=st.row+1,names:=st.names.set x.ix (s.val st) }
 | .put s t=>{ st with row:=st.row+1,cells:=st.cells.set (s.val st % 4).toNat (t.val st) }
 | .ask x=>{ st with row:=st.row+1,names:=st.names.set x.ix (asked.getD st.asked 0),asked:=st.asked+1 }
 | .say s=>{ st with row:=st.row+1,said:=st.said++[s.val st] }
 | .jump p=>{ st with row:=p }
 | .unless s p=>{ st with row:=if s.val st=0 then p else st.row+1 }
 | .call p=>{ st with row:=p,calls:=st.calls++[st.row+1] }
 | .back=>{ st with row:=st.calls.getLast?.getD 0,calls:=st.calls.dropLast }
 | .stop=>st
noncomputable def Rw.over (st:St):Rw->Bool
 | .back=>st.calls.length==0
 | .call _=>decide (6<=st.calls.length)
 | .stop=>true
 | _=>false
noncomputable def over (p:Pg) (st:St):Bool:=match p[st.row]? with
 | some r=>r.over st
 | none=>true
noncomputable def step (p:Pg) (asked:List Int) (st:St):St:=match p[st.row]? with
 | some r=>r.next asked st
 | none=>st
noncomputable def St.zero:St:=⟨0,[0,0,0,0,0,0],[0,0,0,0],[],0,[]⟩
theorem Fy:St.zero.ok:=⟨rfl,rfl,by simp[St.zero,Wth],by simp[St.zero,Wth]⟩
noncomputable def sts (p:Pg) (asked:List Int):Nat->St->List St
 | 0,st=>[st]
 | n+1,st=>if over p st then [st] else st :: sts p asked n (step p asked st)
theorem zL (P:Prg T G) (k:Nat) (h:HH):runN T G (k+1) "begun" [] h=some (.p St.zero.enc,h):=by
 rw[run_eq P.begun rfl]
 simp[lJ,P.LETTERS,P.CELL_COUNT,cW,St.zero,St.enc,cV,dH,rep,RN,List.flatten]
theorem uK (P:Prg T G) (k:Nat) (asked:List Int) (n:Nat) (h:HH):runN T G (k+1) "brought" [.p (.lst (cV asked)),.p (.int n)] h=some (.p (.int (asked.getD n 0)),h):=by
 rw[run_eq P.brought rfl]
 by_cases c:n < asked.length
 ·have c1:(n:Int) < (asked.length:Int):=by lia
  simp[iB,cV,c,c1,cW]
 ·have c1:¬ (n:Int) < (asked.length:Int):=by lia
  have e:asked[n]?=none:=RC (by lia)
  simp[iB,cV,c1,cW,e]
theorem iX (P:Prg T G) (k:Nat) (st:St) (ho:st.ok) (x:Nm) (d:Int) (h:HH) :
 runN T G (k+2) "with_name" [.p st.enc,.p (.str x.w),.p (.int d)] h=some (.p (.tup (cV (st.names.set x.ix d))),h):=by
 rw[run_eq P.with_name rfl]
 have r:=fun i=>iC P k (cV st.names) i
 have l:(cV st.names).length=6:=by simp[cV,ho.nlen]
 have e:(cV st.names).set x.ix (.int d)=cV (st.names.set x.ix d):=by simp[cV,WM]
 have q:=r x.ix (by rw[l];exact x.Cb) (by lia) (.int d)
 rw[e] at q
 have g:G "LETTERS"=some (.p (.tup qf)):=P.LETTERS
 have i2:=Cd x
 have i3:=qM st
 generalize qf=L at *
 generalize st.enc=se at *
 generalize hz:(x.ix:Int)=z at *
 simp[gH,P.NAMES,g,i2,i3,cW,q]
theorem uL (P:Prg T G) (k:Nat) (s:Sm) (hs:sy s) (st:St) (ho:st.ok) (h:HH):runN T G (k+5) "cell_by" [.p s.enc,.p st.enc] h=some (.p (.int (s.val st % 4)),h):=by
 rw[run_eq P.cell_by rfl]
 have q:=fY P k s (by have:=hs.2;lia) hs.1 st ho
 simp[jo,q,P.CELL_COUNT,cW]
noncomputable def Rw.word:Rw->String
 | .set _ _=>"set" | .put _ _=>"put" | .ask _=>"ask" | .say _=>"say" | .jump _=>"jump" | .unless _ _=>"unless" | .call _=>"call" | .back=>"back" | .stop=>"stop"
theorem Rw.sA (r:Rw):dF r.enc (.int 0)=some (.str r.word):=by cases r<;>rfl
noncomputable def plT:S:=(.seq (.ife (.or (.cmp .eq (.var 2) (.cst (.str "jump"))) (.cmp .eq (.var 2) (.cst (.str "call")))) (.ret (.idx (.var 0) (.cst (.int 1)))) .nil)
 (.seq (.ife (.cmp .eq (.var 2) (.cst (.str "back"))) (.ret (.idx (.idx (.var 1) (.glo "CALLS")) (.neg (.cst (.int 1))))) .nil)
 (.seq (.ife (.and (.cmp .eq (.var 2) (.cst (.str "unless"))) (.cmp .eq (.call "reckoned" (.cons (.idx (.var 0) (.cst (.int 1))) (.cons (.var 1) .nil))) (.cst (.int 0)))) (.ret (.idx (.var 0) (.cst (.int 2)))) .nil)
 (.ret (.bin .add (.idx (.var 1) (.glo "ROW")) (.cst (.int 1)))))))
theorem uM:fE=⟨["row","state"],["row","state","word"],
 (.seq (.set 2 (.idx (.var 0) (.cst (.int 0)))) plT)⟩:=rfl
theorem Fz (P:Prg T G) (F:FK->List W->HH->Option (W×HH)) (w0:W) (st:St) (h:HH) (v:String) (n1:¬ v="jump") (n2:¬ v="call") (n3:¬ v="back") (n4:¬ v="unless"):evS F G plT [some w0,some (.p st.enc),some (.p (.str v))] h=some (.rt (.p (.int ((st.row:Int)+1))) h):=by
 have i0:dF st.enc (.int 0)=some (.int (st.row:Int)):=rfl
 generalize st.enc=se at *
 simp[plT,n1,n2,n3,n4,P.ROW,i0]
theorem GT (F:FK->List W->HH->Option (W×HH)) (d:D) (w1:W) (h:HH) (v:String) (q:Int) (hv:v="jump"\/v="call") (i1:dF d (.int 1)=some (.int q)):evS F G plT [some (.p d),some w1,some (.p (.str v))] h=some (.rt (.p (.int q)) h):=by
 rcases hv with rfl | rfl<;>simp[plT,i1]
theorem zM (P:Prg T G) (k:Nat) (n:Nat) (r:Rw) (hr:r.ok n) (st:St) (ho:st.ok) (asked:List Int) (hb:r.over st=false) (h:HH) :
 runN T G (k+5) "place_behind" [.p r.enc,.p st.enc] h=some (.p (.int (r.next asked st).row),h):=by
 have wa:=r.sA
 have pre:runN T G (k+5) "place_behind" [.p r.enc,.p st.enc] h=oO (evS (runN T G (k+4)) G plT [some (.p r.enc),some (.p st.enc),some (.p (.str r.word))] h) (fin h):=by
  rw[run_eq P.place_behind rfl,uM]
  generalize r.enc=re at *
  simp[wa]
 have ot:∀ q:Int,oO (some (.rt (.p (.int q)) h)) (fin h)=some (.p (.int q),h):=fun q=>by simp[cW]
 rw[pre]
 cases r with
 | «unless» s p =>
  have q:=fY P k s (by have:=hr.1.2;lia) hr.1.1 st ho
  have i1:dF (Rw.unless s p).enc (.int 1)=some s.enc:=rfl
  have i2:dF (Rw.unless s p).enc (.int 2)=some (.int (p:Int)):=rfl
  have i0:dF st.enc (.int 0)=some (.int (st.row:Int)):=rfl
  generalize (Rw.unless s p).enc=re at *
  generalize st.enc=se at *
  generalize s.enc=sn at *
  by_cases c:s.val st=0<;>simp[plT,Rw.word,Rw.next,q,c,i0,i1,i2,cW,P.ROW]
 | back =>
  have c:st.calls≠[]:=by
   intro e;simp[Rw.over,e] at hb
  have:∃ l x,st.calls=l++[x]:=⟨st.calls.dropLast,st.calls.getLast c,(List.dropLast_concat_getLast c).symm⟩
  obtain ⟨l,x,e⟩:=this
  have i3:dF st.enc (.int 3)=some (.tup (dH st.calls)):=rfl
  have ix:dF (.tup (dH st.calls)) (.int (-1))=some (.int (x:Int)):=by
   have e2:-((l.length:Int)+1)<=-1:=by lia
   have e3:(-1+((l.length:Int)+1)).toNat=l.length:=by lia
   simp[dH,e,e2,e3]
  have nx:((Rw.back).next asked st).row=x:=by simp[Rw.next,e]
  rw[nx]
  generalize st.enc=se at *
  generalize dH st.calls=nl at *
  simp[-gk,plT,Rw.word,P.CALLS,i3,ix,cW]
 | stop=>simp[Rw.over] at hb
 | jump p=>rw[Rw.word,GT _ _ _ _ _ (p:Int) (.inl rfl) rfl,ot];rfl
 | call p=>rw[Rw.word,GT _ _ _ _ _ (p:Int) (.inr rfl) rfl,ot];rfl
 | _=>rw[Rw.word,Fz P _ _ _ _ _ (by decide) (by decide) (by decide) (by decide),ot];rfl
noncomputable def ovT:S:=(.seq (.ife (.cmp .eq (.var 2) (.cst (.str "back"))) (.ret (.cmp .eq (.bi .len false (.cons (.idx (.var 1) (.glo "CALLS")) .nil)) (.cst (.int 0)))) .nil)
 (.seq (.ife (.cmp .eq (.var 2) (.cst (.str "call"))) (.ret (.cmp .ge (.bi .len false (.cons (.idx (.var 1) (.glo "CALLS")) .nil)) (.glo "MOST_CALLS"))) .nil)
 (.ret (.cmp .eq (.var 2) (.cst (.str "stop"))))))
theorem qi:iA=⟨["program","state"],["program","state","word"],
 (.seq (.ife (.cmp .ge (.idx (.var 1) (.glo "ROW")) (.bi .len false (.cons (.var 0) .nil))) (.ret (.cst (.bl true))) .nil)
 (.seq (.set 2 (.idx (.idx (.var 0) (.idx (.var 1) (.glo "ROW"))) (.cst (.int 0))))
 ovT))⟩:=rfl
theorem FA (F:FK->List W->HH->Option (W×HH)) (w0 w1:W) (h:HH) (v:String) (n1:¬ v="back") (n2:¬ v="call"):evS F G ovT [some w0,some w1,some (.p (.str v))] h=some (.rt (.p (.bl (decide (v="stop")))) h):=by
 by_cases c:v="stop"
 ·subst c
  simp[ovT]
 ·skip
  simp[ovT,n1,n2,c]
theorem uN (P:Prg T G) (k:Nat) (p:Pg) (st:St) (h:HH):runN T G (k+1) "is_over" [.p (gI p),.p st.enc] h=some (.p (.bl (over p st)),h):=by
 have lp:biD .len [gI p]=some (.int p.length):=by simp[gI]
 by_cases c:st.row < p.length
 ·have c1:¬ (p.length:Int)<=(st.row:Int):=by lia
  have c2:(st.row:Int) < (p.length:Int):=by lia
  have e:p[st.row]?=some p[st.row]:=Rv c
  have row:dF (gI p) (.int st.row)=some (p[st.row]).enc:=by simp[gI,c2,e]
  have ov:over p st=(p[st.row]).over st:=by rw[over,e]
  rw[ov]
  generalize p[st.row]=r at row ⊢
  have wa:=r.sA
  have pre:runN T G (k+1) "is_over" [.p (gI p),.p st.enc] h=oO (evS (runN T G k) G ovT [some (.p (gI p)),some (.p st.enc),some (.p (.str r.word))] h) (fin h):=by
   rw[run_eq P.is_over rfl,qi]
   generalize r.enc=re at row wa
   simp[lp,row,wa,P.ROW,c1]
  rw[pre]
  have ln:biD .len [.tup (dH st.calls)]=some (.int (st.calls.length:Int)):=by simp[dH]
  have i3:dF st.enc (.int 3)=some (.tup (dH st.calls)):=rfl
  cases r with
  | back =>
   have ee:(((st.calls.length:Nat):Int)==0)=(st.calls.length==0):=by
    cases st.calls with
    | nil=>rfl
    | cons a l=>rw[beq_eq_false_iff_ne.mpr (by simp only[RO];lia)];rfl
   simp[-qD,ovT,Rw.word,P.CALLS,i3,ln,ee,cW,Rw.over]
  | call q =>
   have ee:decide ((6:Int)<=(st.calls.length:Int))=decide (6<=st.calls.length):=decide_eq_decide.mpr (by lia)
   simp[-qD,ovT,Rw.word,P.CALLS,P.MOST_CALLS,i3,ln,ee,cW,Rw.over]
  | _ =>
   rw[Rw.word,FA _ _ _ _ _ (by decide) (by decide)]
   simp[cW,Rw.over]
 ·have c1:(p.length:Int)<=(st.row:Int):=by lia
  have e:p[st.row]?=none:=RC (by lia)
  rw[run_eq P.is_over rfl]
  simp[iA,lp,P.ROW,c1,cW,over,e]
theorem ints_set (xs:List Int) (i:Nat) (v:Int):(cV xs).set i (.int v)=cV (xs.set i v):=by simp[cV,WM]
theorem iE (xs:List Int):(cV xs).length=xs.length:=by simp[cV]
theorem ints_snoc (xs:List Int) (v:Int):cV xs++[.int v]=cV (xs++[v]):=by simp[cV]
theorem zN (xs:List Nat) (v:Nat):dH xs++[.int (v:Int)]=dH (xs++[v]):=by simp[dH]
theorem Cf (xs:List Nat):cut (dH xs) none (some (-1))=dH xs.dropLast:=by
 have e:(-1+(xs.length:Int)).toNat=xs.length - 1:=by lia
 simp[cut,clip,dH,e,List.dropLast_eq_take]
structure St.small (st:St):Prop where
 sl:st.said.length<=5000
 cl:st.calls.length<=5000
noncomputable def encL (st:St):List D:=[.int st.row,.tup (cV st.names),.tup (cV st.cells),.tup (dH st.calls),.int st.asked,.tup (cV st.said)]
theorem Cg (st:St):biD .list [st.enc]=some (.lst (encL st)):=rfl
noncomputable def JF:S:=(.put 5 (.glo "CALLS") (.slc (.idx (.var 2) (.glo "CALLS")) .nil (.cons (.neg (.cst (.int 1))) .nil)))
noncomputable def JG:S:=(.ife (.cmp .eq (.var 4) (.cst (.str "back"))) JF .nil)
noncomputable def JH:S:=(.put 5 (.glo "CALLS") (.bin .add (.idx (.var 2) (.glo "CALLS")) (.tup (.cons (.bin .add (.idx (.var 2) (.glo "ROW")) (.cst (.int 1))) .nil))))
noncomputable def FD:S:=(.ife (.cmp .eq (.var 4) (.cst (.str "call"))) JH JG)
noncomputable def JI:S:=(.put 5 (.glo "SAID") (.bin .add (.idx (.var 2) (.glo "SAID")) (.tup (.cons (.call "reckoned" (.cons (.idx (.var 3) (.cst (.int 1))) (.cons (.var 2) .nil))) .nil))))
noncomputable def Ci:S:=(.ife (.cmp .eq (.var 4) (.cst (.str "say"))) JI FD)
noncomputable def JJ:S:=(.seq (.put 5 (.glo "NAMES") (.call "with_name" (.cons (.var 2) (.cons (.idx (.var 3) (.cst (.int 1))) (.cons (.call "brought" (.cons (.var 1) (.cons (.idx (.var 2) (.glo "ASKED")) .nil))) .nil)))))
 (.put 5 (.glo "ASKED") (.bin .add (.idx (.var 2) (.glo "ASKED")) (.cst (.int 1)))))
noncomputable def zO:S:=(.ife (.cmp .eq (.var 4) (.cst (.str "ask"))) JJ Ci)
noncomputable def JK:S:=(.put 5 (.glo "CELLS") (.call "with_worth" (.cons (.idx (.var 2) (.glo "CELLS")) (.cons (.call "cell_by" (.cons (.idx (.var 3) (.cst (.int 1))) (.cons (.var 2) .nil))) (.cons (.call "reckoned" (.cons (.idx (.var 3) (.cst (.int 2))) (.cons (.var 2) .nil))) .nil)))))
noncomputable def v9:S:=(.ife (.cmp .eq (.var 4) (.cst (.str "put"))) JK zO)
noncomputable def JL:S:=(.put 5 (.glo "NAMES") (.call "with_name" (.cons (.var 2) (.cons (.idx (.var 3) (.cst (.int 1))) (.cons (.call "reckoned" (.cons (.idx (.var 3) (.cst (.int 2))) (.cons (.var 2) .nil))) .nil)))))
noncomputable def kP:S:=(.ife (.cmp .eq (.var 4) (.cst (.str "set"))) JL v9)
noncomputable def JM:S:=(.seq kP
 (.ret (.bi .tuple false (.cons (.var 5) .nil))))
theorem qj:jq=⟨["program","asked","state"],["program","asked","state","row","word","behind"],
 (.seq (.set 3 (.idx (.var 0) (.idx (.var 2) (.glo "ROW"))))
 (.seq (.set 4 (.idx (.var 3) (.cst (.int 0))))
 (.seq (.set 5 (.bi .list true (.cons (.var 2) .nil)))
 (.seq (.put 5 (.glo "ROW") (.call "place_behind" (.cons (.var 3) (.cons (.var 2) .nil))))
 JM))))⟩:=rfl
theorem JN (F:FK->List W->HH->Option (W×HH)) (A B:S) (s:Sl) (h:HH):evS F G (.seq A B) s h=mV (evS F G A s h) (evS F G B):=rfl
theorem pick (F:FK->List W->HH->Option (W×HH)) (w0 w1 w2 w3:W) (v w:String) (rest:Sl) (h:HH) (A B:S):evS F G (.ife (.cmp .eq (.var 4) (.cst (.str w))) A B) (some w0 :: some w1 :: some w2 :: some w3 :: some (.p (.str v)) :: rest) h=if v=w then evS F G A (some w0 :: some w1 :: some w2 :: some w3 :: some (.p (.str v)) :: rest) h else evS F G B (some w0 :: some w1 :: some w2 :: some w3 :: some (.p (.str v)) :: rest) h:=by
 have e:eqv (.str v) (.str w)=decide (v=w):=by
  by_cases c:v=w
  ·rw[decide_eq_true c,c];simp
  ·rw[decide_eq_false c]
   have:¬ RM v=RM w:=fun z=>c (by simpa using z)
   simp[this,c]
 by_cases c:v=w
 ·rw[decide_eq_true c] at e
  rw[if_pos c]
  simp[-eqv,e]
 ·rw[decide_eq_false c] at e
  rw[if_neg c]
  simp[-eqv,e]
theorem to0 (F:FK->List W->HH->Option (W×HH)) (w0 w1 w2 w3:W) (rest:Sl) (h:HH):evS F G kP (some w0 :: some w1 :: some w2 :: some w3 :: some (.p (.str "set")) :: rest) h=evS F G JL (some w0 :: some w1 :: some w2 :: some w3 :: some (.p (.str "set")) :: rest) h:=by
 rw[kP,pick,if_pos rfl]
theorem to1 (F:FK->List W->HH->Option (W×HH)) (w0 w1 w2 w3:W) (rest:Sl) (h:HH):evS F G kP (some w0 :: some w1 :: some w2 :: some w3 :: some (.p (.str "put")) :: rest) h=evS F G JK (some w0 :: some w1 :: some w2 :: some w3 :: some (.p (.str "put")) :: rest) h:=by
 rw[kP,pick,if_neg (by decide),v9,pick,if_pos rfl]
theorem to2 (F:FK->List W->HH->Option (W×HH)) (w0 w1 w2 w3:W) (rest:Sl) (h:HH):evS F G kP (some w0 :: some w1 :: some w2 :: some w3 :: some (.p (.str "ask")) :: rest) h=evS F G JJ (some w0 :: some w1 :: some w2 :: some w3 :: some (.p (.str "ask")) :: rest) h:=by
 rw[kP,pick,if_neg (by decide),v9,pick,if_neg (by decide),zO,pick,if_pos rfl]
theorem to3 (F:FK->List W->HH->Option (W×HH)) (w0 w1 w2 w3:W) (rest:Sl) (h:HH):evS F G kP (some w0 :: some w1 :: some w2 :: some w3 :: some (.p (.str "say")) :: rest) h=evS F G JI (some w0 :: some w1 :: some w2 :: some w3 :: some (.p (.str "say")) :: rest) h:=by
 rw[kP,pick,if_neg (by decide),v9,pick,if_neg (by decide),zO,pick,if_neg (by decide),Ci,pick,if_pos rfl]
theorem to4 (F:FK->List W->HH->Option (W×HH)) (w0 w1 w2 w3:W) (rest:Sl) (h:HH):evS F G kP (some w0 :: some w1 :: some w2 :: some w3 :: some (.p (.str "call")) :: rest) h=evS F G JH (some w0 :: some w1 :: some w2 :: some w3 :: some (.p (.str "call")) :: rest) h:=by
 rw[kP,pick,if_neg (by decide),v9,pick,if_neg (by decide),zO,pick,if_neg (by decide),Ci,pick,if_neg (by decide),FD,pick,if_pos rfl]
theorem to5 (F:FK->List W->HH->Option (W×HH)) (w0 w1 w2 w3:W) (rest:Sl) (h:HH):evS F G kP (some w0 :: some w1 :: some w2 :: some w3 :: some (.p (.str "back")) :: rest) h=evS F G JF (some w0 :: some w1 :: some w2 :: some w3 :: some (.p (.str "back")) :: rest) h:=by
 rw[kP,pick,if_neg (by decide),v9,pick,if_neg (by decide),zO,pick,if_neg (by decide),Ci,pick,if_neg (by decide),FD,pick,if_neg (by decide),JG,pick,if_pos rfl]
theorem toN (F:FK->List W->HH->Option (W×HH)) (w0 w1 w2 w3:W) (rest:Sl) (h:HH) (v:String) (hv:v∉["set","put","ask","say","call","back"]):evS F G kP (some w0 :: some w1 :: some w2 :: some w3 :: some (.p (.str v)) :: rest) h=some (.nx (some w0 :: some w1 :: some w2 :: some w3 :: some (.p (.str v)) :: rest) h):=by
 simp only[Vs,Up,or_false,not_or] at hv
 obtain ⟨n1,n2,n3,n4,n5,n6⟩:=hv
 rw[kP,pick,if_neg n1,v9,pick,if_neg n2,zO,pick,if_neg n3,Ci,pick,if_neg n4,FD,pick,if_neg n5,JG,pick,if_neg n6];rfl
theorem uO (P:Prg T G) (k:Nat) (p:Pg) (hp:Pg.ok p) (asked:List Int) (st:St) (ho:st.ok) (hs:st.small) (hb:over p st=false) (h:HH) :
 runN T G (k+6) "stepped" [.p (gI p),.p (.lst (cV asked)),.p st.enc] h=some (.p (step p asked st).enc,h):=by
 have c:st.row < p.length:=by
  rcases R0 st.row p.length with q | q
  ·exact q
  ·rw[over,RC q] at hb;exact yT hb
 have e:p[st.row]?=some p[st.row]:=Rv c
 have c2:(st.row:Int) < (p.length:Int):=by lia
 have hr:=hp _ (List.getElem_mem c)
 have hb':(p[st.row]).over st=false:=by rw[over,e] at hb;exact hb
 have pl:=zM P k p.length p[st.row] hr st ho asked hb'
 rw[step,e]
 have l1:=hs.sl
 have l2:=hs.cl
 revert pl hr hb'
 generalize p[st.row]=r at *
 intro hr hb' pl
 have row:dF (gI p) (.int st.row)=some r.enc:=by simp[gI,c2,e]
 have pre:runN T G (k+6) "stepped" [.p (gI p),.p (.lst (cV asked)),.p st.enc] h =
  oO (evS (runN T G (k+5)) G JM [some (.p (gI p)),some (.p (.lst (cV asked))),some (.p st.enc),some (.p r.enc),some (.p (.str r.word)),some (.r h.length)] (h++[.l [.int (r.next asked st).row,.tup (cV st.names),.tup (cV st.cells),.tup (dH st.calls),.int st.asked,.tup (cV st.said)]])) (fin h):=by
  rw[run_eq P.stepped rfl,qj]
  simp[row,r.sA,P.ROW,Cg,encL,pl]
 rw[pre,JM,JN]
 cases r with
 | set x s =>
  have q:=fY P (k+1) s (by have:=hr.2;lia) hr.1 st ho
  have w:=iX P (k+3) st ho x (s.val st)
  simp only[Rw.enc,Rw.next,Rw.word,to0]
  simp[JL,P.ROW,P.NAMES,q,w,rd,lK,Rw.next]
  simp[St.enc]
 | put s t =>
  have q:=uL P k s hr.1 st ho
  have q2:=fY P (k+1) t (by have:=hr.2.2;lia) hr.2.1 st ho
  have v:=Sm.m6 (s:=s) ho hr.1.1
  have hi:(s.val st % 4).toNat < (cV st.cells).length:=by rw[iE,ho.clen];lia
  have w:=iC P (k+4) (cV st.cells) (s.val st % 4).toNat hi (by rw[iE,ho.clen];lia) (.int (t.val st))
  have e3:(((s.val st % 4).toNat:Nat):Int)=s.val st % 4:=by lia
  rw[e3,ints_set] at w
  simp only[Rw.enc,Rw.next,Rw.word,to1]
  simp[JK,P.ROW,P.CELLS,q,q2,w,rd,lK,Rw.next]
  simp[St.enc]
 | ask x =>
  have b:=uK P (k+4) asked st.asked
  have w:=iX P (k+3) st ho x (asked.getD st.asked 0)
  simp only[Rw.enc,Rw.next,Rw.word,to2]
  simp only[Si] at b w ⊢
  simp[JJ,P.ROW,P.NAMES,P.ASKED,b,w,rd,lK,Rw.next]
  simp[St.enc]
 | say s =>
  have q:=fY P (k+1) s (by have:=hr.2;lia) hr.1 st ho
  simp only[Rw.enc,Rw.next,Rw.word,to3]
  have l3:(cV st.said).length+1<=100000:=by rw[iE];lia
  simp[JI,P.ROW,P.SAID,q,rd,lK,Rw.next,l3,ints_snoc]
  simp[St.enc]
 | call q =>
  simp only[Rw.enc,Rw.next,Rw.word,to4]
  have l3:(dH st.calls).length+1<=100000:=by simp[dH];lia
  have e4:dH st.calls++[.int ((st.row:Int)+1)]=dH (st.calls++[st.row+1]):=by rw[← zN];simp
  simp[JH,P.ROW,P.CALLS,rd,lK,Rw.next,l3,e4]
  simp[St.enc]
 | back =>
  simp only[Rw.enc,Rw.next,Rw.word,to5]
  have e4:=Cf st.calls
  have e5:vD (.tup (dH st.calls)) none (some (-1))=some (.tup (dH st.calls.dropLast)):=by rw[AF,e4]
  simp[-AF,JF,P.ROW,P.CALLS,rd,lK,Rw.next,e5]
  simp[St.enc]
 | stop=>simp[Rw.over] at hb'
 | _ =>
  simp only[Rw.enc,Rw.next,Rw.word]
  rw[toN _ _ _ _ _ _ _ _ (by decide)]
  simp[P.ROW,rd,lK,Rw.next]
  simp[St.enc]
end
noncomputable def Ask (asked:List Int):Prop:=∀ x∈asked,Wth x
theorem Cj {xs:List Int}{i:Nat}{v:Int} (h:∀ x∈xs,Wth x) (hv:Wth v):∀ x∈xs.set i v,Wth x:=fun x hx=>by
 rcases Ux hx with q | q
 ·exact h x q
 ·rw[q];exact hv
structure At (n:Nat) (st:St):Prop where
 ok:st.ok
 said:st.said.length<=n
 calls:st.calls.length<=6
theorem At.small {st:St} (a:At n st) (h:n<=5000):st.small:=⟨by have:=a.said;lia,by have:=a.calls;lia⟩
theorem FE:At 0 St.zero:=⟨Fy,Rr _,by decide⟩
theorem FG {n:Nat}{p:Pg}{asked:List Int}{st:St} (hp:Pg.ok p) (ha:Ask asked) (a:At n st) (hb:over p st=false):At (n+1) (step p asked st):=by
 have c:st.row < p.length:=by
  rcases R0 st.row p.length with q | q
  ·exact q
  ·rw[over,RC q] at hb;cases hb
 have e:p[st.row]?=some p[st.row]:=Rv c
 have hr:=hp _ (List.getElem_mem c)
 have hb':(p[st.row]).over st=false:=by rw[over,e] at hb;exact hb
 rw[step,e]
 dsimp only
 revert hr hb'
 generalize p[st.row]=r
 intro hr hb'
 obtain ⟨ok,sd,cl⟩:=a
 cases r with
 | set x s=>exact ⟨⟨by simp[Rw.next,ok.nlen],ok.clen,Cj ok.nw (Sm.m6 ok hr.1),ok.cw⟩,by simp[Rw.next];lia,cl⟩
 | put s t=>exact ⟨⟨ok.nlen,by simp[Rw.next,ok.clen],ok.nw,Cj ok.cw (Sm.m6 ok hr.2.1)⟩,by simp[Rw.next];lia,cl⟩
 | ask x=>exact ⟨⟨by simp[Rw.next,ok.nlen],ok.clen,Cj ok.nw (pA ha _),ok.cw⟩,by simp[Rw.next];lia,cl⟩
 | say s=>exact ⟨⟨ok.nlen,ok.clen,ok.nw,ok.cw⟩,by simp[Rw.next];lia,cl⟩
 | call q =>
  simp[Rw.over] at hb'
  exact ⟨⟨ok.nlen,ok.clen,ok.nw,ok.cw⟩,by simp[Rw.next];lia,by simp[Rw.next];lia⟩
 | back=>exact ⟨⟨ok.nlen,ok.clen,ok.nw,ok.cw⟩,by simp[Rw.next];lia,by simp[Rw.next];lia⟩
 | stop=>simp[Rw.over] at hb'
 | _=>exact ⟨⟨ok.nlen,ok.clen,ok.nw,ok.cw⟩,by simp[Rw.next];lia,cl⟩
section
end
noncomputable def gA:Fn:=⟨["_law_script","_law_k"],["_law_script","_law_k"],
 (.seq (.ife (.cmp .eq (.var 0) (.lst false .nil)) (.ret (.bin .mul (.cst (.int 7)) (.var 1))) .nil)
 (.ret (.bin .add (.idx (.var 0) (.bin .mod (.var 1) (.bi .len false (.cons (.var 0) .nil)))) (.bin .mul (.cst (.int 6553)) (.bin .fdiv (.var 1) (.bi .len false (.cons (.var 0) .nil)))))))⟩
noncomputable def gJ:Fn:=⟨["_law_script","_law_k","_law_many"],["_law_script","_law_k","_law_many","_law_cell_here"],
 (.seq (.set 3 (.bin .mod (.bin .add (.bin .mul (.bin .mod (.call "_law_cell" (.cons (.var 0) (.cons (.var 1) .nil))) (.cst (.int 2147483563))) (.cst (.int 69069))) (.bin .mul (.cst (.int 104723)) (.bin .add (.var 1) (.cst (.int 1))))) (.cst (.int 2147483563))))
 (.seq (.set 3 (.bin .mod (.bin .add (.bin .mul (.var 3) (.var 3)) (.bin .fdiv (.var 3) (.cst (.int 3)))) (.cst (.int 2147483399))))
 (.ret (.bin .mod (.bin .fdiv (.bin .mod (.bin .add (.bin .mul (.var 3) (.var 3)) (.bin .fdiv (.var 3) (.cst (.int 7)))) (.cst (.int 2147483647))) (.cst (.int 11))) (.var 2)))))⟩
noncomputable def smL:S:=(.seq (.ife (.cmp .eq (.call "_law_drawn" (.cons (.var 0) (.cons (.bin .add (.var 1) (.cst (.int 1))) (.cons (.cst (.int 2)) .nil)))) (.cst (.int 0))) (.ret (.tup (.cons (.cst (.str "num")) (.cons (.idx (.lst false (.cons (.cst (.int 0)) (.cons (.cst (.int 1)) (.cons (.cst (.int 2)) (.cons (.cst (.int 3)) (.cons (.cst (.int 10)) (.cons (.cst (.int 10006)) .nil))))))) (.call "_law_drawn" (.cons (.var 0) (.cons (.bin .add (.var 1) (.cst (.int 2))) (.cons (.cst (.int 6)) .nil))))) .nil)))) .nil)
 (.ret (.tup (.cons (.cst (.str "name")) (.cons (.idx (.cst (.str "abcf")) (.call "_law_drawn" (.cons (.var 0) (.cons (.bin .add (.var 1) (.cst (.int 2))) (.cons (.cst (.int 4)) .nil))))) .nil)))))
noncomputable def smR:S:=(.seq (.set 4 (.call "_law_sum" (.cons (.var 0) (.cons (.bin .add (.bin .mul (.var 1) (.cst (.int 2))) (.cst (.int 5))) (.cons (.bin .sub (.var 2) (.cst (.int 1))) .nil)))))
 (.seq (.ife (.cmp .lt (.var 3) (.cst (.int 6))) (.ret (.tup (.cons (.cst (.str "cell")) (.cons (.var 4) .nil)))) .nil)
 (.ret (.tup (.cons (.idx (.lst false (.cons (.cst (.str "add")) (.cons (.cst (.str "sub")) (.cons (.cst (.str "mul")) (.cons (.cst (.str "less")) .nil))))) (.bin .sub (.var 3) (.cst (.int 6)))) (.cons (.var 4) (.cons (.call "_law_sum" (.cons (.var 0) (.cons (.bin .add (.bin .mul (.var 1) (.cst (.int 2))) (.cst (.int 19))) (.cons (.bin .sub (.var 2) (.cst (.int 1))) .nil)))) .nil)))))))
noncomputable def fK:Fn:=⟨["_law_script","_law_at","_law_deep"],["_law_script","_law_at","_law_deep","_law_way","_law_one"],
 (.seq (.set 3 (.call "_law_drawn" (.cons (.var 0) (.cons (.var 1) (.cons (.cst (.int 10)) .nil)))))
 (.seq (.ife (.or (.cmp .eq (.var 2) (.cst (.int 0))) (.cmp .lt (.var 3) (.cst (.int 4)))) smL .nil)
 smR))⟩
noncomputable def jr:Fn:=⟨["_law_script","_law_at","_law_size"],["_law_script","_law_at","_law_size","_law_way","_law_place","_law_name","_law_one"],
 (.seq (.set 3 (.call "_law_drawn" (.cons (.var 0) (.cons (.var 1) (.cons (.cst (.int 16)) .nil)))))
 (.seq (.set 4 (.call "_law_drawn" (.cons (.var 0) (.cons (.bin .add (.var 1) (.cst (.int 1))) (.cons (.bin .add (.var 2) (.cst (.int 1))) .nil)))))
 (.seq (.set 5 (.idx (.cst (.str "abc")) (.call "_law_drawn" (.cons (.var 0) (.cons (.bin .add (.var 1) (.cst (.int 2))) (.cons (.cst (.int 3)) .nil))))))
 (.seq (.set 6 (.call "_law_sum" (.cons (.var 0) (.cons (.bin .add (.var 1) (.cst (.int 3))) (.cons (.cst (.int 2)) .nil)))))
 (.seq (.ife (.cmp .lt (.var 3) (.cst (.int 5))) (.ret (.tup (.cons (.cst (.str "set")) (.cons (.var 5) (.cons (.var 6) .nil))))) .nil)
 (.seq (.ife (.cmp .lt (.var 3) (.cst (.int 7))) (.ret (.tup (.cons (.cst (.str "put")) (.cons (.call "_law_sum" (.cons (.var 0) (.cons (.bin .add (.var 1) (.cst (.int 9))) (.cons (.cst (.int 1)) .nil)))) (.cons (.var 6) .nil))))) .nil)
 (.seq (.ife (.cmp .lt (.var 3) (.cst (.int 9))) (.ret (.idx (.lst false (.cons (.tup (.cons (.cst (.str "ask")) (.cons (.var 5) .nil))) (.cons (.tup (.cons (.cst (.str "say")) (.cons (.var 6) .nil))) .nil))) (.bin .sub (.var 3) (.cst (.int 7))))) .nil)
 (.seq (.ife (.cmp .lt (.var 3) (.cst (.int 12))) (.ret (.idx (.lst false (.cons (.tup (.cons (.cst (.str "jump")) (.cons (.var 4) .nil))) (.cons (.tup (.cons (.cst (.str "unless")) (.cons (.var 6) (.cons (.var 4) .nil)))) (.cons (.tup (.cons (.cst (.str "unless")) (.cons (.tup (.cons (.cst (.str "name")) (.cons (.var 5) .nil))) (.cons (.var 4) .nil)))) .nil)))) (.bin .sub (.var 3) (.cst (.int 9))))) .nil)
 (.ret (.idx (.lst false (.cons (.tup (.cons (.cst (.str "call")) (.cons (.var 4) .nil))) (.cons (.tup (.cons (.cst (.str "call")) (.cons (.var 4) .nil))) (.cons (.tup (.cons (.cst (.str "back")) .nil)) (.cons (.idx (.lst false (.cons (.tup (.cons (.cst (.str "stop")) .nil)) (.cons (.tup (.cons (.cst (.str "back")) .nil)) .nil))) (.bin .mod (.var 4) (.cst (.int 2)))) .nil))))) (.bin .sub (.var 3) (.cst (.int 12)))))))))))))⟩
noncomputable def e9:Fn:=⟨["_law_script","_law_at"],["_law_script","_law_at","_law_size","_law_put","_law_sign","_law_rows"],
 (.seq (.set 2 (.bin .add (.cst (.int 1)) (.call "_law_drawn" (.cons (.var 0) (.cons (.var 1) (.cons (.cst (.int 9)) .nil))))))
 (.seq (.ife (.cmp .eq (.call "_law_drawn" (.cons (.var 0) (.cons (.bin .add (.var 1) (.cst (.int 1))) (.cons (.cst (.int 4)) .nil)))) (.cst (.int 0))) (.seq (.set 3 (.tup (.cons (.cst (.str "put")) (.cons (.tup (.cons (.cst (.str "name")) (.cons (.cst (.str "a")) .nil))) (.cons (.tup (.cons (.cst (.str "num")) (.cons (.call "_law_drawn" (.cons (.var 0) (.cons (.bin .add (.var 1) (.cst (.int 2))) (.cons (.cst (.int 9)) .nil)))) .nil))) .nil)))))
 (.seq (.set 4 (.idx (.lst false (.cons (.cst (.str "add")) (.cons (.cst (.str "sub")) .nil))) (.call "_law_drawn" (.cons (.var 0) (.cons (.bin .add (.var 1) (.cst (.int 3))) (.cons (.cst (.int 2)) .nil))))))
 (.seq (.set 5 (.tup (.cons (.tup (.cons (.cst (.str "ask")) (.cons (.cst (.str "a")) .nil))) (.cons (.tup (.cons (.cst (.str "call")) (.cons (.cst (.int 4)) .nil))) (.cons (.tup (.cons (.cst (.str "say")) (.cons (.tup (.cons (.cst (.str "name")) (.cons (.cst (.str "a")) .nil))) .nil))) (.cons (.tup (.cons (.cst (.str "jump")) (.cons (.cst (.int 0)) .nil))) (.cons (.var 3) .nil)))))))
 (.ret (.bin .add (.var 5) (.tup (.cons (.tup (.cons (.cst (.str "call")) (.cons (.cst (.int 7)) .nil))) (.cons (.tup (.cons (.cst (.str "back")) .nil)) (.cons (.tup (.cons (.cst (.str "set")) (.cons (.cst (.str "b")) (.cons (.tup (.cons (.var 4) (.cons (.tup (.cons (.cst (.str "name")) (.cons (.cst (.str "b")) .nil))) (.cons (.tup (.cons (.cst (.str "name")) (.cons (.cst (.str "a")) .nil))) .nil)))) .nil)))) (.cons (.tup (.cons (.cst (.str "back")) .nil)) .nil)))))))))) .nil)
 (.ret (.bi .tuple false (.cons (.comp false .rng1 (.cons (.var 2) .nil) ["_law_k"] [(0,"_law_script"),(1,"_law_at"),(2,"_law_size")] .nil (.call "_law_row" (.cons (.var 1) (.cons (.bin .add (.bin .add (.var 2) (.cst (.int 10))) (.bin .mul (.cst (.int 40)) (.var 0))) (.cons (.var 3) .nil))))) .nil)))))⟩
noncomputable def gK:Fn:=⟨["_law_script","_law_at"],["_law_script","_law_at"],
 (.ret (.comp false .rng1 (.cons (.call "_law_drawn" (.cons (.var 0) (.cons (.var 1) (.cons (.cst (.int 4)) .nil)))) .nil) ["_law_k"] [(0,"_law_script"),(1,"_law_at")] .nil (.idx (.lst false (.cons (.cst (.int 0)) (.cons (.cst (.int 1)) (.cons (.cst (.int 5)) (.cons (.cst (.int 10006)) .nil))))) (.call "_law_drawn" (.cons (.var 1) (.cons (.bin .add (.bin .add (.var 2) (.cst (.int 1))) (.var 0)) (.cons (.cst (.int 4)) .nil)))))))⟩
structure Lw (T:FK->Option Fn):Prop where
 cell:T "_law_cell"=some gA
 drawn:T "_law_drawn"=some gJ
 sum:T "_law_sum"=some fK
 row:T "_law_row"=some jr
 asked:T "_law_asked"=some gK
noncomputable def xW (ns:List Int) (k:Int):Int:=if ns=[] then 7*k else ns.getD (k % ns.length).toNat 0+6553*(k / ns.length)
noncomputable def drw (ns:List Int) (k many:Int):Int :=
 let a:=(xW ns k % 2147483563*69069+104723*(k+1)) % 2147483563
 let b:=(a*a+a / 3) % 2147483399
 (b*b+b / 7) % 2147483647 / 11 % many
theorem fL (ns:List Int) (k:Int) (h:0 < many):0<=drw ns k many:=Int.emod_nonneg _ (by lia)
theorem fM (ns:List Int) (k:Int) (h:0 < many):drw ns k many < many:=Int.emod_lt_of_pos _ h
theorem qO (h0:0<=i) (h1:i < 18446744073709551616):big i=true:=by
 unfold big;exact decide_eq_true (by lia)
section
theorem FH (ns:List Int):eqv (.lst (cV ns)) (.lst [])=decide (ns=[]):=by
 cases ns<;>simp[cV]
theorem Ck (L:Lw T) (m:Nat) (ns:List Int) (hl:ns.length<=1000) (k:Int) (h:HH):runN T G (m+1) "_law_cell" [.p (.lst (cV ns)),.p (.int k)] h=some (.p (.int (xW ns k)),h):=by
 rw[run_eq L.cell rfl]
 by_cases c:ns=[]
 ·subst c
  simp[gA,cV,xW,big,cW]
 ·have n0:0 < ns.length:=List.length_pos_iff.mpr c
  have q:eqv (.lst (cV ns)) (.lst [])=false:=by rw[FH];exact decide_eq_false c
  have p1:(0:Int) < (ns.length:Int):=by lia
  have p2:(ns.length:Int) < 1073741824:=by lia
  have m1:=Int.emod_nonneg k (b:=(ns.length:Int)) (by lia)
  have m2:=Int.emod_lt_of_pos k p1
  have i1:(k % (ns.length:Int)).toNat < ns.length:=by lia
  have n2:ns.length < 1073741824:=by lia
  simp[gA,-eqv,q,iE,p1,p2,n0,n2,m1,m2,big,cW,xW,c]
  simp[cV,i1,cW,n0,n2,m1,m2,big,p1,p2]
theorem fR (L:Lw T) (m:Nat) (ns:List Int) (hl:ns.length<=1000) (k many:Int) (hm:0 < many) (h:HH) :
 runN T G (m+2) "_law_drawn" [.p (.lst (cV ns)),.p (.int k),.p (.int many)] h=some (.p (.int (drw ns k many)),h):=by
 rw[run_eq L.drawn rfl]
 have r:=Ck (G:=G) L m ns hl k
 have b0:big 69069=true:=by decide
 have b1:big 104723=true:=by decide
 have b2:∀ x:Int,big (x % 2147483563)=true:=fun x=>qO (by lia) (by lia)
 have b3:∀ x:Int,big (x % 2147483399)=true:=fun x=>qO (by lia) (by lia)
 simp[gJ,r,b0,b1,b2,b3,cW,hm,drw]
theorem sC:RM "abcf"=⟨#[97,98,99,102]⟩:=by decide +kernel
theorem Cn:RM "abc"=⟨#[97,98,99]⟩:=by decide +kernel
theorem o_a:RM "a"=⟨#[97]⟩:=by decide +kernel
theorem o_b:RM "b"=⟨#[98]⟩:=by decide +kernel
theorem o_c:RM "c"=⟨#[99]⟩:=by decide +kernel
theorem o_f:RM "f"=⟨#[102]⟩:=by decide +kernel
theorem xX (i:Int) (h0:0<=i) (h1:i < 4):∃ x:Nm,dF (.str "abcf") (.int i)=some (.str x.w):=by
 have:i=0\/i=1\/i=2\/i=3:=by lia
 rcases this with rfl | rfl | rfl | rfl
 ·exact ⟨.a,by rw[Nm.w,sC,o_a];rfl⟩
 ·exact ⟨.b,by rw[Nm.w,sC,o_b];rfl⟩
 ·exact ⟨.c,by rw[Nm.w,sC,o_c];rfl⟩
 ·exact ⟨.f,by rw[Nm.w,sC,o_f];rfl⟩
theorem JO (i:Int) (h0:0<=i) (h1:i < 3):∃ x:Nm,dF (.str "abc") (.int i)=some (.str x.w):=by
 have:i=0\/i=1\/i=2:=by lia
 rcases this with rfl | rfl | rfl
 ·exact ⟨.a,by rw[Nm.w,Cn,o_a];rfl⟩
 ·exact ⟨.b,by rw[Nm.w,Cn,o_b];rfl⟩
 ·exact ⟨.c,by rw[Nm.w,Cn,o_c];rfl⟩
theorem xY (i:Int) (h0:0<=i) (h1:i < 6):∃ n:Int,Wth n/\dF (.lst [.int 0,.int 1,.int 2,.int 3,.int 10,.int 10006]) (.int i)=some (.int n):=by
 have:i=0\/i=1\/i=2\/i=3\/i=4\/i=5:=by lia
 rcases this with rfl | rfl | rfl | rfl | rfl | rfl
 ·exact ⟨0,⟨by decide,by decide⟩,rfl⟩
 ·exact ⟨1,⟨by decide,by decide⟩,rfl⟩
 ·exact ⟨2,⟨by decide,by decide⟩,rfl⟩
 ·exact ⟨3,⟨by decide,by decide⟩,rfl⟩
 ·exact ⟨10,⟨by decide,by decide⟩,rfl⟩
 ·exact ⟨10006,⟨by decide,by decide⟩,rfl⟩
theorem JP (i:Int) (h0:0<=i) (h1:i < 4):∃ o:Op,dF (.lst [.str "add",.str "sub",.str "mul",.str "less"]) (.int i)=some (.str o.w):=by
 have:i=0\/i=1\/i=2\/i=3:=by lia
 rcases this with rfl | rfl | rfl | rfl
 ·exact ⟨.add,rfl⟩
 ·exact ⟨.sub,rfl⟩
 ·exact ⟨.mul,rfl⟩
 ·exact ⟨.less,rfl⟩
theorem Co (L:Lw T) (ns:List Int) (hl:ns.length<=1000) (p n:Int) (k:Nat) (rest:Sl) (h:HH) (c:drw ns (p+1) 2=0) (en:dF (.lst [.int 0,.int 1,.int 2,.int 3,.int 10,.int 10006]) (.int (drw ns (p+2) 6))=some (.int n)) :
 evS (runN T G (k+2)) G smL (some (.p (.lst (cV ns))) :: some (.p (.int p)) :: rest) h=some (.rt (.p (Sm.num n).enc) h):=by
 have dr:=fun q many (hm:0 < many)=>fR (G:=G) L k ns hl q many hm
 simp[-fF,-jG,smL,dr,c,en,Sm.enc]
theorem Cq (L:Lw T) (ns:List Int) (hl:ns.length<=1000) (p:Int) (x:Nm) (k:Nat) (rest:Sl) (h:HH) (c:¬ drw ns (p+1) 2=0) (ex:dF (.str "abcf") (.int (drw ns (p+2) 4))=some (.str x.w)) :
 evS (runN T G (k+2)) G smL (some (.p (.lst (cV ns))) :: some (.p (.int p)) :: rest) h=some (.rt (.p (Sm.nam x).enc) h):=by
 have dr:=fun q many (hm:0 < many)=>fR (G:=G) L k ns hl q many hm
 simp[-fF,-jG,smL,dr,c,ex,Sm.enc]
theorem xZ (L:Lw T) (ns:List Int) (hl:ns.length<=1000):∀ (deep:Nat) (p:Int),∃ s:Sm,s.ok/\s.size+1<=2 ^ (deep+1)/\∀ (m:Nat) (h:HH),
 runN T G (m+deep+3) "_law_sum" [.p (.lst (cV ns)),.p (.int p),.p (.int deep)] h=some (.p s.enc,h):=by
 intro deep
 induction deep with
 | zero =>
  intro p
  have dr:=fun m q many (hm:0 < many)=>fR (G:=G) L m ns hl q many hm
  obtain ⟨x,ex⟩:=xX (drw ns (p+2) 4) (fL _ _ (by decide)) (fM _ _ (by decide))
  obtain ⟨n,hn,en⟩:=xY (drw ns (p+2) 6) (fL _ _ (by decide)) (fM _ _ (by decide))
  have key:∀ (s:Sm) (m:Nat) (h:HH),(∀ rest,evS (runN T G (m+2)) G smL (some (.p (.lst (cV ns))) :: some (.p (.int p)) :: rest) h=some (.rt (.p s.enc) h))->runN T G (m+0+3) "_law_sum" [.p (.lst (cV ns)),.p (.int p),.p (.int ((0:Nat):Int))] h=some (.p s.enc,h):=fun s m h q=>by
   rw[run_eq L.sum rfl]
   simp[fK,dr,q,cW]
  by_cases c:drw ns (p+1) 2=0
  ·exact ⟨.num n,hn,by simp[Sm.size],fun m h=>key _ m h fun rest=>Co L ns hl p n m rest h c en⟩
  ·exact ⟨.nam x,trivial,by simp[Sm.size],fun m h=>key _ m h fun rest=>Cq L ns hl p x m rest h c ex⟩
 | succ deep ih =>
  intro p
  have dr:=fun m q many (hm:0 < many)=>fR (G:=G) L m ns hl q many hm
  obtain ⟨x,ex⟩:=xX (drw ns (p+2) 4) (fL _ _ (by decide)) (fM _ _ (by decide))
  obtain ⟨n,hn,en⟩:=xY (drw ns (p+2) 6) (fL _ _ (by decide)) (fM _ _ (by decide))
  obtain ⟨s,so,ss,sr0⟩:=ih (p*2+5)
  obtain ⟨t,to,tt,tr0⟩:=ih (p*2+19)
  have ee:∀ m,m+(deep+1)+2=m+deep+3:=fun m=>by lia
  have sr:=fun m h=>(ee m).symm ▸ sr0 m h
  have tr:=fun m h=>(ee m).symm ▸ tr0 m h
  have d0:¬ ((deep:Int)+1=0):=by lia
  have d1:((deep:Int)+1 - 1)=deep:=by lia
  have b2:big 2=true:=by decide
  have w0:=fL ns p (many:=10) (by decide)
  have w1:=fM ns p (many:=10) (by decide)
  have pw:2 ^ (deep+1+1)=2 ^ (deep+1)+2 ^ (deep+1):=by lia
  by_cases c1:drw ns p 10 < 4
  ·have key:∀ (s:Sm) (m:Nat) (h:HH),(∀ rest,evS (runN T G (m+deep+1+2)) G smL (some (.p (.lst (cV ns))) :: some (.p (.int p)) :: rest) h=some (.rt (.p s.enc) h))->runN T G (m+(deep+1)+3) "_law_sum" [.p (.lst (cV ns)),.p (.int p),.p (.int ((deep+1:Nat):Int))] h=some (.p s.enc,h):=fun s m h q=>by
    rw[run_eq L.sum rfl]
    have dq:=dr (m+(deep+1))
    have q:∀ rest,evS (runN T G (m+(deep+1)+2)) G smL (some (.p (.lst (cV ns))) :: some (.p (.int p)) :: rest) h=some (.rt (.p s.enc) h):=q
    simp[fK,dq,c1,d0,q,cW]
   by_cases c:drw ns (p+1) 2=0
   ·exact ⟨.num n,hn,by simp only[Sm.size];lia,fun m h=>key _ m h fun rest=>Co L ns hl p n (m+deep+1) rest h c en⟩
   ·exact ⟨.nam x,trivial,by simp only[Sm.size];lia,fun m h=>key _ m h fun rest=>Cq L ns hl p x (m+deep+1) rest h c ex⟩
  ·by_cases c2:drw ns p 10 < 6
   ·refine ⟨.cell s,so,by simp only[Sm.size];lia,fun m h=>?_⟩
    rw[run_eq L.sum rfl]
    simp[-fF,-jG,fK,smR,dr,c1,c2,d0,d1,b2,sr,cW,Sm.enc]
   ·obtain ⟨o,eo⟩:=JP (drw ns p 10 - 6) (by lia) (by lia)
    refine ⟨.two o s t,⟨so,to⟩,by simp only[Sm.size];lia,fun m h=>?_⟩
    rw[run_eq L.sum rfl]
    simp[-fF,-jG,fK,smR,dr,c1,c2,d0,d1,b2,sr,tr,eo,cW,Sm.enc]
end
noncomputable def GU:S:=(.ret (.idx (.lst false (.cons (.tup (.cons (.cst (.str "call")) (.cons (.var 4) .nil))) (.cons (.tup (.cons (.cst (.str "call")) (.cons (.var 4) .nil))) (.cons (.tup (.cons (.cst (.str "back")) .nil)) (.cons (.idx (.lst false (.cons (.tup (.cons (.cst (.str "stop")) .nil)) (.cons (.tup (.cons (.cst (.str "back")) .nil)) .nil))) (.bin .mod (.var 4) (.cst (.int 2)))) .nil))))) (.bin .sub (.var 3) (.cst (.int 12)))))
noncomputable def rA3:S:=(.ret (.idx (.lst false (.cons (.tup (.cons (.cst (.str "jump")) (.cons (.var 4) .nil))) (.cons (.tup (.cons (.cst (.str "unless")) (.cons (.var 6) (.cons (.var 4) .nil)))) (.cons (.tup (.cons (.cst (.str "unless")) (.cons (.tup (.cons (.cst (.str "name")) (.cons (.var 5) .nil))) (.cons (.var 4) .nil)))) .nil)))) (.bin .sub (.var 3) (.cst (.int 9)))))
noncomputable def Cr:S:=(.seq (.ife (.cmp .lt (.var 3) (.cst (.int 12))) rA3 .nil) GU)
noncomputable def rA2:S:=(.ret (.idx (.lst false (.cons (.tup (.cons (.cst (.str "ask")) (.cons (.var 5) .nil))) (.cons (.tup (.cons (.cst (.str "say")) (.cons (.var 6) .nil))) .nil))) (.bin .sub (.var 3) (.cst (.int 7)))))
noncomputable def ya:S:=(.seq (.ife (.cmp .lt (.var 3) (.cst (.int 9))) rA2 .nil) Cr)
noncomputable def rA1:S:=(.ret (.tup (.cons (.cst (.str "put")) (.cons (.call "_law_sum" (.cons (.var 0) (.cons (.bin .add (.var 1) (.cst (.int 9))) (.cons (.cst (.int 1)) .nil)))) (.cons (.var 6) .nil)))))
noncomputable def uP:S:=(.seq (.ife (.cmp .lt (.var 3) (.cst (.int 7))) rA1 .nil) ya)
noncomputable def rA0:S:=(.ret (.tup (.cons (.cst (.str "set")) (.cons (.var 5) (.cons (.var 6) .nil)))))
noncomputable def we:S:=(.seq (.ife (.cmp .lt (.var 3) (.cst (.int 5))) rA0 .nil) uP)
theorem qk:jr=⟨["_law_script","_law_at","_law_size"],["_law_script","_law_at","_law_size","_law_way","_law_place","_law_name","_law_one"],
 (.seq (.set 3 (.call "_law_drawn" (.cons (.var 0) (.cons (.var 1) (.cons (.cst (.int 16)) .nil)))))
 (.seq (.set 4 (.call "_law_drawn" (.cons (.var 0) (.cons (.bin .add (.var 1) (.cst (.int 1))) (.cons (.bin .add (.var 2) (.cst (.int 1))) .nil)))))
 (.seq (.set 5 (.idx (.cst (.str "abc")) (.call "_law_drawn" (.cons (.var 0) (.cons (.bin .add (.var 1) (.cst (.int 2))) (.cons (.cst (.int 3)) .nil))))))
 (.seq (.set 6 (.call "_law_sum" (.cons (.var 0) (.cons (.bin .add (.var 1) (.cst (.int 3))) (.cons (.cst (.int 2)) .nil)))))
 we))))⟩:=rfl
section
theorem FI (L:Lw T) (ns:List Int) (hl:ns.length<=1000) (p:Int) (size:Nat):∃ r:Rw,r.ok size/\∀ (m:Nat) (h:HH),
 runN T G (m+6) "_law_row" [.p (.lst (cV ns)),.p (.int p),.p (.int size)] h=some (.p r.enc,h):=by
 have dr:=fun m q many (hm:0 < many)=>fR (G:=G) L m ns hl q many hm
 obtain ⟨x,ex⟩:=JO (drw ns (p+2) 3) (fL _ _ (by decide)) (fM _ _ (by decide))
 obtain ⟨s,so,ss,sr⟩:=xZ (G:=G) L ns hl 2 (p+3)
 obtain ⟨t,to,tt,tr⟩:=xZ (G:=G) L ns hl 1 (p+9)
 have w0:=fL ns p (many:=16) (by decide)
 have w1:=fM ns p (many:=16) (by decide)
 have sz:(0:Int) < (size:Int)+1:=by lia
 have p0:=fL ns (p+1) sz
 have p1:=fM ns (p+1) sz
 obtain ⟨pl,hpl⟩:∃ pl:Nat,drw ns (p+1) ((size:Int)+1)=(pl:Int):=⟨(drw ns (p+1) ((size:Int)+1)).toNat,by lia⟩
 have ple:pl<=size:=by lia
 have sok:sy s:=⟨so,by lia⟩
 have tok:sy t:=⟨to,by lia⟩
 have sr':=fun m h=>sr (m+0) h
 have tr':=fun m h=>tr (m+1) h
 simp at sr' tr'
 have dp:=fun m h=>dr m (p+1) ((size:Int)+1) sz h
 rw[hpl] at dp
 have pre:∀ (m:Nat) (h:HH),runN T G (m+6) "_law_row" [.p (.lst (cV ns)),.p (.int p),.p (.int size)] h =
  oO (evS (runN T G (m+5)) G we [some (.p (.lst (cV ns))),some (.p (.int p)),some (.p (.int size)),some (.p (.int (drw ns p 16))),some (.p (.int (pl:Int))),some (.p (.str x.w)),some (.p s.enc)] h) (fin h):=fun m h=>by
  rw[run_eq L.row rfl,qk]
  simp[-jG,dp,dr,ex,sr']
 by_cases c1:drw ns p 16 < 5
 ·refine ⟨.set x s,sok,fun m h=>?_⟩
  rw[pre]
  simp[-fF,-jG,we,rA0,c1,cW,Rw.enc]
 ·by_cases c2:drw ns p 16 < 7
  ·refine ⟨.put t s,⟨tok,sok⟩,fun m h=>?_⟩
   rw[pre]
   simp[-fF,-jG,we,uP,rA1,tr',c1,c2,cW,Rw.enc]
  ·by_cases c3:drw ns p 16 < 9
   ·obtain ⟨r,ro,ix⟩:∃ r:Rw,r.ok size/\dF (.lst [.tup [.str "ask",.str x.w],.tup [.str "say",s.enc]]) (.int (drw ns p 16 - 7))=some r.enc:=by
     have c:drw ns p 16=7\/drw ns p 16=8:=by lia
     rcases c with c | c<;>rw[c]
     ·exact ⟨.ask x,trivial,rfl⟩
     ·exact ⟨.say s,sok,rfl⟩
    refine ⟨r,ro,fun m h=>?_⟩
    rw[pre]
    simp[-fF,we,uP,ya,rA2,c1,c2,c3,ix,cW]
   ·by_cases c4:drw ns p 16 < 12
    ·obtain ⟨r,ro,ix⟩:∃ r:Rw,r.ok size/\dF (.lst [.tup [.str "jump",.int pl],.tup [.str "unless",s.enc,.int pl],.tup [.str "unless",.tup [.str "name",.str x.w],.int pl]]) (.int (drw ns p 16 - 9))=some r.enc:=by
      have c:drw ns p 16=9\/drw ns p 16=10\/drw ns p 16=11:=by lia
      rcases c with c | c | c<;>rw[c]
      ·exact ⟨.jump pl,ple,rfl⟩
      ·exact ⟨.unless s pl,⟨sok,ple⟩,rfl⟩
      ·exact ⟨.unless (.nam x) pl,⟨⟨trivial,by simp[Sm.size]⟩,ple⟩,rfl⟩
     refine ⟨r,ro,fun m h=>?_⟩
     rw[pre]
     simp[-fF,we,uP,ya,Cr,rA3,c1,c2,c3,c4,ix,cW]
    ·obtain ⟨u,uo,iu⟩:∃ u:Rw,u.ok size/\dF (.lst [.tup [.str "stop"],.tup [.str "back"]]) (.int ((pl:Int) % 2))=some u.enc:=by
      have z:(pl:Int) % 2=0\/(pl:Int) % 2=1:=by lia
      rcases z with z | z<;>rw[z]
      ·exact ⟨.stop,trivial,rfl⟩
      ·exact ⟨.back,trivial,rfl⟩
     obtain ⟨r,ro,ix⟩:∃ r:Rw,r.ok size/\dF (.lst [.tup [.str "call",.int pl],.tup [.str "call",.int pl],.tup [.str "back"],u.enc]) (.int (drw ns p 16 - 12))=some r.enc:=by
      have c:drw ns p 16=12\/drw ns p 16=13\/drw ns p 16=14\/drw ns p 16=15:=by lia
      rcases c with c | c | c | c<;>rw[c]
      ·exact ⟨.call pl,ple,rfl⟩
      ·exact ⟨.call pl,ple,rfl⟩
      ·exact ⟨.back,trivial,rfl⟩
      ·exact ⟨u,uo,rfl⟩
     refine ⟨r,ro,fun m h=>?_⟩
     rw[pre]
     simp[-fF,we,uP,ya,Cr,GU,c1,c2,c3,c4,iu,ix,cW]
theorem comp_map (f:List D->HH->Option (Option D×HH)) (g:D->D):∀ (ds:List D) (h:HH),(∀ d∈ds,∀ h,f [d] h=some (some (g d),h))->dU f 1 ds h=some (ds.map g,h):=by
 intro ds
 induction ds with
 | nil=>intro h _;rfl
 | cons d r ih =>
  intro h hf
  have e1:=hf d RE h
  have e2:=ih h fun x hx=>hf x (Ru _ hx)
  rw[dU,oM]
  simp[e1,e2]
theorem uQ (h:d∈upto 0 n):∃ k:Nat,k < n/\d=.int k:=by
 simp[upto] at h
 obtain ⟨k,hk,e⟩:=h
 exact ⟨k,hk,e.symm⟩
theorem uR (n:Nat) (g:D->D):(upto 0 n).map g=(RV n).map fun (k:Nat)=>g (.int k):=by
 simp[upto,Function.comp_def]
noncomputable def FJ:E:=.idx (.lst false (.cons (.cst (.int 0)) (.cons (.cst (.int 1)) (.cons (.cst (.int 5)) (.cons (.cst (.int 10006)) .nil))))) (.call "_law_drawn" (.cons (.var 1) (.cons (.bin .add (.bin .add (.var 2) (.cst (.int 1))) (.var 0)) (.cons (.cst (.int 4)) .nil))))
theorem nu:gK=⟨["_law_script","_law_at"],["_law_script","_law_at"],.ret (.comp false .rng1 (.cons (.call "_law_drawn" (.cons (.var 0) (.cons (.var 1) (.cons (.cst (.int 4)) .nil)))) .nil) ["_law_k"] [(0,"_law_script"),(1,"_law_at")] .nil FJ)⟩:=rfl
theorem zP (L:Lw T) (ns:List Int) (hl:ns.length<=1000) (p:Int):∃ asked:List Int,Ask asked/\asked.length<=3/\∀ (m:Nat) (h:HH),
 runN T G (m+3) "_law_asked" [.p (.lst (cV ns)),.p (.int p)] h=some (.p (.lst (cV asked)),h):=by
 have dr:=fun m q many (hm:0 < many)=>fR (G:=G) L m ns hl q many hm
 have at4:∀ i:Int,0<=i->i < 4->∃ n:Int,Wth n/\dF (.lst [.int 0,.int 1,.int 5,.int 10006]) (.int i)=some (.int n):=by
  intro i h0 h1
  have:i=0\/i=1\/i=2\/i=3:=by lia
  rcases this with rfl | rfl | rfl | rfl
  ·exact ⟨0,⟨by decide,by decide⟩,rfl⟩
  ·exact ⟨1,⟨by decide,by decide⟩,rfl⟩
  ·exact ⟨5,⟨by decide,by decide⟩,rfl⟩
  ·exact ⟨10006,⟨by decide,by decide⟩,rfl⟩
 have ch:∀ k:Nat,∃ n:Int,Wth n/\dF (.lst [.int 0,.int 1,.int 5,.int 10006]) (.int (drw ns (p+1+k) 4))=some (.int n):=fun k =>
  at4 _ (fL _ _ (by decide)) (fM _ _ (by decide))
 obtain ⟨g,hg⟩:=VS ch
 have w0:=fL ns p (many:=4) (by decide)
 have w1:=fM ns p (many:=4) (by decide)
 refine ⟨(RV (drw ns p 4).toNat).map g,?_,by simp;lia,fun m h=>?_⟩
 ·intro x hx
  simp at hx
  obtain ⟨k,_,rfl⟩:=hx
  exact (hg k).1
 ·rw[run_eq L.asked rfl,nu]
  have c1:drw ns p 4<=100000:=by lia
  have c0:-100000<=drw ns p 4:=by lia
  have he:∀ (k:Nat) (h:HH),ev (runN T G (m+2)) G FJ [some (.p (.int k)),some (.p (.lst (cV ns))),some (.p (.int p))] h=some (.p (.int (g k)),h):=fun k h=>by
   have e:=(hg k).2
   simp[-fF,FJ,dr,e]
  have cm:=comp_map (eW (fun _ h=>some ([],h)) (ev (runN T G (m+2)) G FJ) [some (.p (.lst (cV ns))),some (.p (.int p))]) (fun d=>match d with | .int k=>.int (g k.toNat) | _=>.non) (upto 0 (drw ns p 4).toNat) h (by
   intro d hd h
   obtain ⟨k,hk,rfl⟩:=uQ hd
   simp[eV,he])
  have ln:(drw ns p 4).toNat<=100000:=by lia
  rw[uR] at cm
  have cm':(RV (drw ns p 4).toNat).map (fun (k:Nat)=>match D.int (k:Int) with | .int k=>D.int (g k.toNat) | _=>.non)=cV ((RV (drw ns p 4).toNat).map g):=by simp[cV,Function.comp_def]
  rw[cm'] at cm
  simp[dr,c0,c1,cm,iE,ln,cW,gY]
noncomputable def Cs:E:=.call "_law_row" (.cons (.var 1) (.cons (.bin .add (.bin .add (.var 2) (.cst (.int 10))) (.bin .mul (.cst (.int 40)) (.var 0))) (.cons (.var 3) .nil)))
structure Drawn (p:Pg):Prop where
 ok:Pg.ok p
 lo:1<=p.length
 hi:p.length<=9
noncomputable def jU (n:Int) (o:Op):Pg:=[.ask .a,.call 4,.say (.nam .a),.jump 0,.put (.nam .a) (.num n),.call 7,.back,.set .b (.two o (.nam .b) (.nam .a)),.back]
theorem sD (n:Int) (o:Op) (h:Wth n):Drawn (jU n o):=by
 refine ⟨?_,by simp[jU],by simp[jU]⟩
 intro r hr
 simp only[jU,Vs,Up,or_false] at hr
 rcases hr with rfl | rfl | rfl | rfl | rfl | rfl | rfl | rfl | rfl<;>simp[Rw.ok,jU,sy,Sm.ok,Sm.size,h]
theorem pG (L:Lw T)
 (ns:List Int) (hl:ns.length<=1000) (p:Int)
 (run1:∀ (m:Nat) (h:HH) (n:Int) (o:Op),drw ns (p+1) 4=0->n=drw ns (p+2) 9->dF (.lst [.str "add",.str "sub"]) (.int (drw ns (p+3) 2))=some (.str o.w) →
  (∀ m q many,0 < many->∀ h,runN T G (m+2) "_law_drawn" [.p (.lst (cV ns)),.p (.int q),.p (.int many)] h=some (.p (.int (drw ns q many)),h)) →
  runN T G (m+7) "_law_program" [.p (.lst (cV ns)),.p (.int p)] h=some (.p (gI (jU n o)),h))
 (run2:∀ (m:Nat) (h:HH) (pg:Pg),drw ns (p+1) 4≠0->pg.length=(1+drw ns p 9).toNat →
  (∀ m q many,0 < many->∀ h,runN T G (m+2) "_law_drawn" [.p (.lst (cV ns)),.p (.int q),.p (.int many)] h=some (.p (.int (drw ns q many)),h)) →
  (∀ h,dU (eW (fun _ h=>some ([],h)) (ev (runN T G (m+6)) G Cs) [some (.p (.lst (cV ns))),some (.p (.int p)),some (.p (.int (1+drw ns p 9)))]) 1 (upto 0 (1+drw ns p 9).toNat) h=some (pg.map Rw.enc,h)) →
  runN T G (m+7) "_law_program" [.p (.lst (cV ns)),.p (.int p)] h=some (.p (gI pg),h)) :
 ∃ pg:Pg,Drawn pg/\∀ (m:Nat) (h:HH),runN T G (m+7) "_law_program" [.p (.lst (cV ns)),.p (.int p)] h=some (.p (gI pg),h):=by
 have dr:=fun m q many (hm:0 < many)=>fR (G:=G) L m ns hl q many hm
 by_cases c:drw ns (p+1) 4=0
 ·have d0:=fL ns (p+3) (many:=2) (by decide)
  have d1:=fM ns (p+3) (many:=2) (by decide)
  have e0:=fL ns (p+2) (many:=9) (by decide)
  have e1:=fM ns (p+2) (many:=9) (by decide)
  have z:drw ns (p+3) 2=0\/drw ns (p+3) 2=1:=by lia
  have:∃ o:Op,dF (.lst [.str "add",.str "sub"]) (.int (drw ns (p+3) 2))=some (.str o.w):=by
   rcases z with z | z<;>rw[z]
   ·exact ⟨.add,rfl⟩
   ·exact ⟨.sub,rfl⟩
  obtain ⟨o,eo⟩:=this
  exact ⟨jU (drw ns (p+2) 9) o,sD _ _ ⟨by lia,by lia⟩,fun m h=>run1 m h _ o c rfl eo dr⟩
 ·have d0:=fL ns p (many:=9) (by decide)
  have d1:=fM ns p (many:=9) (by decide)
  obtain ⟨sz,hsz⟩:∃ sz:Nat,1+drw ns p 9=(sz:Int):=⟨(1+drw ns p 9).toNat,by lia⟩
  have ch:∀ k:Nat,∃ r:Rw,r.ok sz/\∀ (m:Nat) (h:HH),runN T G (m+6) "_law_row" [.p (.lst (cV ns)),.p (.int (p+10+40*(k:Int))),.p (.int sz)] h=some (.p r.enc,h) :=
   fun k=>FI L ns hl _ sz
  obtain ⟨g,hg⟩:=VS ch
  refine ⟨(RV sz).map g,⟨?_,by simp;lia,by simp;lia⟩,fun m h=>run2 m h _ c (by simp;lia) dr fun h=>?_⟩
  ·intro r hr
   simp at hr
   obtain ⟨k,_,rfl⟩:=hr
   simpa using (hg k).1
  ·rw[hsz]
   have b:big 40=true:=by decide
   have he:∀ (k:Nat) (h:HH),ev (runN T G (m+6)) G Cs [some (.p (.int k)),some (.p (.lst (cV ns))),some (.p (.int p)),some (.p (.int sz))] h=some (.p (g k).enc,h):=fun k h=>by
    have e:=(hg k).2
    simp[Cs,e,b]
   have cm:=comp_map (eW (fun _ h=>some ([],h)) (ev (runN T G (m+6)) G Cs) [some (.p (.lst (cV ns))),some (.p (.int p)),some (.p (.int sz))]) (fun d=>match d with | .int k=>(g k.toNat).enc | _=>.non) (upto 0 sz) h (by
    intro d hd h
    obtain ⟨k,hk,rfl⟩:=uQ hd
    simp[eV,he])
   rw[uR] at cm
   simp only[Int.toNat_natCast,Tv]
   rw[cm]
   rfl
end
section
noncomputable def prA:S:=(.seq (.set 3 (.tup (.cons (.cst (.str "put")) (.cons (.tup (.cons (.cst (.str "name")) (.cons (.cst (.str "a")) .nil))) (.cons (.tup (.cons (.cst (.str "num")) (.cons (.call "_law_drawn" (.cons (.var 0) (.cons (.bin .add (.var 1) (.cst (.int 2))) (.cons (.cst (.int 9)) .nil)))) .nil))) .nil)))))
 (.seq (.set 4 (.idx (.lst false (.cons (.cst (.str "add")) (.cons (.cst (.str "sub")) .nil))) (.call "_law_drawn" (.cons (.var 0) (.cons (.bin .add (.var 1) (.cst (.int 3))) (.cons (.cst (.int 2)) .nil))))))
 (.seq (.set 5 (.tup (.cons (.tup (.cons (.cst (.str "ask")) (.cons (.cst (.str "a")) .nil))) (.cons (.tup (.cons (.cst (.str "call")) (.cons (.cst (.int 4)) .nil))) (.cons (.tup (.cons (.cst (.str "say")) (.cons (.tup (.cons (.cst (.str "name")) (.cons (.cst (.str "a")) .nil))) .nil))) (.cons (.tup (.cons (.cst (.str "jump")) (.cons (.cst (.int 0)) .nil))) (.cons (.var 3) .nil)))))))
 (.ret (.bin .add (.var 5) (.tup (.cons (.tup (.cons (.cst (.str "call")) (.cons (.cst (.int 7)) .nil))) (.cons (.tup (.cons (.cst (.str "back")) .nil)) (.cons (.tup (.cons (.cst (.str "set")) (.cons (.cst (.str "b")) (.cons (.tup (.cons (.var 4) (.cons (.tup (.cons (.cst (.str "name")) (.cons (.cst (.str "b")) .nil))) (.cons (.tup (.cons (.cst (.str "name")) (.cons (.cst (.str "a")) .nil))) .nil)))) .nil)))) (.cons (.tup (.cons (.cst (.str "back")) .nil)) .nil))))))))))
noncomputable def prB:S:=(.ret (.bi .tuple false (.cons (.comp false .rng1 (.cons (.var 2) .nil) ["_law_k"] [(0,"_law_script"),(1,"_law_at"),(2,"_law_size")] .nil Cs) .nil)))
theorem iO:e9=⟨["_law_script","_law_at"],["_law_script","_law_at","_law_size","_law_put","_law_sign","_law_rows"],
 (.seq (.set 2 (.bin .add (.cst (.int 1)) (.call "_law_drawn" (.cons (.var 0) (.cons (.var 1) (.cons (.cst (.int 9)) .nil))))))
 (.seq (.ife (.cmp .eq (.call "_law_drawn" (.cons (.var 0) (.cons (.bin .add (.var 1) (.cst (.int 1))) (.cons (.cst (.int 4)) .nil)))) (.cst (.int 0))) prA .nil)
 prB))⟩:=rfl
theorem uS (L:Lw T) (hP:T "_law_program"=some e9) (ns:List Int) (hl:ns.length<=1000) (p:Int) :
 ∃ pg:Pg,Drawn pg/\∀ (m:Nat) (h:HH),runN T G (m+7) "_law_program" [.p (.lst (cV ns)),.p (.int p)] h=some (.p (gI pg),h):=by
 refine pG L ns hl p (fun m h n o c en eo dr=>?_) (fun m h pg c el dr cm=>?_)
 ·rw[run_eq hP rfl]
  have d:=fun q many hm h=>dr (m+4) q many hm h
  rw[iO]
  simp[-fF,prA,d,c,eo,cW,gI,jU,Rw.enc,Sm.enc,← en,Nm.w]
 ·rw[run_eq hP rfl]
  have d:=fun q many hm h=>dr (m+4) q many hm h
  have d0:=fL ns p (many:=9) (by decide)
  have d1:=fM ns p (many:=9) (by decide)
  have c0:-100000<=1+drw ns p 9:=by lia
  have c1:1+drw ns p 9<=100000:=by lia
  have c2:pg.length<=100000:=by lia
  have cm':=cm h
  rw[iO]
  simp[-eW,prB,d,c,c0,c1,c2,cm',cW,gI,gY]
mutual
theorem jV:∀ d:D,eqv d d=true
 | .non=>rfl
 | .bl b=>by simp
 | .int i=>by simp
 | .str x=>by simp
 | .tup xs=>by simp[kh xs]
 | .lst xs=>by simp[kh xs]
theorem kh:∀ ds:List D,oh ds ds=true
 | []=>rfl
 | d :: r=>by simp[jV d,kh r]
end
theorem pH (n:Nat) (xs:List Int):(cV xs).all (dok n)=true:=by simp[cV,SA]
theorem uT (n:Nat) (xs:List Nat):(dH xs).all (dok n)=true:=by simp[dH,SA]
theorem ne_self (h:dok 100 x=true):gE .ne x x=some false:=by rw[nC,if_pos (lZ h),jV];rfl
theorem Ct (x y:Int):eqv (.int x) (.int y)=(x==y):=by simp
@[simp] theorem JQ (ds:List D):oh ds ds=true:=kh ds
@[simp] theorem KI (d:D):eqv d d=true:=jV d
@[simp] theorem qP (x:D) (xs:List Int):dX x (.tup (cV xs))=true:=lZ (pH 99 xs)
@[simp] theorem KJ (x:D) (xs:List Nat):dX x (.tup (dH xs))=true:=lZ (uT 99 xs)
@[simp] theorem MU (x:D) (xs ys:List Int):dX x (.tup [.tup (cV xs),.tup (cV ys)])=true:=lZ (by simp[pH])
end
section
variable {T:FK->Option Fn}{G:Str->Option W}
end
section
variable {T:FK->Option Fn}{G:Str->Option W}
@[simp] theorem P8 (st:St):vD st.enc (some 1) (some 3)=some (.tup [.tup (cV st.names),.tup (cV st.cells)]):=rfl
end
theorem qQ:∀ {xs ys:List Int},oh (cV xs) (cV ys)=true->xs=ys
 | [],[],_=>rfl
 | [],_ :: _,h=>by simp[cV] at h
 | _ :: _,[],h=>by simp[cV] at h
 | x :: xs,y :: ys,h=>by
  simp[cV] at h
  have:=qQ (xs:=xs) (ys:=ys) (by simpa [cV] using h.2)
  rw[h.1,this]
theorem sF (n:Nat) (st:St):dok (n+2) st.enc=true:=by
 simp[St.enc,wY,pH,uT]
theorem FL (L:List St):dok 100 (.lst (L.map St.enc))=true:=by
 rw[rC,SA]
 intro d hd
 simp at hd
 obtain ⟨st,_,rfl⟩:=hd
 exact sF 97 st
@[simp] theorem OA (x:D) (st:St):dX x st.enc=true:=lZ (sF 98 st)
@[simp] theorem MV (x:D) (L:List St):dX x (.lst (L.map St.enc))=true:=lZ (FL L)
noncomputable def itr (p:Pg) (asked:List Int):Nat->St
 | 0=>St.zero
 | n+1=>step p asked (itr p asked n)
structure Run (p:Pg) (asked:List Int) (most e:Nat):Prop where
 le:e<=most
 on:∀ i,i < e->over p (itr p asked i)=false
 last:e=most\/over p (itr p asked e)=true
theorem Cu (p:Pg) (asked:List Int):∀ (r j:Nat),∃ e,e<=r/\sts p asked r (itr p asked j)=(RV (e+1)).map (fun i=>itr p asked (j+i))/\(∀ i,i < e->over p (itr p asked (j+i))=false)/\(e=r\/over p (itr p asked (j+e))=true)
 | 0,j=>⟨0,Rr _,rfl,fun i hi=>absurd hi (Nat.not_lt_zero _),.inl rfl⟩
 | r+1,j=>by
  rw[sts]
  by_cases c:over p (itr p asked j)=true
  ·rw[if_pos c]
   exact ⟨0,Sz _,rfl,fun i hi=>absurd hi (Nat.not_lt_zero _),.inr c⟩
  ·rw[if_neg c]
   obtain ⟨e,h1,h2,h3,h4⟩:=Cu p asked r (j+1)
   have c':over p (itr p asked j)=false:=by simpa using c
   refine ⟨e+1,by lia,?_,fun i hi=>?_,?_⟩
   ·show itr p asked j :: sts p asked r (itr p asked (j+1))=_
    rw[h2,Ud (n:=e+1),RL,Tv]
    congr 1
    apply SE
    intro i _
    show itr p asked (j+1+i)=itr p asked (j+(i+1))
    congr 1;lia
   ·cases i with
    | zero=>exact c'
    | succ i =>
     have:=h3 i (by lia)
     rw[show j+(i+1)=j+1+i by lia];exact this
   ·rcases h4 with h4 | h4
    ·exact .inl (by lia)
    ·exact .inr (by rw[show j+(e+1)=j+1+e by lia];exact h4)
theorem FM (p:Pg) (asked:List Int) (most:Nat):∃ e,Run p asked most e/\sts p asked most St.zero=(RV (e+1)).map (itr p asked):=by
 obtain ⟨e,h1,h2,h3,h4⟩:=Cu p asked most 0
 refine ⟨e,⟨h1,fun i hi=>by have:=h3 i hi;simpa using this,by simpa using h4⟩,?_⟩
 have:sts p asked most St.zero=sts p asked most (itr p asked 0):=rfl
 rw[this,h2]
 apply SE
 intro i _
 simp
theorem jt (hp:Pg.ok p) (ha:Ask asked) (R:Run p asked most e):∀ i,i<=e->At i (itr p asked i)
 | 0,_=>FE
 | i+1,h=>FG hp ha (jt hp ha R i (by lia)) (R.on i (by lia))
structure Tp where
 p:Pg
 asked:List Int
 gap:Nat
 most:Nat
 kept:List St
 far:Nat
 front:St
 now:Nat
noncomputable def Tp.fs (t:Tp) (r:Nat):List (Str×W):=[("program",.p (gI t.p)),("asked",.p (.lst (cV t.asked))),("gap",.p (.int t.gap)),("most",.p (.int t.most)),("kept",.r r),("farthest",.p (.int t.far)),("front",.p t.front.enc),("now",.p (.int t.now))]
section
variable (t:Tp) (r:Nat)
@[simp] theorem JR:d7 "program" (t.fs r)=some (.p (gI t.p)):=by simp[Tp.fs]
@[simp] theorem MW:d7 "asked" (t.fs r)=some (.p (.lst (cV t.asked))):=by simp[Tp.fs]
@[simp] theorem P9:d7 "gap" (t.fs r)=some (.p (.int t.gap)):=by simp[Tp.fs]
@[simp] theorem OB:d7 "most" (t.fs r)=some (.p (.int t.most)):=by simp[Tp.fs]
@[simp] theorem FN:d7 "kept" (t.fs r)=some (.r r):=by simp[Tp.fs]
@[simp] theorem Qa:d7 "farthest" (t.fs r)=some (.p (.int t.far)):=by simp[Tp.fs]
@[simp] theorem MY:d7 "front" (t.fs r)=some (.p t.front.enc):=by simp[Tp.fs]
@[simp] theorem Qc:d7 "now" (t.fs r)=some (.p (.int t.now)):=by simp[Tp.fs]
@[simp] theorem Qd:(t.fs r).length=8:=rfl
theorem FO (v:Nat):d9 "gap" (.p (.int v)) (t.fs r)=({ t with gap:=v }:Tp).fs r:=by simp[Tp.fs]
theorem Cv (r':Nat):d9 "kept" (.r r') (t.fs r)=t.fs r':=by simp[Tp.fs]
theorem FP (v:Nat):d9 "farthest" (.p (.int v)) (t.fs r)=({ t with far:=v }:Tp).fs r:=by simp[Tp.fs]
theorem zQ (v:St):d9 "front" (.p v.enc) (t.fs r)=({ t with front:=v }:Tp).fs r:=by simp[Tp.fs]
theorem gr (h:(["program","asked","gap","most","kept","farthest","front","now"]:List String).contains m=false):d7 m (t.fs r)=none:=by
 simp only[List.contains_cons,List.contains_nil,Wr,Bool.or_eq_false_iff,beq_eq_false_iff_ne,ne_eq] at h
 obtain ⟨h1,h2,h3,h4,h5,h6,h7,h8⟩:=h
 simp[Tp.fs,h1,h2,h3,h4,h5,h6,h7,h8]
end
structure TAt (h:HH) (n r:Nat) (t:Tp):Prop where
 ob:oat h n=some (RM "Tape",t.fs r)
 li:lat h r=some (t.kept.map St.enc)
theorem pI (e:oat h n=some q):n < h.length:=by
 unfold oat at e
 rcases R0 n h.length with z | z
 ·exact z
 ·rw[RC z] at e;exact gi e
theorem wg (e:lat h n=some q):n < h.length:=by
 unfold lat at e
 rcases R0 n h.length with z | z
 ·exact z
 ·rw[RC z] at e;exact gi e
theorem GV (e:oat h n=some q) (e':lat h r=some xs):n≠r:=by
 rintro rfl
 unfold oat at e
 unfold lat at e'
 cases g:h[n]? with
 | none=>rw[g] at e;exact gi e
 | some c=>rw[g] at e e';cases c<;>simp at e e'
theorem lO {h:HH}{n:Nat} (hn:n < h.length) (c:Cl):oat (h.set n c) n=rA c:=by
 unfold oat;rw[Sg hn];rfl
theorem pJ (hn:i≠n) (c:Cl):oat (h.set n c) i=oat h i:=by
 unfold oat;rw[Se (SH hn)]
theorem Cw {h:HH}{n:Nat} (hn:n < h.length) (c:Cl):lat (h.set n c) n=pX c:=by
 unfold lat;rw[Sg hn];rfl
theorem kQ (hn:i≠n) (c:Cl):lat (h.set n c) i=lat h i:=by
 unfold lat;rw[Se (SH hn)]
theorem JS (e:h'[i]?=h[i]?):lat h' i=lat h i:=by unfold lat;rw[e]
theorem Cy (e:h'[i]?=h[i]?):oat h' i=oat h i:=by unfold oat;rw[e]
theorem FQ (hi:i < h.length):lat (h++g) i=lat h i:=JS (Rx hi)
theorem yb (hi:i < h.length):oat (h++g) i=oat h i:=Cy (Rx hi)
structure Go (n:Nat) (h:HH) (r:Nat) (t:Tp) (h':HH) (r':Nat) (t':Tp):Prop where
 a:TAt h n r t
 b:TAt h' n r' t'
 len:(h'.length=h.length/\r'=r)\/(h.length<=r')
 le:h.length<=h'.length
 fr:∀ i,i≠n->i≠r->i < h.length->h'[i]?=h[i]?
theorem Go.refl (a:TAt h n r t):Go n h r t h r t:=⟨a,a,.inl ⟨rfl,rfl⟩,Rr _,fun _ _ _ _=>rfl⟩
theorem Go.trans (x:Go n h r t h1 r1 t1) (y:Go n h1 r1 t1 h2 r2 t2):Go n h r t h2 r2 t2:=by
 refine ⟨x.a,y.b,?_,Sq x.le y.le,fun i h1 h2 h3=>?_⟩
 ·rcases x.len with ⟨a1,a2⟩ | a1
  ·rcases y.len with ⟨b1,b2⟩ | b1
   ·exact .inl ⟨b1.trans a1,b2.trans a2⟩
   ·exact .inr (by lia)
  ·rcases y.len with ⟨b1,b2⟩ | b1
   ·exact .inr (by lia)
   ·exact .inr (by have:=x.le;lia)
 ·have:i≠r1:=by
   rcases x.len with ⟨a1,a2⟩ | a1
   ·rw[a2];exact h2
   ·lia
  rw[y.fr i h1 this (by have:=x.le;lia)]
  exact x.fr i h1 h2 h3
theorem iF (x:Go n h r t h' r' t') (w:W):fin h w h'=some (w,h'):=by
 unfold fin
 by_cases c:h'.length=h.length
 ·rw[if_pos c]
 ·rw[if_neg c]
  rw[if_neg]
  intro z
  rcases x.len with ⟨a1,a2⟩ | a1
  ·exact c a1
  ·have hn:=pI x.a.ob
   have e:h'[n]?=h[n]?:=by
    have q:=T6 (l:=h') hn
    rw[z] at q
    exact q.symm
   have e2:oat h' n=oat h n:=Cy e
   rw[x.a.ob,x.b.ob] at e2
   have e3:=congrArg (fun q:Option (Str×List (Str×W))=>q.bind fun y=>d7 "kept" y.2) e2
   simp only[S7,FN,Us,W.r.injEq] at e3
   have:=wg x.a.li
   lia
noncomputable def iP:Fn:=⟨["thing"],["thing"],
 (.ret (.and (.bi .isInt false (.cons (.var 0) .nil)) (.not (.bi .isBool false (.cons (.var 0) .nil)))))⟩
noncomputable def gM:Fn:=⟨["self","program","asked","every","most"],["self","program","asked","every","most"],
 (.seq (.setf (.var 0) "program" (.var 1))
 (.seq (.setf (.var 0) "asked" (.bi .list false (.cons (.var 2) .nil)))
 (.seq (.setf (.var 0) "gap" (.bi .max2 false (.cons (.var 3) (.cons (.cst (.int 1)) .nil))))
 (.seq (.setf (.var 0) "most" (.bi .max2 false (.cons (.var 4) (.cons (.cst (.int 0)) .nil))))
 (.seq (.setf (.var 0) "kept" (.lst true (.cons (.call "begun" .nil) .nil)))
 (.seq (.setf (.var 0) "farthest" (.cst (.int 0)))
 (.seq (.setf (.var 0) "front" (.call "begun" .nil))
 (.setf (.var 0) "now" (.cst (.int 0))))))))))⟩
noncomputable def ju:Fn:=⟨["self","moment"],["self","moment","state","step"],
 (.seq (.ex (.meth (.var 0) "check" (.cons (.var 1) .nil)))
 (.seq (.set 2 (.idx (.fld (.var 0) "kept") (.bin .fdiv (.var 1) (.fld (.var 0) "gap"))))
 (.seq (.for [(3,"step")] .rng1 (.cons (.bin .mod (.var 1) (.fld (.var 0) "gap")) .nil) (.set 2 (.meth (.var 0) "behind" (.cons (.var 2) .nil))))
 (.ret (.var 2)))))⟩
noncomputable def iQ:Fn:=⟨["self"],["self"],
 (.seq (.ex (.meth (.var 0) "reach" (.cons (.fld (.var 0) "most") .nil)))
 (.ret (.fld (.var 0) "farthest")))⟩
noncomputable def fZ:Fn:=⟨["self","state"],["self","state"],
 (.ret (.call "stepped" (.cons (.fld (.var 0) "program") (.cons (.fld (.var 0) "asked") (.cons (.var 1) .nil)))))⟩
noncomputable def eH:Fn:=⟨["self","moment","state"],["self","moment","state"],
 (.ret (.or (.cmp .ge (.var 1) (.fld (.var 0) "most")) (.call "is_over" (.cons (.fld (.var 0) "program") (.cons (.var 2) .nil)))))⟩
noncomputable def f7:Fn:=⟨["self","state"],["self","state"],
 (.seq (.ex (.me .append (.fld (.var 0) "kept") (.cons (.var 1) .nil)))
 (.ife (.cmp .gt (.bi .len false (.cons (.fld (.var 0) "kept") .nil)) (.glo "MOST_MARKS")) (.seq (.setf (.var 0) "kept" (.stp true 2 (.fld (.var 0) "kept")))
 (.augf (.var 0) "gap" .mul (.cst (.int 2)))) .nil))⟩
noncomputable def gu:Fn:=⟨["self","moment"],["self","moment"],
 (.whl (.and (.cmp .lt (.fld (.var 0) "farthest") (.var 1)) (.not (.meth (.var 0) "is_last" (.cons (.fld (.var 0) "farthest") (.cons (.fld (.var 0) "front") .nil))))) (.seq (.setf (.var 0) "front" (.meth (.var 0) "behind" (.cons (.fld (.var 0) "front") .nil)))
 (.seq (.augf (.var 0) "farthest" .add (.cst (.int 1)))
 (.ife (.cmp .eq (.bin .mod (.fld (.var 0) "farthest") (.fld (.var 0) "gap")) (.cst (.int 0))) (.ex (.meth (.var 0) "keep" (.cons (.fld (.var 0) "front") .nil))) .nil))))⟩
noncomputable def iR:Fn:=⟨["self","moment"],["self","moment"],
 (.seq (.ife (.or (.not (.call "is_whole" (.cons (.var 1) .nil))) (.or (.cmp .lt (.var 1) (.cst (.int 0))) (.cmp .gt (.var 1) (.fld (.var 0) "most")))) (.ret (.cst (.bl false))) .nil)
 (.seq (.ex (.meth (.var 0) "reach" (.cons (.var 1) .nil)))
 (.ret (.cmp .le (.var 1) (.fld (.var 0) "farthest")))))⟩
noncomputable def gw:Fn:=⟨["self","moment"],["self","moment"],
 (.ife (.not (.meth (.var 0) "has" (.cons (.var 1) .nil))) .bad .nil)⟩
structure TpP (T:FK->Option Fn) (G:Str->Option W):Prop where
 prg:Prg T G
 is_whole:T "is_whole"=some iP
 init:T (.m "Tape" "__init__")=some gM
 behind:T (.m "Tape" "behind")=some fZ
 is_last:T (.m "Tape" "is_last")=some eH
 keep:T (.m "Tape" "keep")=some f7
 reach:T (.m "Tape" "reach")=some gu
 has:T (.m "Tape" "has")=some iR
 check:T (.m "Tape" "check")=some gw
 at_:T (.m "Tape" "at")=some ju
 MOST_MARKS:G "MOST_MARKS"=some (.p (.int 8))
section
theorem lP (P:TpP T G) (k:Nat) (i:Int) (h:HH):runN T G (k+1) "is_whole" [.p (.int i)] h=some (.p (.bl true),h):=by
 rw[run_eq P.is_whole rfl]
 simp[iP,cW]
theorem jv (P:TpP T G) (k:Nat) (a:TAt h n r t) (hp:Pg.ok t.p) {st:St} (hj:j<=5000) (at_:At j st) (hb:over t.p st=false):runN T G (k+7) (.m "Tape" "behind") [.o n,.p st.enc] h=some (.p (step t.p t.asked st).enc,h):=by
 rw[run_eq P.behind rfl]
 have s:=uO P.prg k t.p hp t.asked st at_.ok (at_.small hj) hb
 simp[fZ,a.ob,s,cW]
theorem gB (P:TpP T G) (k:Nat) (a:TAt h n r t) (mo:Nat) (st:St):runN T G (k+2) (.m "Tape" "is_last") [.o n,.p (.int mo),.p st.enc] h=some (.p (.bl (decide (t.most<=mo)||over t.p st)),h):=by
 rw[run_eq P.is_last rfl]
 have o:=uN P.prg k t.p st
 by_cases c:t.most<=mo
 ·have c1:(t.most:Int)<=(mo:Int):=by lia
  simp[eH,a.ob,c,c1,cW]
 ·have c1:¬ (t.most:Int)<=(mo:Int):=by lia
  simp[eH,a.ob,o,c,c1,cW]
theorem Cz:Vq (Sd none none (some 2) 9).1 (Sd none none (some 2) 9).2.1 (Sd none none (some 2) 9).2.2=[0,2,4,6,8]:=by decide +kernel
theorem JT (x0 x1 x2 x3 x4 x5 x6 x7 x8:D):ug 2 [x0,x1,x2,x3,x4,x5,x6,x7,x8]=[x0,x2,x4,x6,x8]:=by
 show (Vq (Sd none none (some 2) 9).1 (Sd none none (some 2) 9).2.1 (Sd none none (some 2) 9).2.2).filterMap _=_
 rw[Cz];rfl
noncomputable def Tp.keep (t:Tp) (st:St):Tp:=if t.kept.length < 8 then { t with kept:=t.kept++[st] } else { t with kept:=(RV 5).filterMap fun i=>(t.kept++[st])[2*i]?,gap:=2*t.gap }
theorem CA (P:TpP T G) (k:Nat) (a:TAt h n r t) (hg:t.gap<=100000) (hl:t.kept.length<=8) (st:St) :
 ∃ h' r',runN T G (k+1) (.m "Tape" "keep") [.o n,.p st.enc] h=some (.p .non,h')/\Go n h r t h' r' (t.keep st):=by
 have nr:=GV a.ob a.li
 have hn:=pI a.ob
 have hr:=wg a.li
 have e1:lat (h.set r (Cl.l (t.kept.map St.enc++[st.enc]))) r=some (t.kept.map St.enc++[st.enc]):=Cw hr _
 have e2:oat (h.set r (Cl.l (t.kept.map St.enc++[st.enc]))) n=some (RM "Tape",t.fs r):=(pJ nr _).trans a.ob
 have l0:t.kept.length < 100000:=by lia
 by_cases c:t.kept.length < 8
 ·have c1:¬ (8:Int) < (t.kept.length:Int)+1:=by lia
  have go:Go n h r t (h.set r (Cl.l (t.kept.map St.enc++[st.enc]))) r (t.keep st):=by
   refine ⟨a,⟨?_,?_⟩,.inl ⟨by simp,rfl⟩,by simp,fun i h1 h2 h3=>Se (SH h2)⟩
   ·rw[Tp.keep,if_pos c];exact e2
   ·rw[Tp.keep,if_pos c,e1];simp
  refine ⟨_,r,?_,go⟩
  rw[run_eq P.keep rfl]
  have f:=iF go (.p .non)
  simp[f7,a.ob,a.li,e1,e2,P.MOST_MARKS,rd,c1,l0,f]
 ·have c8:t.kept.length=8:=by lia
  obtain ⟨x0,x1,x2,x3,x4,x5,x6,x7,ek⟩:∃ x0 x1 x2 x3 x4 x5 x6 x7,t.kept=[x0,x1,x2,x3,x4,x5,x6,x7]:=by
   match t.kept,c8 with
   | [x0,x1,x2,x3,x4,x5,x6,x7],_=>exact ⟨x0,x1,x2,x3,x4,x5,x6,x7,rfl⟩
  have ev:ug 2 (t.kept.map St.enc++[st.enc])=((t.keep st).kept).map St.enc:=by
   rw[Tp.keep,if_neg c,ek]
   exact JT _ _ _ _ _ _ _ _ _
  have c1:(8:Int) < (t.kept.length:Int)+1:=by lia
  have e3:∀ g:HH,oat ((h.set r (Cl.l (t.kept.map St.enc++[st.enc])))++g) n=some (RM "Tape",t.fs r):=fun g=>(yb (by simpa using hn)).trans e2
  have e4:(h.set r (Cl.l (t.kept.map St.enc++[st.enc]))).length=h.length:=by simp
  have b0:big (t.gap:Int)=true:=by unfold big;exact decide_eq_true (by lia)
  have go:Go n h r t ((h.set r (Cl.l (t.kept.map St.enc++[st.enc]))++[Cl.l ((t.keep st).kept.map St.enc)]).set n (.o "Tape" ((t.keep st).fs h.length))) h.length (t.keep st):=by
   have hn2:n < (h.set r (Cl.l (t.kept.map St.enc++[st.enc]))++[Cl.l ((t.keep st).kept.map St.enc)]).length:=by simp;lia
   refine ⟨a,⟨lO hn2 _,?_⟩,.inr (Rr _),by simp,fun i h1 h2 h3=>?_⟩
   ·rw[kQ (SH (RK hn))]
    have:=P7 (h.set r (Cl.l (t.kept.map St.enc++[st.enc]))) (Cl.l ((t.keep st).kept.map St.enc)) []
    rw[e4] at this
    exact this
   ·rw[Se (SH h1),Rx (by simpa using h3),Se (SH h2)]
  refine ⟨_,_,?_,go⟩
  rw[run_eq P.keep rfl]
  have f:=iF go (.p .non)
  have k2:(t.keep st).fs h.length=({ t with gap:=2*t.gap }:Tp).fs h.length:=by
   rw[Tp.keep,if_neg c];rfl
  have pk:d9 "gap" (.p (.int ((t.gap:Int)*2))) (t.fs h.length)=(t.keep st).fs h.length:=by
   rw[k2,← FO t h.length (2*t.gap)]
   congr 3
   show (t.gap:Int)*2=((2*t.gap:Nat):Int)
   lia
  have hn2:n < (h.set r (Cl.l (t.kept.map St.enc++[st.enc]))++[Cl.l ((t.keep st).kept.map St.enc)]).length:=by simp;lia
  have e5:=lO hn2 (.o "Tape" (t.fs h.length))
  rw[HQ] at e5
  have s2:∀ x y:Cl,((h.set r (Cl.l (t.kept.map St.enc++[st.enc]))++[Cl.l ((t.keep st).kept.map St.enc)]).set n x).set n y=(h.set r (Cl.l (t.kept.map St.enc++[st.enc]))++[Cl.l ((t.keep st).kept.map St.enc)]).set n y:=fun x y=>by rw[WL]
  simp[f7,a.ob,a.li,e1,e2,e3,e4,P.MOST_MARKS,rd,c1,l0,ev,Cv,e5,b0,pk,s2,f]
end
structure TI (t:Tp) (e gv:Nat):Prop where
 run:Run t.p t.asked t.most e
 ok:Pg.ok t.p
 ask:Ask t.asked
 g0:0 < t.gap
 g1:t.gap<=1000
 m1:t.most<=1000
 far:t.far<=e
 front:t.front=itr t.p t.asked t.far
 len:t.kept.length=t.far / t.gap+1
 l8:t.kept.length<=8
 kept:∀ j,j < t.kept.length->t.kept[j]?=some (itr t.p t.asked (j*t.gap))
 now:t.now<=t.far
 pw:∃ j,t.gap=gv*2 ^ j/\(0 < j->8<=t.far / (t.gap / 2))
structure Sm8 (t t':Tp):Prop where
 p:t'.p=t.p
 asked:t'.asked=t.asked
 most:t'.most=t.most
 now:t'.now=t.now
theorem Sm8.refl (t:Tp):Sm8 t t:=⟨rfl,rfl,rfl,rfl⟩
theorem Sm8.trans (x:Sm8 t u) (y:Sm8 u v):Sm8 t v:=⟨y.p.trans x.p,y.asked.trans x.asked,y.most.trans x.most,y.now.trans x.now⟩
noncomputable def Tp.on (t:Tp):Tp:={ t with front:=step t.p t.asked t.front,far:=t.far+1 }
noncomputable def Tp.nx (t:Tp):Tp:=if (t.far+1) % t.gap=0 then t.on.keep t.on.front else t.on
theorem CB (hg:0 < g) (c:¬ (f+1) % g=0):(f+1) / g=f / g:=by
 have h1:=V5 f g
 have h2:f % g < g:=Nat.mod_lt _ hg
 have e:f+1=g*(f / g)+(f % g+1):=by lia
 have h3:f % g+1 < g:=by
  rcases R0 (f % g+1) g with z | z
  ·exact z
  ·exfalso;apply c
   have:f % g+1=g:=by lia
   rw[e,this,Nat.mul_add_mod,Nat.mod_self]
 rw[e,Nat.mul_add_div hg,Nat.div_eq_of_lt h3];lia
theorem CF (hg:0 < g) (c:(f+1) % g=0):(f+1) / g=f / g+1/\(f / g+1)*g=f+1:=by
 have h1:=V5 f g
 have h2:f % g < g:=Nat.mod_lt _ hg
 have h3:f % g+1=g:=by
  rcases R0 (f % g+1) g with z | z
  ·exfalso
   have e:f+1=g*(f / g)+(f % g+1):=by lia
   rw[e,Nat.mul_add_mod,Nat.mod_eq_of_lt z] at c
   lia
  ·lia
 have e:f+1=(f / g+1)*g:=by rw[Nat.add_mul,T8 (f / g) g];lia
 exact ⟨by rw[e,Vw _ hg],e.symm⟩
theorem TI.nx (I:TI t e gv) (h:t.far < e):TI t.nx e gv/\Sm8 t t.nx/\t.nx.far=t.far+1:=by
 have g0:=I.g0
 have hf:step t.p t.asked t.front=itr t.p t.asked (t.far+1):=by rw[I.front];rfl
 have mono:∀ g:Nat,t.far / g<=(t.far+1) / g:=fun g=>W4 (Te _)
 unfold Tp.nx
 by_cases c:(t.far+1) % t.gap=0
 ·rw[if_pos c]
  obtain ⟨d1,d2⟩:=CF g0 c
  have hfr:t.on.front=itr t.p t.asked (t.far+1):=hf
  have kp:∀ j,j < t.kept.length+1->(t.kept++[itr t.p t.asked (t.far+1)])[j]?=some (itr t.p t.asked (j*t.gap)):=fun j hj=>by
   rcases R0 j t.kept.length with z | z
   ·rw[Rx z];exact I.kept j z
   ·have ej:j=t.kept.length:=by lia
    subst ej
    rw[RZ (Rr _),Nat.sub_self]
    have:t.kept.length*t.gap=t.far+1:=by rw[I.len];exact d2
    rw[this];rfl
  unfold Tp.keep
  by_cases c2:t.kept.length < 8
  ·have c2':t.on.kept.length < 8:=c2
   rw[if_pos c2']
   refine ⟨⟨I.run,I.ok,I.ask,g0,I.g1,I.m1,h,hf,?_,?_,fun j hj=>?_,?_,?_⟩,⟨rfl,rfl,rfl,rfl⟩,rfl⟩
   ·show (t.kept++[t.on.front]).length=(t.far+1) / t.gap+1
    rw[d1,RT,I.len];rfl
   ·show (t.kept++[t.on.front]).length<=8
    rw[RT];simp;lia
   ·have hj':j < t.kept.length+1:=by
     have:(t.kept++[t.on.front]).length=t.kept.length+1:=by simp
     rw[← this];exact hj
    show (t.kept++[t.on.front])[j]?=some (itr t.p t.asked (j*t.gap))
    rw[hfr];exact kp j hj'
   ·show t.now<=t.far+1;have:=I.now;lia
   ·obtain ⟨j,h1,h2⟩:=I.pw
    exact ⟨j,h1,fun hj=>Sq (h2 hj) (mono _)⟩
  ·have c2':¬ t.on.kept.length < 8:=c2
   rw[if_neg c2']
   have l8:t.kept.length=8:=by have:=I.l8;lia
   have f8:t.far+1=8*t.gap:=by rw[← d2,← I.len,l8]
   have le:=I.run.le
   have m1:=I.m1
   have hk:∀ i,i < 5->(t.kept++[itr t.p t.asked (t.far+1)])[2*i]?=some (itr t.p t.asked (i*(2*t.gap))):=fun i hi=>by
    rw[kp (2*i) (by lia)]
    congr 2
    rw[T8 2 i,Nat.mul_assoc]
   have ek:(RV 5).filterMap (fun i=>(t.kept++[t.on.front])[2*i]?)=(RV 5).map fun i=>itr t.p t.asked (i*(2*t.gap)):=by
    rw[hfr,show RV 5=[0,1,2,3,4] from rfl]
    simp only[Sj,List.filterMap_nil,hk 0 (by decide),hk 1 (by decide),hk 2 (by decide),hk 3 (by decide),hk 4 (by decide),RL,Tu]
   have dv:(t.far+1) / (2*t.gap)=4:=by
    rw[f8,show 8*t.gap=4*(2*t.gap) by lia]
    exact Vw _ (by lia)
   refine ⟨⟨I.run,I.ok,I.ask,?_,?_,I.m1,h,hf,?_,?_,fun j hj=>?_,?_,?_⟩,⟨rfl,rfl,rfl,rfl⟩,rfl⟩
   ·show 0 < 2*t.gap;lia
   ·show 2*t.gap<=1000;lia
   ·show ((RV 5).filterMap fun i=>(t.kept++[t.on.front])[2*i]?).length=(t.far+1) / (2*t.gap)+1
    rw[ek,dv];simp
   ·show ((RV 5).filterMap fun i=>(t.kept++[t.on.front])[2*i]?).length<=8
    rw[ek];simp
   ·have hj':j < 5:=by
     have q:j < ((RV 5).filterMap fun i=>(t.kept++[t.on.front])[2*i]?).length:=hj
     rw[ek] at q;simpa using q
    show ((RV 5).filterMap fun i=>(t.kept++[t.on.front])[2*i]?)[j]?=some (itr t.p t.asked (j*(2*t.gap)))
    rw[ek,RY,T3 hj'];rfl
   ·show t.now<=t.far+1;have:=I.now;lia
   ·obtain ⟨j,h1,h2⟩:=I.pw
    refine ⟨j+1,?_,fun _=>?_⟩
    ·show 2*t.gap=gv*2 ^ (j+1)
     rw[h1,Nat.pow_succ];rw[T8 2,Nat.mul_assoc]
    ·show 8<=(t.far+1) / (2*t.gap / 2)
     rw[Nat.mul_div_cancel_left _ (by lia:0 < 2),f8,Vw _ g0]
     exact Rr _
 ·rw[if_neg c]
  refine ⟨⟨I.run,I.ok,I.ask,g0,I.g1,I.m1,h,hf,?_,I.l8,I.kept,?_,?_⟩,⟨rfl,rfl,rfl,rfl⟩,rfl⟩
  ·show t.kept.length=(t.far+1) / t.gap+1
   rw[I.len,CB g0 c]
  ·show t.now<=t.far+1;have:=I.now;lia
  ·obtain ⟨j,h1,h2⟩:=I.pw
   exact ⟨j,h1,fun hj=>Sq (h2 hj) (mono _)⟩
section
noncomputable def rcC:E:=(.and (.cmp .lt (.fld (.var 0) "farthest") (.var 1)) (.not (.meth (.var 0) "is_last" (.cons (.fld (.var 0) "farthest") (.cons (.fld (.var 0) "front") .nil)))))
noncomputable def rcB:S:=(.seq (.setf (.var 0) "front" (.meth (.var 0) "behind" (.cons (.fld (.var 0) "front") .nil)))
 (.seq (.augf (.var 0) "farthest" .add (.cst (.int 1)))
 (.ife (.cmp .eq (.bin .mod (.fld (.var 0) "farthest") (.fld (.var 0) "gap")) (.cst (.int 0))) (.ex (.meth (.var 0) "keep" (.cons (.fld (.var 0) "front") .nil))) .nil)))
theorem gR (t:Tp) (r:Nat):d7 "is_last" (t.fs r)=none:=gr t r rfl
theorem lQ (t:Tp) (r:Nat):d7 "behind" (t.fs r)=none:=gr t r rfl
theorem JU (t:Tp) (r:Nat):d7 "keep" (t.fs r)=none:=gr t r rfl
theorem yc (t:Tp) (r:Nat):d7 "reach" (t.fs r)=none:=gr t r rfl
theorem MZ (t:Tp) (r:Nat):d7 "has" (t.fs r)=none:=gr t r rfl
theorem FU (t:Tp) (r:Nat):d7 "check" (t.fs r)=none:=gr t r rfl
theorem zR (t:Tp) (r:Nat):d7 "at" (t.fs r)=none:=gr t r rfl
theorem M0 (t:Tp) (r:Nat):d7 "end" (t.fs r)=none:=gr t r rfl
theorem M1 (a:TAt h n r t) (t':Tp) (k:t'.kept=t.kept):Go n h r t (h.set n (.o "Tape" (t'.fs r))) r t':=by
 have hn:=pI a.ob
 have nr:=GV a.ob a.li
 exact ⟨a,⟨lO hn _,by rw[kQ (SH nr),k];exact a.li⟩,.inl ⟨by simp,rfl⟩,by simp,fun i h1 _ _=>Se (SH h1)⟩
theorem FW (P:TpP T G) (k:Nat) (a:TAt h n r t) (I:TI t e gv) (hl:t.far < e) (w:W) :
 ∃ h' r',evS (runN T G (k+7)) G rcB [some (.o n),some w] h=some (.nx [some (.o n),some w] h')/\Go n h r t h' r' t.nx:=by
 have hn:=pI a.ob
 have atf:=jt I.ok I.ask I.run t.far (by lia)
 have le:=I.run.le
 have m1:=I.m1
 have bh:=jv P k a I.ok (j:=t.far) (st:=t.front) (by lia) (by rw[I.front];exact atf) (by rw[I.front];exact I.run.on _ hl)
 have go1:=M1 a t.on rfl
 have e1:oat (h.set n (.o "Tape" (({ t with front:=step t.p t.asked t.front }:Tp).fs r))) n=some (RM "Tape",({ t with front:=step t.p t.asked t.front }:Tp).fs r):=lO hn _
 have pf:=zQ t r (step t.p t.asked t.front)
 have pa:d9 "farthest" (.p (.int ((t.far:Int)+1))) (({ t with front:=step t.p t.asked t.front }:Tp).fs r)=t.on.fs r:=FP ({ t with front:=step t.p t.asked t.front }:Tp) r (t.far+1)
 have e2:oat (h.set n (.o "Tape" (t.on.fs r))) n=some (RM "Tape",t.on.fs r):=lO hn _
 have g0:(0:Int) < (t.gap:Int):=by have:=I.g0;lia
 have s2:∀ x y:Cl,(h.set n x).set n y=h.set n y:=fun x y=>by rw[WL]
 have of:t.on.far=t.far+1:=rfl
 have og:t.on.gap=t.gap:=rfl
 have pre:evS (runN T G (k+7)) G rcB [some (.o n),some w] h=evS (runN T G (k+7)) G (.ife (.cmp .eq (.bin .mod (.fld (.var 0) "farthest") (.fld (.var 0) "gap")) (.cst (.int 0))) (.ex (.meth (.var 0) "keep" (.cons (.fld (.var 0) "front") .nil))) .nil) [some (.o n),some w] (h.set n (.o "Tape" (t.on.fs r))):=by
  rw[rcB]
  simp[a.ob,bh,lQ,pf,e1,pa,s2]
 rw[pre]
 unfold Tp.nx
 have cm:(((t.far+1) % t.gap:Nat):Int)=((t.far:Int)+1) % (t.gap:Int):=by simp
 by_cases c:(t.far+1) % t.gap=0
 ·rw[if_pos c]
  have c1:((t.far:Int)+1) % (t.gap:Int)=0:=by lia
  obtain ⟨h2,r2,k1,k2⟩:=CA P (k+6) go1.b (by show t.gap<=100000;have:=I.g1;lia) (by show t.kept.length<=8;exact I.l8) t.on.front
  refine ⟨h2,r2,?_,go1.trans k2⟩
  simp[e2,of,og,g0,I.g0,c1,JU,k1]
 ·rw[if_neg c]
  have c1:¬ ((t.far:Int)+1) % (t.gap:Int)=0:=by lia
  refine ⟨_,r,?_,go1⟩
  have c2:(((t.far:Int)+1) % (t.gap:Int)==0)=false:=by simpa using c1
  simp[e2,of,og,g0,I.g0,c2]
theorem sG (P:TpP T G) (k:Nat) (a:TAt h n r t) (I:TI t e gv) (m:Nat) :
 BT.ev (runN T G (k+7)) G rcC [some (.o n),some (.p (.int m))] h=some (.p (.bl (decide (t.far < min m e))),h):=by
 have il:=gB P (k+5) a t.far t.front
 have le:=I.run.le
 by_cases c:t.far < m
 ·have c1:(t.far:Int) < (m:Int):=by lia
  by_cases c2:t.far < e
  ·have o:over t.p t.front=false:=by rw[I.front];exact I.run.on _ c2
   have q:(decide (t.most<=t.far)||over t.p t.front)=false:=by
    rw[o,Wr];exact decide_eq_false (by lia)
   rw[q] at il
   have d:decide (t.far < min m e)=true:=decide_eq_true (by lia)
   rw[d]
   simp[rcC,a.ob,c1,c,gR,il]
  ·have fe:t.far=e:=by have:=I.far;lia
   have q:(decide (t.most<=t.far)||over t.p t.front)=true:=by
    rcases I.run.last with z | z
    ·rw[decide_eq_true (by lia)];rfl
    ·rw[I.front,fe,z,Bool.or_true]
   rw[q] at il
   have d:decide (t.far < min m e)=false:=decide_eq_false (by lia)
   rw[d]
   simp[rcC,a.ob,c1,c,gR,il]
 ·have c1:¬ (t.far:Int) < (m:Int):=by lia
  have d:decide (t.far < min m e)=false:=decide_eq_false (by lia)
  rw[d]
  simp[rcC,a.ob,c1,c]
theorem FY (P:TpP T G) (k:Nat) (n:Nat) (e gv m:Nat):∀ (d f:Nat) (h:HH) (r:Nat) (t:Tp),TAt h n r t->TI t e gv->min m e - t.far<=d->d<=f →
 ∃ h' r' t',eX (BT.ev (runN T G (k+7)) G rcC) (evS (runN T G (k+7)) G rcB) (f+1) [some (.o n),some (.p (.int m))] h=some (.nx [some (.o n),some (.p (.int m))] h')/\Go n h r t h' r' t'/\TI t' e gv/\Sm8 t t'/\t'.far=max t.far (min m e):=by
 intro d
 induction d with
 | zero =>
  intro f h r t a I hd hf
  have q:=sG P k a I m
  rw[decide_eq_false (by lia)] at q
  refine ⟨h,r,t,?_,.refl a,I,.refl t,by lia⟩
  rw[eX,q,iU,mw]
 | succ d ih =>
  intro f h r t a I hd hf
  by_cases c:t.far < min m e
  ·have q:=sG P k a I m
   rw[decide_eq_true c] at q
   obtain ⟨h1,r1,b1,g1⟩:=FW P k a I (by lia) (.p (.int m))
   obtain ⟨I1,s1,f1⟩:=I.nx (by lia)
   cases f with
   | zero=>lia
   | succ f =>
    obtain ⟨h2,r2,t2,b2,g2,I2,s2,f2⟩:=ih f h1 r1 t.nx g1.b I1 (by lia) (by lia)
    refine ⟨h2,r2,t2,?_,g1.trans g2,I2,s1.trans s2,by lia⟩
    rw[eX,q,iU,mq,b1,eY,b2]
  ·have q:=sG P k a I m
   rw[decide_eq_false c] at q
   refine ⟨h,r,t,?_,.refl a,I,.refl t,by lia⟩
   rw[eX,q,iU,mw]
theorem uU:gu=⟨["self","moment"],["self","moment"],.whl rcC rcB⟩:=rfl
inductive M4 (x:Option (W×HH)) (c:Option Nat->D) (F:Option Nat->Prop) (n:Nat) (h:HH) (r:Nat) (t:Tp) (e gv:Nat):Prop where
 | mk (o:Option Nat) (h':HH) (r':Nat) (t':Tp) (q:x=some (.p (c o),h')) (f:F o) (g:Go n h r t h' r' t') (i:TI t' e gv) (m:Sm8 t t'):M4 x c F n h r t e gv
inductive M5 {α:Type} (x:Option (α×HH)) (y:α) (n:Nat) (h:HH) (r:Nat) (t:Tp) (e gv:Nat):Prop where
 | mk (h':HH) (r':Nat) (t':Tp) (q:x=some (y,h')) (g:Go n h r t h' r' t') (i:TI t' e gv) (m:Sm8 t t'):M5 x y n h r t e gv
inductive zS {α:Type} (x:Option (α×HH)) (y:α) (n:Nat) (h:HH) (r:Nat) (t:Tp) (e gv f:Nat):Prop where
 | mk (h':HH) (r':Nat) (t':Tp) (q:x=some (y,h')) (g:Go n h r t h' r' t') (i:TI t' e gv) (m:Sm8 t t') (a:t'.far=f):zS x y n h r t e gv f
theorem qR (P:TpP T G) (k:Nat) (a:TAt h n r t) (I:TI t e gv) (m:Nat) :
 zS (runN T G (k+8) (.m "Tape" "reach") [.o n,.p (.int m)] h) (.p .non) n h r t e gv (max t.far (min m e)):=by
 have le:=I.run.le
 have m1:=I.m1
 obtain ⟨h',r',t',b,g,I',s,f⟩:=FY P k n e gv m 99999 99999 h r t a I (by lia) (Rr _)
 refine ⟨h',r',t',?_,g,I',s,f⟩
 rw[run_eq P.reach rfl,uU]
 have fn:=iF g (.p .non)
 simp[turns,b,fn]
theorem FZ (P:TpP T G) (k:Nat) (a:TAt h n r t) (I:TI t e gv) (m:Nat) (hm:m<=t.most) :
 zS (runN T G (k+9) (.m "Tape" "has") [.o n,.p (.int m)] h) (.p (.bl (decide (m<=e)))) n h r t e gv (max t.far (min m e)):=by
 obtain ⟨h',r',t',b,g,I',s,f⟩:=qR P k a I m
 refine ⟨h',r',t',?_,g,I',s,f⟩
 rw[run_eq P.has rfl]
 have w:=lP P (k+7) m
 have c1:¬ ((m:Int) < 0):=by lia
 have c2:¬ ((t.most:Int) < (m:Int)):=by lia
 have fn:=fun w=>iF g w
 have far:=I.far
 have d:decide ((m:Int)<=(t'.far:Int))=decide (m<=e):=by
  by_cases c:m<=e
  ·rw[decide_eq_true c];exact decide_eq_true (by lia)
  ·rw[decide_eq_false c];exact decide_eq_false (by lia)
 simp[iR,w,c1,a.ob,c2,yc,b,g.b.ob,fn]
 simpa using d
theorem zT (P:TpP T G) (k:Nat) (a:TAt h n r t) (I:TI t e gv) (m:Nat) (hm:m<=e) :
 zS (runN T G (k+10) (.m "Tape" "check") [.o n,.p (.int m)] h) (.p .non) n h r t e gv (max t.far m):=by
 obtain ⟨h',r',t',b,g,I',s,f⟩:=FZ P k a I m (Sq hm I.run.le)
 rw[decide_eq_true hm] at b
 refine ⟨h',r',t',?_,g,I',s,by lia⟩
 rw[run_eq P.check rfl]
 have fn:=iF g (.p .non)
 simp[gw,a.ob,MZ,b,fn]
noncomputable def atB:S:=(.set 2 (.meth (.var 0) "behind" (.cons (.var 2) .nil)))
theorem yd (P:TpP T G) (k:Nat) (a:TAt h n r t) (I:TI t e gv) (w1:W):∀ (q j:Nat) (x:Option W) (lo:Int),j+q<=e →
 ∃ x',dJ (evS (runN T G (k+7)) G atB) [(3,"step")] (upto lo q) [some (.o n),some w1,some (.p (itr t.p t.asked j).enc),x] h=some (.nx [some (.o n),some w1,some (.p (itr t.p t.asked (j+q)).enc),x'] h)
 | 0,j,x,lo,_=>⟨x,rfl⟩
 | q+1,j,x,lo,hj=>by
  have le:=I.run.le
  have m1:=I.m1
  obtain ⟨x',b⟩:=yd P k a I w1 q (j+1) (some (.p (.int lo))) (lo+1) (by lia)
  refine ⟨x',?_⟩
  have bh:=jv P k a I.ok (j:=j) (st:=itr t.p t.asked j) (by lia) (jt I.ok I.ask I.run j (by lia)) (I.run.on j (by lia))
  have up:upto lo (q+1)=.int lo :: upto (lo+1) q:=by
   unfold upto
   rw[Ud,RL,Tv]
   simp only[VQ,Int.add_zero,Ul,true_and]
   apply SE
   intro i _
   simp;lia
  rw[up]
  have s1:step t.p t.asked (itr t.p t.asked j)=itr t.p t.asked (j+1):=rfl
  rw[s1] at bh
  have ej:j+1+q=j+(q+1):=by lia
  rw[ej] at b
  have hb:evS (runN T G (k+7)) G atB [some (.o n),some w1,some (.p (itr t.p t.asked j).enc),some (.p (.int lo))] h=some (.nx [some (.o n),some w1,some (.p (itr t.p t.asked (j+1)).enc),some (.p (.int lo))] h):=by
   simp[atB,a.ob,lQ,bh]
  simp[hb,b]
theorem CG:ju=⟨["self","moment"],["self","moment","state","step"],(.seq (.ex (.meth (.var 0) "check" (.cons (.var 1) .nil)))
 (.seq (.set 2 (.idx (.fld (.var 0) "kept") (.bin .fdiv (.var 1) (.fld (.var 0) "gap"))))
 (.seq (.for [(3,"step")] .rng1 (.cons (.bin .mod (.var 1) (.fld (.var 0) "gap")) .nil) atB)
 (.ret (.var 2)))))⟩:=rfl
theorem kR (P:TpP T G) (k:Nat) (a:TAt h n r t) (I:TI t e gv) (m:Nat) (hm:m<=e) :
 zS (runN T G (k+11) (.m "Tape" "at") [.o n,.p (.int m)] h) (.p (itr t.p t.asked m).enc) n h r t e gv (max t.far m):=by
 obtain ⟨h',r',t',b,g,I',s,f⟩:=zT P k a I m hm
 refine ⟨h',r',t',?_,g,I',s,f⟩
 rw[run_eq P.at_ rfl,CG]
 have fn:=fun w=>iF g w
 have g0:=I'.g0
 have g1:=I'.g1
 have dm:=V5 m t'.gap
 have md:=Nat.mod_lt m g0
 have hq:m / t'.gap < t'.kept.length:=by
  rw[I'.len]
  have:m / t'.gap<=t'.far / t'.gap:=W4 (by lia)
  lia
 have hk:=I'.kept _ hq
 have le:=I'.run.le
 have m1:=I'.m1
 rw[s.p,s.asked] at hk
 have gz:(0:Int) < (t'.gap:Int):=by lia
 have gm:(t'.gap:Int) < 1073741824:=by lia
 have e1:(m:Int) / (t'.gap:Int)=((m / t'.gap:Nat):Int):=by simp
 have e2:(m:Int) % (t'.gap:Int)=((m % t'.gap:Nat):Int):=by simp
 have ix:dF (.lst (t'.kept.map St.enc)) (.int ((m / t'.gap:Nat):Int))=some (itr t.p t.asked (m / t'.gap*t'.gap)).enc:=by
  show atP _ _=_
  rw[lN,RY,hk];rfl
 obtain ⟨x',lp⟩:=yd P (k+3) g.b I' (.p (.int m)) (m % t'.gap) (m / t'.gap*t'.gap) none 0 (by rw[T8];lia)
 rw[s.p,s.asked] at lp
 have em:m / t'.gap*t'.gap+m % t'.gap=m:=by rw[T8];exact dm
 rw[em] at lp
 have rg:gC .rng1 [.int ((m % t'.gap:Nat):Int)]=some (upto 0 (m % t'.gap)):=by
  rw[j5]
  have c:((-100000<=(((m % t'.gap:Nat):Int)):Bool)&&(((m % t'.gap:Nat):Int)<=100000:Bool))=true:=by
   simp only[Rn,decide_eq_true_eq];lia
  rw[if_pos c];rfl
 simp[-fF,-j5,-Int.natCast_ediv,-Int.natCast_emod,a.ob,FU,b,g.b.ob,g.b.li,rd,gz,g0,gm,e1,e2,ix,rg,gY,lp,fn]
end
section
theorem CH (i:Nat) (hi:i < h.length) (ne:h'[i]?≠h[i]?) (w:W):fin h w h'=some (w,h'):=by
 unfold fin
 by_cases c:h'.length=h.length
 ·rw[if_pos c]
 ·rw[if_neg c,if_neg]
  intro z
  apply ne
  have q:=T6 (l:=h') hi
  rw[z] at q
  exact q.symm
noncomputable def Tp.new (p:Pg) (asked:List Int) (ev most:Nat):Tp:=⟨p,asked,ev,most,[St.zero],0,St.zero,0⟩
theorem CJ (P:TpP T G) (k:Nat) (p:Pg) (asked:List Int) (ev most:Nat) (hv:1<=ev) (h:HH) :
 runN T G (k+2) (.m "Tape" "__init__") [.o h.length,.p (gI p),.p (.lst (cV asked)),.p (.int ev),.p (.int most)] (h++[.o "Tape" []])=some (.p .non,h++[.o "Tape" ((Tp.new p asked ev most).fs (h.length+1)),.l [St.zero.enc]]):=by
 rw[run_eq P.init rfl]
 have b:=zL P.prg k
 have c0:(if (1:Int) > (ev:Int) then (1:Int) else (ev:Int))=(ev:Int):=if_neg (by lia)
 have c1:(if (0:Int) > (most:Int) then (0:Int) else (most:Int))=(most:Int):=if_neg (by lia)
 have f:∀ (c:Cl) (g:HH) (w:W),c≠.o "Tape" []->fin (h++[.o "Tape" []]) w (h++c :: g)=some (w,h++c :: g):=fun c g w hc=>by
  refine CH h.length (by simp) ?_ w
  simp
  exact hc
 have f2:=f (.o "Tape" ((Tp.new p asked ev most).fs (h.length+1))) [.l [St.zero.enc]] (.p .non) (by simp[Tp.fs])
 have fs:(Tp.new p asked ev most).fs (h.length+1)=([("program",.p (gI p)),("asked",.p (.lst (cV asked))),("gap",.p (.int ev)),("most",.p (.int most)),("kept",.r (h.length+1)),("farthest",.p (.int 0)),("front",.p St.zero.enc),("now",.p (.int 0))]:List (Str×W)):=by simp[Tp.fs,Tp.new]
 rw[fs] at f2 ⊢
 rw[gM]
 simp only[iV,RL,Tu,RO,Tw]
 simp[c0,c1,b,f2]
theorem JV {ev:Nat} (hp:Pg.ok p) (ha:Ask asked) (R:Run p asked most e) (h1:1<=ev) (h2:ev<=1000) (h3:most<=1000):TI (Tp.new p asked ev most) e ev :=
 ⟨R,hp,ha,h1,h2,h3,Sz _,rfl,by simp[Tp.new],by simp[Tp.new],fun j hj=>by
  have:j=0:=by simpa [Tp.new] using hj
  subst this
  simp[Tp.new,itr],Sz _,⟨0,by simp[Tp.new],fun z=>absurd z (SS _)⟩⟩
theorem JW (h:HH) (p:Pg) (asked:List Int) (ev most:Nat):TAt (h++[.o "Tape" ((Tp.new p asked ev most).fs (h.length+1)),.l [St.zero.enc]]) h.length (h.length+1) (Tp.new p asked ev most) :=
 ⟨by simp,by simp[Tp.new]⟩
theorem TAt.app (a:TAt h n r t):TAt (h++g) n r t:=⟨(yb (pI a.ob)).trans a.ob,(FQ (wg a.li)).trans a.li⟩
end
noncomputable def ffC:E:=(.not (.callv 2 (.cons (.var 3) .nil)))
noncomputable def ffB:S:=(.seq (.ife (.meth (.var 0) "is_last" (.cons (.var 1) (.cons (.var 3) .nil))) (.ret (.cst .non)) .nil)
 (.seq (.set 3 (.meth (.var 0) "behind" (.cons (.var 3) .nil)))
 (.aug 1 .add (.cst (.int 1)))))
noncomputable def eg:Fn:=⟨["self","moment","test"],["self","moment","test","state"],
 (.seq (.set 3 (.meth (.var 0) "at" (.cons (.var 1) .nil)))
 (.seq (.whl ffC ffB)
 (.ret (.var 1))))⟩
noncomputable def ltC:E:=(.and (.cmp .isN (.var 3) (.cst .non)) (.cmp .ge (.var 1) (.cst (.int 0))))
structure TpF (T:FK->Option Fn):Prop where
 first:T (.m "Tape" "first_from")=some eg
noncomputable def JX:Option Nat->D
 | none=>.non
 | some j=>.int j
@[simp] theorem Qe:JX none=.non:=rfl
@[simp] theorem Qf (j:Nat):JX (some j)=.int j:=rfl
structure FF (g:Nat->Bool) (m e:Nat) (o:Option Nat):Prop where
 yes:∀ j,o=some j->m<=j/\j<=e/\g j=true/\∀ i,m<=i->i < j->g i=false
 no:o=none->∀ i,m<=i->i<=e->g i=false
section
noncomputable def Tst (T:FK->Option Fn) (G:Str->Option W) (n:Nat) (t:Tp) (q:FK) (cs:List Cp) (g:Nat->Bool) (e:Nat):Prop :=
 ∀ k h r t',TAt h n r t'->Sm8 t t'->∀ i,i<=e->runN T G (k+10) q (.p (itr t.p t.asked i).enc :: cs.map Cp.w) h=some (.p (.bl (g i)),h)
theorem F0 (t:Tp) (r:Nat):d7 "first_from" (t.fs r)=none:=gr t r rfl
theorem sH (R:Run p asked most e) (h:m<=e):(decide (most<=m)||over p (itr p asked m))=decide (m=e):=by
 have le:=R.le
 by_cases c:m=e
 ·rw[decide_eq_true c]
  rcases R.last with z | z
  ·rw[decide_eq_true (by lia)];rfl
  ·rw[c,z,Bool.or_true]
 ·rw[decide_eq_false c,R.on m (by lia),decide_eq_false (by lia)];rfl
theorem F2 (P:TpP T G) (k:Nat) (a:TAt h n r t) (I:TI t e gv) (s0:Sm8 t0 t) (tt:Tst T G n t0 q cs g e):∀ (d f m:Nat),e - m=d->d < f->m<=e →
 ∃ o,FF g m e o/\(∀ j,o=some j->eX (BT.ev (runN T G (k+10)) G ffC) (evS (runN T G (k+10)) G ffB) f [some (.o n),some (.p (.int m)),some (.c q cs),some (.p (itr t.p t.asked m).enc)] h=some (.nx [some (.o n),some (.p (.int j)),some (.c q cs),some (.p (itr t.p t.asked j).enc)] h)) ∧
  (o=none->eX (BT.ev (runN T G (k+10)) G ffC) (evS (runN T G (k+10)) G ffB) f [some (.o n),some (.p (.int m)),some (.c q cs),some (.p (itr t.p t.asked m).enc)] h=some (.rt (.p .non) h)):=by
 intro d
 induction d with
 | zero =>
  intro f m hd hf hm
  have em:m=e:=by lia
  cases f with
  | zero=>lia
  | succ f =>
   have t1:=tt k h r t a s0 m hm
   rw[← s0.p,← s0.asked] at t1
   have ts:BT.ev (runN T G (k+10)) G ffC [some (.o n),some (.p (.int m)),some (.c q cs),some (.p (itr t.p t.asked m).enc)] h=some (.p (.bl (!g m)),h):=by
    simp[ffC,t1]
   cases gm:g m with
   | true =>
    rw[gm] at ts
    refine ⟨some m,⟨fun j e1=>by cases e1;exact ⟨Rr _,hm,gm,fun i h1 h2=>by lia⟩,fun z=>by cases z⟩,fun j e1=>?_,fun z=>by cases z⟩
    cases e1
    rw[eX,ts,Vu,iU,mw]
   | false =>
    rw[gm] at ts
    refine ⟨none,⟨fun j e1=>(by exact gi e1),fun _ i h1 h2=>by rw[show i=m by lia];exact gm⟩,fun j e1=>(by exact gi e1),fun _=>?_⟩
    have il:=gB P (k+8) a m (itr t.p t.asked m)
    rw[sH I.run hm,decide_eq_true em] at il
    have bd:evS (runN T G (k+10)) G ffB [some (.o n),some (.p (.int m)),some (.c q cs),some (.p (itr t.p t.asked m).enc)] h=some (.rt (.p .non) h):=by
     simp[ffB,a.ob,gR,il]
    rw[eX,ts,Wg,iU,mq,bd,AN]
 | succ d ih =>
  intro f m hd hf hm
  cases f with
  | zero=>lia
  | succ f =>
   have t1:=tt k h r t a s0 m hm
   rw[← s0.p,← s0.asked] at t1
   have ts:BT.ev (runN T G (k+10)) G ffC [some (.o n),some (.p (.int m)),some (.c q cs),some (.p (itr t.p t.asked m).enc)] h=some (.p (.bl (!g m)),h):=by
    simp[ffC,t1]
   cases gm:g m with
   | true =>
    rw[gm] at ts
    refine ⟨some m,⟨fun j e1=>by cases e1;exact ⟨Rr _,hm,gm,fun i h1 h2=>by lia⟩,fun z=>by cases z⟩,fun j e1=>?_,fun z=>by cases z⟩
    cases e1
    rw[eX,ts,Vu,iU,mw]
   | false =>
    rw[gm] at ts
    obtain ⟨o,F,y,nn⟩:=ih f (m+1) (by lia) (by lia) (by lia)
    have il:=gB P (k+8) a m (itr t.p t.asked m)
    rw[sH I.run hm,decide_eq_false (by lia)] at il
    have le:=I.run.le
    have m1:=I.m1
    have bh:=jv P (k+3) a I.ok (j:=m) (st:=itr t.p t.asked m) (by lia) (jt I.ok I.ask I.run m hm) (I.run.on m (by lia))
    have s1:step t.p t.asked (itr t.p t.asked m)=itr t.p t.asked (m+1):=rfl
    rw[s1] at bh
    have em:(m:Int)+1=((m+1:Nat):Int):=by lia
    have bd:evS (runN T G (k+10)) G ffB [some (.o n),some (.p (.int m)),some (.c q cs),some (.p (itr t.p t.asked m).enc)] h=some (.nx [some (.o n),some (.p (.int ((m+1:Nat):Int))),some (.c q cs),some (.p (itr t.p t.asked (m+1)).enc)] h):=by
     simp[ffB,a.ob,gR,il,lQ,bh]
    have wl:∀ z,eX (BT.ev (runN T G (k+10)) G ffC) (evS (runN T G (k+10)) G ffB) f [some (.o n),some (.p (.int ((m+1:Nat):Int))),some (.c q cs),some (.p (itr t.p t.asked (m+1)).enc)] h=z->eX (BT.ev (runN T G (k+10)) G ffC) (evS (runN T G (k+10)) G ffB) (f+1) [some (.o n),some (.p (.int m)),some (.c q cs),some (.p (itr t.p t.asked m).enc)] h=z:=fun z e1=>by
     rw[eX,ts,Wg,iU,mq,bd,eY,e1]
    refine ⟨o,⟨fun j e1=>?_,fun z i h1 h2=>?_⟩,fun j e1=>wl _ (y j e1),fun z=>wl _ (nn z)⟩
    ·obtain ⟨q1,q2,q3,q4⟩:=F.yes j e1
     refine ⟨by lia,q2,q3,fun i h1 h2=>?_⟩
     by_cases c:i=m
     ·rw[c];exact gm
     ·exact q4 i (by lia) h2
    ·by_cases c:i=m
     ·rw[c];exact gm
     ·exact F.no z i (by lia) h2
theorem zU (P:TpP T G) (L:TpF T) (k:Nat) (a:TAt h n r t) (I:TI t e gv) (tt:Tst T G n t q cs g e) (m:Nat) (hm:m<=e) :
 M4 (runN T G (k+12) (.m "Tape" "first_from") [.o n,.p (.int m),.c q cs] h) JX (FF g m e) n h r t e gv:=by
 obtain ⟨h',r',t',b,g1,I',s,f⟩:=kR P k a I m hm
 have le:=I.run.le
 have m1:=I.m1
 obtain ⟨o,F,y,nn⟩:=F2 P (k+1) g1.b I' s tt (e - m) 100000 m rfl (by lia) hm
 refine ⟨o,h',r',t',?_,F,g1,I',s⟩
 rw[s.p,s.asked] at y nn
 rw[run_eq L.first rfl,eg]
 have fn:=fun w=>iF g1 w
 cases o with
 | none =>
  have w1:=nn rfl
  simp[a.ob,zR,b,turns,w1,fn]
 | some j =>
  have w1:=y j rfl
  simp[a.ob,zR,b,turns,w1,fn]
theorem pK (lo:Int) (q:Nat):upto lo (q+1)=.int lo :: upto (lo+1) q:=by
 unfold upto
 rw[Ud,RL,Tv]
 simp only[VQ,Int.add_zero,Ul,true_and]
 apply SE
 intro i _
 simp;lia
structure TpE (T:FK->Option Fn):Prop where
 end_:T (.m "Tape" "end")=some iQ
theorem CK (P:TpP T G) (M:TpE T) (k:Nat) (a:TAt h n r t) (I:TI t e gv) :
 zS (runN T G (k+9) (.m "Tape" "end") [.o n] h) (.p (.int e)) n h r t e gv e:=by
 obtain ⟨h',r',t',b,g,I',s,f⟩:=qR P k a I t.most
 have le:=I.run.le
 have fr:=I.far
 have fe:t'.far=e:=by lia
 refine ⟨h',r',t',?_,g,I',s,fe⟩
 rw[run_eq M.end_ rfl]
 have fn:=fun w=>iF g w
 simp[iQ,a.ob,yc,b,g.b.ob,fe,fn]
end
noncomputable def jw:Fn:=⟨["thing"],["thing"],
 (.ret (.and (.call "is_whole" (.cons (.var 0) .nil)) (.chain .le .lt (.cst (.int 0)) (.var 0) (.glo "CELL_COUNT"))))⟩
noncomputable def ff:Fn:=⟨["thing"],["thing"],
 (.ife (.and (.not (.call "is_name" (.cons (.var 0) .nil))) (.not (.call "is_cell" (.cons (.var 0) .nil)))) .bad .nil)⟩
structure ThP (T:FK->Option Fn):Prop where
 is_cell:T "is_cell"=some jw
 check:T "check_thing"=some ff
inductive Th where
 | nm (x:Nm) | cl (i:Nat) (h:i < 4)
noncomputable def Th.enc:Th->D
 | .nm x=>.str x.w
 | .cl i _=>.int i
noncomputable def Th.val (st:St):Th->Int
 | .nm x=>st.names.getD x.ix 0
 | .cl i _=>st.cells.getD i 0
theorem Nm.M6 {x y:Nm} (h:RM x.w=RM y.w):x=y:=by
 cases x<;>cases y<;>first | rfl | (simp[Nm.w] at h)
section
theorem iY (P:Prg T G) (k:Nat) (i:Int) (h:HH):runN T G (k+1) "is_name" [.p (.int i)] h=some (.p (.bl false),h):=by
 rw[run_eq P.is_name rfl]
 simp[iz,P.LETTERS,cW]
theorem uV (P:TpP T G) (C:ThP T) (k:Nat) {i:Nat} (hi:i < 4) (h:HH):runN T G (k+2) "is_cell" [.p (.int i)] h=some (.p (.bl true),h):=by
 rw[run_eq C.is_cell rfl]
 have w:=lP P k i h
 have c:(i:Int) < 4:=by lia
 have c0:(0:Int)<=(i:Int):=by lia
 simp[jw,w,P.prg.CELL_COUNT,c,c0,cW]
theorem nv (P:TpP T G) (C:ThP T) (k:Nat) (th:Th) (h:HH):runN T G (k+3) "check_thing" [.p th.enc] h=some (.p .non,h):=by
 rw[run_eq C.check rfl]
 cases th with
 | nm x =>
  have n:=jS P.prg (k+1) x h
  simp[ff,Th.enc,n,cW]
 | cl i hi =>
  have n:=iY P.prg (k+1) i h
  have c:=uV P C k hi h
  simp[ff,Th.enc,n,c,cW]
theorem iZ (P:TpP T G) (C:ThP T) (k:Nat) {st:St} (ho:st.ok) (th:Th) (h:HH):runN T G (k+4) "worth_in" [.p st.enc,.p th.enc] h=some (.p (.int (th.val st)),h):=by
 cases th with
 | nm x=>exact lM P.prg (k+2) st ho x h
 | cl i hi =>
  rw[run_eq P.prg.worth_in rfl]
  have n:=iY P.prg (k+2) i h
  have c:=nv P C k (.cl i hi) h
  have ix:dF (.tup (cV st.cells)) (.int (i:Int))=some (.int (st.cells.getD i 0)):=by
   show atP _ _=_
   rw[lN]
   have:i < st.cells.length:=by rw[ho.clen];exact hi
   simp[cV,Rv this]
  have i2:dF st.enc (.int 2)=some (.tup (cV st.cells)):=rfl
  simp only[Th.enc] at c
  simp[-gk,gy,Th.enc,Th.val,n,c,P.prg.CELLS,i2,ix,cW]
end
noncomputable def dfB:S:=(.seq (.set 4 (.call "worth_in" (.cons (.var 0) (.cons (.var 3) .nil))))
 (.seq (.set 5 (.call "worth_in" (.cons (.var 1) (.cons (.var 3) .nil))))
 (.ife (.cmp .ne (.var 4) (.var 5)) (.ex (.me .append (.var 2) (.cons (.tup (.cons (.var 3) (.cons (.var 4) (.cons (.var 5) .nil)))) .nil))) .nil)))
noncomputable def f9:Fn:=⟨["one","other"],["one","other","told","thing","worth","changed"],
 (.seq (.set 2 (.lst true .nil))
 (.seq (.for [(3,"thing")] .seq (.cons (.bin .add (.bi .list false (.cons (.glo "LETTERS") .nil)) (.lsr false .rng1 (.cons (.glo "CELL_COUNT") .nil))) .nil) dfB)
 (.ret (.var 2))))⟩
noncomputable def gO:Fn:=⟨["tape","one","other"],["tape","one","other"],
 (.ret (.call "differences" (.cons (.meth (.var 0) "at" (.cons (.var 1) .nil)) (.cons (.meth (.var 0) "at" (.cons (.var 2) .nil)) .nil))))⟩
noncomputable def fh:Fn:=⟨["tape","moment"],["tape","moment","wanted","<first_other>"],
 (.seq (.set 2 (.meth (.var 0) "at" (.cons (.var 1) .nil)))
 (.ret (.methL (.var 0) "first_from" (.cons (.cst (.int 0)) .nil) 11 [(2,"wanted")])))⟩
structure DfP (T:FK->Option Fn):Prop where
 differences:T "differences"=some f9
 differing:T "differing"=some gO
 first_other:T "first_other"=some fh
 l11:T (.l 11)=some um
noncomputable def things:List Th:=[.nm .a,.nm .b,.nm .c,.nm .d,.nm .e,.nm .f,.cl 0 (by decide),.cl 1 (by decide),.cl 2 (by decide),.cl 3 (by decide)]
noncomputable def dfs (a b:St):List Th->List D
 | []=>[]
 | th :: r=>if th.val a=th.val b then dfs a b r else .tup [th.enc,.int (th.val a),.int (th.val b)] :: dfs a b r
noncomputable def nc (a b:St):Bool:=decide (a.names=b.names)&&decide (a.cells=b.cells)
theorem sI:∀ (ths:List Th),dfs a b ths=[]↔∀ th∈ths,th.val a=th.val b
 | []=>by simp[dfs]
 | th :: r=>by
  have:=sI (a:=a) (b:=b) r
  by_cases c:th.val a=th.val b
  ·simp[dfs,c,this]
  ·simp[dfs,c]
theorem kj {xs ys:List Int} (h:xs.length=ys.length) (q:∀ i,i < xs.length->xs.getD i 0=ys.getD i 0):xs=ys:=by
 refine List.ext_getElem h fun i h1 h2=>?_
 have:=q i h1
 rwa [Si,Si,Rv h1,Rv h2] at this
theorem JY {a b:St} (ha:a.ok) (hb:b.ok):decide (dfs a b things=[])=nc a b:=by
 rw[U0,decide_eq_true_eq,sI]
 unfold nc
 rw[Rn,decide_eq_true_eq,decide_eq_true_eq]
 constructor
 ·intro q
  refine ⟨kj (by rw[ha.nlen,hb.nlen]) fun i hi=>?_,kj (by rw[ha.clen,hb.clen]) fun i hi=>?_⟩
  ·rw[ha.nlen] at hi
   have:i=0\/i=1\/i=2\/i=3\/i=4\/i=5:=by lia
   rcases this with rfl | rfl | rfl | rfl | rfl | rfl
   ·exact q (.nm .a) (by simp[things])
   ·exact q (.nm .b) (by simp[things])
   ·exact q (.nm .c) (by simp[things])
   ·exact q (.nm .d) (by simp[things])
   ·exact q (.nm .e) (by simp[things])
   ·exact q (.nm .f) (by simp[things])
  ·rw[ha.clen] at hi
   have:i=0\/i=1\/i=2\/i=3:=by lia
   rcases this with rfl | rfl | rfl | rfl
   ·exact q (.cl 0 (by decide)) (by simp[things])
   ·exact q (.cl 1 (by decide)) (by simp[things])
   ·exact q (.cl 2 (by decide)) (by simp[things])
   ·exact q (.cl 3 (by decide)) (by simp[things])
 ·rintro ⟨h1,h2⟩ th _
  cases th with
  | nm x=>show a.names.getD _ 0=_;rw[h1];rfl
  | cl i h=>show a.cells.getD _ 0=_;rw[h2];rfl
theorem CM (xs:List D):eqv (.lst xs) (.lst [])=decide (xs=[]):=by cases xs<;>simp
theorem qS (xs ys:List Int):eqv (.tup (cV xs)) (.tup (cV ys))=decide (xs=ys):=by
 rw[U0,decide_eq_true_eq]
 constructor
 ·intro h;exact qQ h
 ·rintro rfl;exact jV _
section
theorem sJ (P:TpP T G) (C:ThP T) (k:Nat) (h:HH) (ha:a.ok) (hb:b.ok):∀ (ths:List Th) (acc:List D) (x3 x4 x5:Option W),acc.length+ths.length<=100 →
 ∃ y3 y4 y5,dJ (evS (runN T G (k+4)) G dfB) [(3,"thing")] (ths.map Th.enc) [some (.p a.enc),some (.p b.enc),some (.r h.length),x3,x4,x5] (h++[.l acc])=some (.nx [some (.p a.enc),some (.p b.enc),some (.r h.length),y3,y4,y5] (h++[.l (acc++dfs a b ths)]))
 | [],acc,x3,x4,x5,_=>⟨x3,x4,x5,by simp[dfs]⟩
 | th :: r,acc,x3,x4,x5,hl=>by
  have w1:=iZ P C k ha th (h++[.l acc])
  have w2:=iZ P C k hb th (h++[.l acc])
  simp only[RO] at hl
  by_cases c:th.val a=th.val b
  ·obtain ⟨y3,y4,y5,q⟩:=sJ P C k h ha hb r acc (some (.p th.enc)) (some (.p (.int (th.val a)))) (some (.p (.int (th.val b)))) (by lia)
   refine ⟨y3,y4,y5,?_⟩
   have hb1:evS (runN T G (k+4)) G dfB [some (.p a.enc),some (.p b.enc),some (.r h.length),some (.p th.enc),x4,x5] (h++[.l acc])=some (.nx [some (.p a.enc),some (.p b.enc),some (.r h.length),some (.p th.enc),some (.p (.int (th.val a))),some (.p (.int (th.val b)))] (h++[.l acc])):=by
    simp[dfB,w1,w2,c]
   have st:dJ (evS (runN T G (k+4)) G dfB) [(3,"thing")] ((th :: r).map Th.enc) [some (.p a.enc),some (.p b.enc),some (.r h.length),x3,x4,x5] (h++[.l acc])=g9 (evS (runN T G (k+4)) G dfB [some (.p a.enc),some (.p b.enc),some (.r h.length),some (.p th.enc),x4,x5] (h++[.l acc])) (dJ (evS (runN T G (k+4)) G dfB) [(3,"thing")] (r.map Th.enc)):=rfl
   rw[st,hb1,eY,q]
   simp[dfs,c]
  ·obtain ⟨y3,y4,y5,q⟩:=sJ P C k h ha hb r (acc++[.tup [th.enc,.int (th.val a),.int (th.val b)]]) (some (.p th.enc)) (some (.p (.int (th.val a)))) (some (.p (.int (th.val b)))) (by simp;lia)
   refine ⟨y3,y4,y5,?_⟩
   have l:acc.length < 100000:=by lia
   have hb1:evS (runN T G (k+4)) G dfB [some (.p a.enc),some (.p b.enc),some (.r h.length),some (.p th.enc),x4,x5] (h++[.l acc])=some (.nx [some (.p a.enc),some (.p b.enc),some (.r h.length),some (.p th.enc),some (.p (.int (th.val a))),some (.p (.int (th.val b)))] (h++[.l (acc++[.tup [th.enc,.int (th.val a),.int (th.val b)]])])):=by
    simp[dfB,w1,w2,c,l]
   have st:dJ (evS (runN T G (k+4)) G dfB) [(3,"thing")] ((th :: r).map Th.enc) [some (.p a.enc),some (.p b.enc),some (.r h.length),x3,x4,x5] (h++[.l acc])=g9 (evS (runN T G (k+4)) G dfB [some (.p a.enc),some (.p b.enc),some (.r h.length),some (.p th.enc),x4,x5] (h++[.l acc])) (dJ (evS (runN T G (k+4)) G dfB) [(3,"thing")] (r.map Th.enc)):=rfl
   rw[st,hb1,eY,q]
   simp[dfs,c]
theorem jA (P:TpP T G) (C:ThP T) (D:DfP T) (k:Nat) (ha:a.ok) (hb:b.ok) (h:HH):runN T G (k+5) "differences" [.p a.enc,.p b.enc] h=some (.p (.lst (dfs a b things)),h):=by
 rw[run_eq D.differences rfl]
 obtain ⟨y3,y4,y5,q⟩:=sJ P C k h ha hb things [] none none none (by simp[things])
 have e1:([.str "a",.str "b",.str "c",.str "d",.str "e",.str "f",.int 0,.int 1,.int 2,.int 3]:List BT.D)=things.map Th.enc:=rfl
 have u:upto 0 4=[.int 0,.int 1,.int 2,.int 3]:=by simp[upto,List.range_succ]
 simp only[Tt] at q
 simp[-dJ,f9,P.prg.LETTERS,P.prg.CELL_COUNT,u,e1,gY,q,Ca]
theorem M7 (P:TpP T G) (D:DfP T) (I:TI t e gv) (st:St):Tst T G n t (.l 11) [.p st.enc] (fun i=>nc (itr t.p t.asked i) st) e:=fun k h r t' a s i hi=>by
 rw[run_eq (k:=k+9) D.l11 rfl]
 have e1:=qS (itr t.p t.asked i).names st.names
 have e2:=qS (itr t.p t.asked i).cells st.cells
 have ok1:=qP (.tup (cV (itr t.p t.asked i).names)) st.names
 have ok2:=qP (.tup (cV (itr t.p t.asked i).cells)) st.cells
 cases c:decide ((itr t.p t.asked i).names=st.names) with
 | true =>
  rw[c] at e1
  simp[-eqv,-gk,um,P.prg.NAMES,P.prg.CELLS,e1,e2,cW,nc,c]
 | false =>
  rw[c] at e1
  simp[-eqv,-gk,um,P.prg.NAMES,P.prg.CELLS,e1,e2,cW,nc,c]
theorem ny (P:TpP T G) (L:TpF T) (D:DfP T) (k:Nat) (a:TAt h n r t) (I:TI t e gv) (m:Nat) (hm:m<=e) :
 ∃ j h' r' t',runN T G (k+13) "first_other" [.o n,.p (.int m)] h=some (.p (.int (j:Nat)),h')/\j<=m/\nc (itr t.p t.asked j) (itr t.p t.asked m)=true/\(∀ i,i < j->nc (itr t.p t.asked i) (itr t.p t.asked m)=false)/\Go n h r t h' r' t'/\TI t' e gv/\Sm8 t t':=by
 obtain ⟨h1,r1,t1,b1,g1,I1,s1,f1⟩:=kR P (k+1) a I m hm
 have tt:=M7 (n:=n) P D I1 (itr t.p t.asked m)
 obtain ⟨o,h2,r2,t2,b2,F,g2,I2,s2⟩:=zU P L k g1.b I1 tt 0 (Sz _)
 rw[s1.p,s1.asked] at F
 have G2:=g1.trans g2
 have self:nc (itr t.p t.asked m) (itr t.p t.asked m)=true:=by simp[nc]
 cases o with
 | none =>
  have:=F.no rfl m (Sz _) hm
  rw[self] at this;exact yT this
 | some j =>
  obtain ⟨q1,q2,q3,q4⟩:=F.yes j rfl
  have jm:j<=m:=by
   rcases R0 m j with z | z
   ·have:=q4 m (Sz _) z
    rw[self] at this;exact yT this
   ·exact z
  refine ⟨j,h2,r2,t2,?_,jm,q3,fun i hi=>q4 i (Sz _) hi,G2,I2,s1.trans s2⟩
  rw[run_eq D.first_other rfl]
  have fn:=fun w=>iF G2 w
  have b2':runN T G (k+12) (.m "Tape" "first_from") [.o n,.p (.int 0),.c (.l 11) [.p (itr t.p t.asked m).enc]] h1=some (.p (.int (j:Nat)),h2):=b2
  simp[fh,a.ob,zR,b1,g1.b.ob,F0,b2',fn]
end
noncomputable def rdC:E:=(.not (.meth (.var 0) "is_last" (.cons (.bin .sub (.bi .len false (.cons (.var 3) .nil)) (.cst (.int 1))) (.cons (.var 2) .nil))))
noncomputable def rdB:S:=(.seq (.set 2 (.meth (.var 0) "behind" (.cons (.var 2) .nil)))
 (.ex (.me .append (.var 3) (.cons (.callv 1 (.cons (.var 2) .nil)) .nil))))
noncomputable def fk:Fn:=⟨["self","reader"],["self","reader","state","told"],
 (.seq (.set 2 (.idx (.fld (.var 0) "kept") (.cst (.int 0))))
 (.seq (.set 3 (.lst true (.cons (.callv 1 (.cons (.var 2) .nil)) .nil)))
 (.seq (.whl rdC rdB)
 (.ret (.var 3)))))⟩
structure TpR (T:FK->Option Fn):Prop where
 readings:T (.m "Tape" "readings")=some fk
section
theorem wj (t:Tp) (r:Nat):d7 "readings" (t.fs r)=none:=gr t r rfl
noncomputable def Rdg (T:FK->Option Fn) (G:Str->Option W) (n:Nat) (t:Tp) (q:FK) (cs:List Cp) (f:Nat->D) (e:Nat):Prop :=
 ∀ k h r t',TAt h n r t'->Sm8 t t'->∀ i,i<=e->runN T G (k+10) q (.p (itr t.p t.asked i).enc :: cs.map Cp.w) h=some (.p (f i),h)
noncomputable def each (f:Nat->D) (e:Nat):List D:=(RV (e+1)).map f
theorem lR (f:Nat->D) (e:Nat):(each f e).length=e+1:=by simp[each]
theorem zV (f:Nat->D) (e:Nat):each f (e+1)=each f e++[f (e+1)]:=by
 unfold each
 rw[List.range_succ (n:=e+1),VU];rfl
theorem ye (f:Nat->D) (h:i<=e):(each f e)[i]?=some (f i):=by
 unfold each
 rw[RY,T3 (by lia)];rfl
theorem F3 (P:TpP T G) (k:Nat) (a:TAt h n r t) (I:TI t e gv) (tt:Rdg T G n t q cs f e):∀ (d u m:Nat),e - m=d->d < u->m<=e →
 eX (BT.ev (runN T G (k+10)) G rdC) (evS (runN T G (k+10)) G rdB) u [some (.o n),some (.c q cs),some (.p (itr t.p t.asked m).enc),some (.r h.length)] (h++[.l (each f m)]) =
  some (.nx [some (.o n),some (.c q cs),some (.p (itr t.p t.asked e).enc),some (.r h.length)] (h++[.l (each f e)])):=by
 intro d
 induction d with
 | zero =>
  intro u m hd hu hm
  have em:m=e:=by lia
  subst em
  cases u with
  | zero=>lia
  | succ u =>
   have A:=a.app (g:=[.l (each f m)])
   have il:=gB P (k+8) A m (itr t.p t.asked m)
   rw[sH I.run hm,decide_eq_true rfl] at il
   have l1:(((each f m).length:Nat):Int) - 1=(m:Int):=by rw[lR];lia
   have ts:BT.ev (runN T G (k+10)) G rdC [some (.o n),some (.c q cs),some (.p (itr t.p t.asked m).enc),some (.r h.length)] (h++[.l (each f m)])=some (.p (.bl false),h++[.l (each f m)]):=by
    simp[rdC,A.ob,gR,rd,l1,il]
   rw[eX,ts,iU,mw]
 | succ d ih =>
  intro u m hd hu hm
  cases u with
  | zero=>lia
  | succ u =>
   have A:=a.app (g:=[.l (each f m)])
   have il:=gB P (k+8) A m (itr t.p t.asked m)
   rw[sH I.run hm,decide_eq_false (by lia)] at il
   have l1:(((each f m).length:Nat):Int) - 1=(m:Int):=by rw[lR];lia
   have ts:BT.ev (runN T G (k+10)) G rdC [some (.o n),some (.c q cs),some (.p (itr t.p t.asked m).enc),some (.r h.length)] (h++[.l (each f m)])=some (.p (.bl true),h++[.l (each f m)]):=by
    simp[rdC,A.ob,gR,rd,l1,il]
   have le:=I.run.le
   have m1:=I.m1
   have bh:=jv P (k+3) A I.ok (j:=m) (st:=itr t.p t.asked m) (by lia) (jt I.ok I.ask I.run m hm) (I.run.on m (by lia))
   have s1:step t.p t.asked (itr t.p t.asked m)=itr t.p t.asked (m+1):=rfl
   rw[s1] at bh
   have t1:=tt k (h++[.l (each f m)]) r t A (.refl t) (m+1) (by lia)
   have l2:(each f m).length < 100000:=by rw[lR];lia
   have bd:evS (runN T G (k+10)) G rdB [some (.o n),some (.c q cs),some (.p (itr t.p t.asked m).enc),some (.r h.length)] (h++[.l (each f m)])=some (.nx [some (.o n),some (.c q cs),some (.p (itr t.p t.asked (m+1)).enc),some (.r h.length)] (h++[.l (each f (m+1))])):=by
    simp[rdB,A.ob,lQ,bh,t1,l2,zV]
   rw[eX,ts,iU,mq,bd,eY]
   exact ih u (m+1) (by lia) (by lia) (by lia)
theorem sL (P:TpP T G) (Q:TpR T) (k:Nat) (a:TAt h n r t) (I:TI t e gv) (tt:Rdg T G n t q cs f e) :
 runN T G (k+11) (.m "Tape" "readings") [.o n,.c q cs] h=some (.p (.lst (each f e)),h):=by
 have le:=I.run.le
 have m1:=I.m1
 have k0:0 < t.kept.length:=by rw[I.len];exact Nat.succ_pos _
 have hk:=I.kept 0 k0
 rw[Nat.zero_mul] at hk
 have ix:dF (.lst (t.kept.map St.enc)) (.int 0)=some (itr t.p t.asked 0).enc:=by
  show atP _ ((0:Nat):Int)=_
  rw[lN,RY,hk];rfl
 have t0:=tt k h r t a (.refl t) 0 (Sz _)
 have lp:=F3 P k a I tt (e - 0) 100000 0 rfl (by lia) (Sz _)
 have e0:each f 0=[f 0]:=rfl
 rw[e0] at lp
 rw[run_eq Q.readings rfl,fk]
 simp[-fF,a.ob,a.li,rd,ix,t0,turns,lp,Ca]
end
noncomputable def gc:Fn:=⟨["tape","thing"],["tape","thing","<worths_of>"],
 (.ret (.methL (.var 0) "readings" .nil 0 [(1,"thing")]))⟩
noncomputable def chC:E:=(.cmp .ne (.idx (.var 1) (.var 0)) (.idx (.var 1) (.bin .sub (.var 0) (.cst (.int 1)))))
noncomputable def chE:E:=(.comp false .rng2 (.cons (.cst (.int 1)) (.cons (.bi .len false (.cons (.var 2) .nil)) .nil)) ["moment"] [(2,"worths")] (.cons chC .nil) (.var 0))
noncomputable def jx:Fn:=⟨["tape","thing"],["tape","thing","worths"],
 (.seq (.set 2 (.call "worths_of" (.cons (.var 0) (.cons (.var 1) .nil))))
 (.ret chE))⟩
structure ChP (T:FK->Option Fn):Prop where
 worths_of:T "worths_of"=some gc
 changes:T "changes"=some jx
 l0:T (.l 0)=some Eh
theorem F4 {cond:Es} (e1:evs F G sa s h=some (ws,h1)) (e2:(rds ws h1).bind (gC sr)=some ds) (e3:frees s fv=some fs) (e4:gY ws=true) (e5:dU (eW (evs F G cond) (BT.ev F G elt) fs) tg.length ds h1=some (xs,h2)) (e6:xs.length<=100000):BT.ev F G (.comp false sr sa tg fv cond elt) s h=some (.p (.lst xs),h2):=by
 show bnd (evs F G sa s h) (mU false sr tg.length (frees s fv) (evs F G cond) (BT.ev F G elt))=_
 rw[e1,dW]
 unfold mU
 rw[e2,e3]
 show (if gY ws=true then _ else _)=_
 rw[if_pos e4,e5,dW]
 unfold gX
 rw[if_pos (show xs.length<=lim from e6)];rfl
theorem sM (f:List D->HH->Option (Option D×HH)) (mk:α->D) (g:α->Option D) (h:HH):∀ (l:List α),(∀ x∈l,f [mk x] h=some (g x,h))->dU f 1 (l.map mk) h=some (l.filterMap g,h):=by
 intro l
 induction l with
 | nil=>intro _;rfl
 | cons x r ih =>
  intro hf
  rw[RL,dU,oM]
  show bnd (f [mk x] h) (AH (dU f 1 (r.map mk)))=_
  rw[hf x RE,dW,xg,ih fun y hy=>hf y (Ru _ hy),dW,uf,Sj]
  cases g x<;>rfl
theorem sN (p:α->Bool) (m:α->β) (l:List α):l.filterMap (fun x=>if p x=true then some (m x) else none)=(l.filter p).map m:=by
 induction l with
 | nil=>rfl
 | cons x r ih =>
  rw[Sj,List.filter_cons]
  cases p x with
  | true=>simp[ih]
  | false=>simp[ih]
noncomputable def wv (t:Tp) (th:Th) (i:Nat):Int:=th.val (itr t.p t.asked i)
theorem M8 (s:Sm8 t t') (th:Th):wv t' th=wv t th:=by funext i;unfold wv;rw[s.p,s.asked]
noncomputable def wvD (t:Tp) (th:Th) (i:Nat):D:=.int (wv t th i)
noncomputable def chl (v:Nat->Int) (e:Nat):List Nat:=(RV e).filter fun k=>decide (v (k+1)≠v k)
noncomputable def chD (v:Nat->Int) (e:Nat):List D:=(chl v e).map fun (k:Nat)=>.int ((k:Int)+1)
section
theorem Qg (P:TpP T G) (C:ThP T) (Q:ChP T) (I:TI t e gv) (th:Th):Rdg T G n t (.l 0) [.p th.enc] (wvD t th) e:=fun k h r t' a s i hi=>by
 rw[run_eq (k:=k+9) Q.l0 rfl]
 have b2:=iZ P C (k+5) (jt I.ok I.ask I.run i hi).ok th h
 simp[Eh,b2,cW,wvD,wv]
theorem wk (P:TpP T G) (C:ThP T) (R:TpR T) (Q:ChP T) (k:Nat) (a:TAt h n r t) (I:TI t e gv) (th:Th) :
 runN T G (k+12) "worths_of" [.o n,.p th.enc] h=some (.p (.lst (each (wvD t th) e)),h):=by
 have b1:=sL P R k a I (Qg P C Q I th)
 rw[run_eq Q.worths_of rfl]
 simp[gc,a.ob,wj,b1,cW]
theorem uW (P:TpP T G) (C:ThP T) (R:TpR T) (Q:ChP T) (k:Nat) (a:TAt h n r t) (I:TI t e gv) (th:Th) :
 runN T G (k+13) "changes" [.o n,.p th.enc] h=some (.p (.lst (chD (wv t th) e)),h):=by
 have b1:=wk P C R Q k a I th
 have le:=I.run.le
 have m1:=I.m1
 rw[run_eq Q.changes rfl,jx]
 have ct:∀ i:Nat,i < e->BT.ev (runN T G (k+12)) G chC [some (.p (.int ((1:Int)+(i:Int)))),some (.p (.lst (each (wvD t th) e)))] h=some (.p (.bl (!(wv t th (i+1)==wv t th i))),h):=fun i hi=>by
  have x1:dF (.lst (each (wvD t th) e)) (.int ((1:Int)+(i:Int)))=some (wvD t th (i+1)):=by
   rw[show (1:Int)+(i:Int)=((i+1:Nat):Int) by lia]
   show atP _ _=_
   rw[lN,ye _ (by lia)]
  have x2:dF (.lst (each (wvD t th) e)) (.int ((1:Int)+(i:Int) - 1))=some (wvD t th i):=by
   rw[show (1:Int)+(i:Int) - 1=(i:Int) by lia]
   show atP _ _=_
   rw[lN,ye _ (by lia)]
  simp[-fF,chC,rd,x1,x2,wvD]
 have rg:gC .rng2 [.int 1,.int (((each (wvD t th) e).length:Nat):Int)]=some (upto 1 e):=by
  rw[i7,lR]
  have c:((-100000<=(1:Int):Bool)&&((1:Int)<=100000:Bool)&&((-100000<=((e+1:Nat):Int):Bool))&&((((e+1:Nat):Int)<=100000:Bool)))=true:=by
   simp only[Rn,decide_eq_true_eq];lia
  rw[if_pos c,show (((e+1:Nat):Int) - 1).toNat=e by lia]
 have cm:dU (eW (evs (runN T G (k+12)) G (.cons chC .nil)) (BT.ev (runN T G (k+12)) G (.var 0)) [some (.p (.lst (each (wvD t th) e)))]) 1 (upto 1 e) h=some (chD (wv t th) e,h):=by
  have e0:chD (wv t th) e=(RV e).filterMap fun k=>if decide (wv t th (k+1)≠wv t th k)=true then some (D.int ((k:Int)+1)) else none:=(sN _ _ _).symm
  rw[e0]
  refine sM _ (fun (k:Nat)=>D.int (1+(k:Int))) _ h (RV e) fun i hi=>?_
  have c:=ct i (List.mem_range.mp hi)
  have sl:([D.int ((1:Int)+(i:Int))].map eV++[some (.p (.lst (each (wvD t th) e)))]:Sl)=[some (.p (.int ((1:Int)+(i:Int)))),some (.p (.lst (each (wvD t th) e)))]:=rfl
  unfold eW
  rw[sl,Int.add_comm (i:Int) 1]
  by_cases q:wv t th (i+1)=wv t th i
  ·rw[q,beq_self_eq_true,Vu] at c
   simp[evs,c,q]
  ·rw[beq_eq_false_iff_ne.mpr q,Wg] at c
   simp[evs,c,q]
 have cl:(chD (wv t th) e).length<=100000:=by
  unfold chD chl
  rw[RP]
  have:=UY (fun k=>decide (wv t th (k+1)≠wv t th k)) (RV e)
  rw[VC] at this
  lia
 have ce:BT.ev (runN T G (k+12)) G chE [some (.o n),some (.p th.enc),some (.p (.lst (each (wvD t th) e)))] h=some (.p (.lst (chD (wv t th) e)),h):=by
  refine F4 (ws:=[.p (.int 1),.p (.int (((each (wvD t th) e).length:Nat):Int))]) (h1:=h) (fs:=[some (.p (.lst (each (wvD t th) e)))]) ?_ rg rfl rfl cm cl
  simp[rd]
 simp[b1,ce,cW]
@[simp] theorem Ri (h:HH) (a:Cl) (r:HH):dat (h++a :: r) h.length=tX a:=by simp[dat]
end
theorem CO (f:List D->HH->Option (Option D×HH)) (n:Nat) (mk:α->D) (tx:α->List D) (g:α->Option D) (h:HH):∀ (l:List α),(∀ x∈l,target n (mk x)=some (tx x)/\f (tx x) h=some (g x,h))->dU f n (l.map mk) h=some (l.filterMap g,h):=by
 intro l
 induction l with
 | nil=>intro _;rfl
 | cons x r ih =>
  intro hf
  obtain ⟨h1,h2⟩:=hf x RE
  rw[RL,dU,h1]
  show bnd (f (tx x) h) (AH (dU f n (r.map mk)))=_
  rw[h2,dW,xg,ih fun y hy=>hf y (Ru _ hy),dW,uf,Sj]
  cases g x<;>rfl
section
end
noncomputable def fC:Fn:=⟨["state","thing","worth"],["state","thing","worth"],
 (.seq (.ife (.call "is_name" (.cons (.var 1) .nil)) (.ret (.bin .add (.bin .add (.slc (.var 0) .nil (.cons (.glo "NAMES") .nil)) (.tup (.cons (.call "with_name" (.cons (.var 0) (.cons (.var 1) (.cons (.var 2) .nil)))) .nil))) (.slc (.var 0) (.cons (.bin .add (.glo "NAMES") (.cst (.int 1))) .nil) .nil))) .nil)
 (.ret (.bin .add (.bin .add (.slc (.var 0) .nil (.cons (.glo "CELLS") .nil)) (.tup (.cons (.call "with_worth" (.cons (.idx (.var 0) (.glo "CELLS")) (.cons (.var 1) (.cons (.var 2) .nil)))) .nil))) (.slc (.var 0) (.cons (.bin .add (.glo "CELLS") (.cst (.int 1))) .nil) .nil))))⟩
noncomputable def gP:Fn:=⟨["tape","moment"],["tape","moment","ahead","behind"],
 (.seq (.set 2 (.meth (.var 0) "at" (.cons (.bin .sub (.var 1) (.cst (.int 1))) .nil)))
 (.seq (.set 3 (.meth (.var 0) "at" (.cons (.var 1) .nil)))
 (.ret (.tup (.cons (.tup (.cons (.idx (.var 2) (.glo "ROW")) (.cons (.idx (.var 3) (.glo "ROW")) .nil))) (.cons (.bi .tuple false (.cons (.call "differences" (.cons (.var 2) (.cons (.var 3) .nil))) .nil)) (.cons (.tup (.cons (.idx (.var 2) (.glo "CALLS")) (.cons (.idx (.var 3) (.glo "CALLS")) .nil))) (.cons (.tup (.cons (.idx (.var 2) (.glo "ASKED")) (.cons (.idx (.var 3) (.glo "ASKED")) .nil))) (.cons (.tup (.cons (.idx (.var 2) (.glo "SAID")) (.cons (.idx (.var 3) (.glo "SAID")) .nil))) .nil)))))))))⟩
noncomputable def ldB:S:=(.set 0 (.call "with_thing" (.cons (.var 0) (.cons (.idx (.var 3) (.cst (.int 0))) (.cons (.idx (.var 3) (.bin .add (.cst (.int 1)) (.var 2))) .nil)))))
noncomputable def ldR:S:=(.ret (.tup (.cons (.idx (.idx (.var 1) (.cst (.int 0))) (.var 2)) (.cons (.idx (.var 0) (.glo "NAMES")) (.cons (.idx (.var 0) (.glo "CELLS")) (.cons (.idx (.idx (.var 1) (.cst (.int 2))) (.var 2)) (.cons (.idx (.idx (.var 1) (.cst (.int 3))) (.var 2)) (.cons (.idx (.idx (.var 1) (.cst (.int 4))) (.var 2)) .nil))))))))
noncomputable def sO:Fn:=⟨["state","change","side"],["state","change","side","difference"],
 (.seq (.for [(3,"difference")] .seq (.cons (.idx (.var 1) (.cst (.int 1))) .nil) ldB)
 ldR)⟩
noncomputable def iS:Fn:=⟨["state","change"],["state","change"],
 (.ret (.call "led" (.cons (.var 0) (.cons (.var 1) (.cons (.glo "AHEAD") .nil)))))⟩
noncomputable def ko:Fn:=⟨["state","change"],["state","change"],
 (.ret (.call "led" (.cons (.var 0) (.cons (.var 1) (.cons (.glo "BEHIND") .nil)))))⟩
structure LdP (T:FK->Option Fn) (G:Str->Option W):Prop where
 with_thing:T "with_thing"=some fC
 change_at:T "change_at"=some gP
 led:T "led"=some sO
 led_back:T "led_back"=some iS
 led_on:T "led_on"=some ko
 ahead:G "AHEAD"=some (.p (.int 0))
 behind:G "BEHIND"=some (.p (.int 1))
noncomputable def Th.put (st:St) (v:Int):Th->St
 | .nm x=>{ st with names:=st.names.set x.ix v }
 | .cl i _=>{ st with cells:=st.cells.set i v }
structure Szd (st:St):Prop where
 n:st.names.length=6
 c:st.cells.length=4
theorem Szd.put {st:St} (z:Szd st) (v:Int) (th:Th):Szd (th.put st v):=by
 cases th with
 | nm x=>exact ⟨by show (st.names.set _ _).length=6;rw[UX];exact z.n,z.c⟩
 | cl i h=>exact ⟨z.n,by show (st.cells.set _ _).length=4;rw[UX];exact z.c⟩
theorem Nm.JZ {x y:Nm} (h:x.ix=y.ix):x=y:=by cases x<;>cases y<;>first | rfl | (simp[Nm.ix] at h)
theorem kD {l:List Int}{i:Nat} (h:i < l.length) (v:Int):(l.set i v).getD i 0=v:=by
 rw[Si,Sg h];rfl
theorem m7 {l:List Int}{i j:Nat} (h:i≠j) (v:Int):(l.set i v).getD j 0=l.getD j 0:=by
 rw[Si,Se h,Si]
theorem F5 {st:St} (z:Szd st) (v:Int) (th:Th):th.val (th.put st v)=v:=by
 cases th with
 | nm x=>exact kD (by rw[z.n];exact x.Cb) v
 | cl i h=>exact kD (by rw[z.c];exact h) v
theorem J0 {st:St} (v:Int) {th th':Th} (h:th≠th'):th'.val (th.put st v)=th'.val st:=by
 cases th with
 | nm x =>
  cases th' with
  | nm y=>exact m7 (fun q=>h (by rw[Nm.JZ q])) v
  | cl j hj=>rfl
 | cl i hi =>
  cases th' with
  | nm y=>rfl
  | cl j hj=>exact m7 (fun q=>h (by subst q;rfl)) v
theorem F6 (ha:Szd a) (hb:Szd b) (q:∀ th:Th,th.val a=th.val b):a.names=b.names/\a.cells=b.cells:=by
 refine ⟨kj (by rw[ha.n,hb.n]) fun i hi=>?_,kj (by rw[ha.c,hb.c]) fun i hi=>?_⟩
 ·rw[ha.n] at hi
  have:i=0\/i=1\/i=2\/i=3\/i=4\/i=5:=by lia
  rcases this with rfl | rfl | rfl | rfl | rfl | rfl
  ·exact q (.nm .a)
  ·exact q (.nm .b)
  ·exact q (.nm .c)
  ·exact q (.nm .d)
  ·exact q (.nm .e)
  ·exact q (.nm .f)
 ·rw[ha.c] at hi
  exact q (.cl i hi)
theorem jy (th:Th):th∈things:=by
 cases th with
 | nm x=>cases x<;>simp[things]
 | cl i h =>
  have:i=0\/i=1\/i=2\/i=3:=by lia
  rcases this with rfl | rfl | rfl | rfl<;>simp[things]
noncomputable def kr (a b c:St):List Th->St->St
 | [],s=>s
 | th :: r,s=>if th.val a=th.val b then kr a b c r s else kr a b c r (th.put s (th.val c))
theorem sP:∀ (l:List Th) {s:St},Szd s->Szd (kr a b c l s)
 | [],s,z=>z
 | th :: r,s,z=>by
  rw[kr]
  split
  ·exact sP r z
  ·exact sP r (z.put _ th)
theorem pL {a b c:St}:∀ (l:List Th) {s:St},Szd s->(∀ th:Th,th.val s=th.val c\/(th∈l/\¬ th.val a=th.val b))->∀ th:Th,th.val (kr a b c l s)=th.val c
 | [],s,_,h,th=>by
  rcases h th with h | h
  ·exact h
  ·exact absurd h.1 (by simp)
 | x :: r,s,z,h,th=>by
  rw[kr]
  split
  ·rename_i e
   refine pL r z (fun y=>?_) th
   rcases h y with h | ⟨h,h2⟩
   ·exact .inl h
   ·rcases List.mem_cons.mp h with rfl | h
    ·exact absurd e h2
    ·exact .inr ⟨h,h2⟩
  ·rename_i e
   refine pL r (z.put _ x) (fun y=>?_) th
   by_cases q:x=y
   ·subst q;exact .inl (F5 z _ x)
   ·rw[J0 _ q]
    rcases h y with h | ⟨h,h2⟩
    ·exact .inl h
    ·rcases List.mem_cons.mp h with h | h
     ·exact absurd h.symm q
     ·exact .inr ⟨h,h2⟩
theorem CP (hs:Szd s) (hc:Szd c) (h:∀ th:Th,th.val s=th.val c\/¬ th.val a=th.val b):(kr a b c things s).names=c.names/\(kr a b c things s).cells=c.cells :=
 F6 (sP _ hs) hc (pL _ hs fun th=>(h th).elim .inl fun q=>.inr ⟨jy th,q⟩)
noncomputable def chg (a b:St):D:=.tup [.tup [.int a.row,.int b.row],.tup (dfs a b things),.tup [.tup (dH a.calls),.tup (dH b.calls)],.tup [.int a.asked,.int b.asked],.tup [.tup (cV a.said),.tup (cV b.said)]]
theorem Th.J1 {st:St} (ho:st.ok) (hv:Wth v) (th:Th):(th.put st v).ok:=by
 have z:=Szd.put ⟨ho.nlen,ho.clen⟩ v th
 cases th with
 | nm x=>exact ⟨z.n,z.c,fun y hy=>(Ux hy).elim (ho.nw y) fun e=>e ▸ hv,ho.cw⟩
 | cl i h=>exact ⟨z.n,z.c,ho.nw,fun y hy=>(Ux hy).elim (ho.cw y) fun e=>e ▸ hv⟩
theorem Th.m6 {st:St} (ho:st.ok) (th:Th):Wth (th.val st):=by
 cases th with
 | nm x=>exact pA ho.nw _
 | cl i h=>exact pA ho.cw _
section
theorem pM (P:TpP T G) (L:LdP T G) (k:Nat) {st:St} (ho:st.ok) (th:Th) (v:Int) (h:HH):runN T G (k+3) "with_thing" [.p st.enc,.p th.enc,.p (.int v)] h=some (.p (th.put st v).enc,h):=by
 rw[run_eq L.with_thing rfl]
 cases th with
 | nm x =>
  have w:=iX P.prg k st ho x v h
  have i:=jS P.prg (k+1) x h
  rw[St.enc] at w
  simp[fC,Th.enc,i,P.prg.NAMES,w,cW,St.enc,Th.put]
 | cl j hj =>
  have w:=iC P.prg (k+1) (cV st.cells) j (by rw[iE,ho.clen];exact hj) (by rw[iE,ho.clen];lia) (.int v) h
  have i:=iY P.prg (k+1) (j:Int) h
  simp[fC,Th.enc,i,P.prg.NAMES,P.prg.CELLS,w,cW,St.enc,Th.put]
  exact (WM).symm
noncomputable def dS (a b:St):Nat->St
 | 0=>a
 | _+1=>b
theorem J2 (a b:St):dS a b 0=a:=rfl
theorem J3 (a b:St):dS a b 1=b:=rfl
theorem F7 (a b:St) (side:Nat) (hs:side < 2):dF (.tup [.int a.row,.int b.row]) (.int (side:Int))=some (.int (dS a b side).row)/\dF (.tup [.tup (dH a.calls),.tup (dH b.calls)]) (.int (side:Int))=some (.tup (dH (dS a b side).calls)) ∧
 dF (.tup [.int a.asked,.int b.asked]) (.int (side:Int))=some (.int (dS a b side).asked)/\dF (.tup [.tup (cV a.said),.tup (cV b.said)]) (.int (side:Int))=some (.tup (cV (dS a b side).said)):=by
 match side,hs with
 | 0,_=>exact ⟨rfl,rfl,rfl,rfl⟩
 | 1,_=>exact ⟨rfl,rfl,rfl,rfl⟩
theorem CU (s:St):dF s.enc (.int 0)=some (.int s.row)/\dF s.enc (.int 3)=some (.tup (dH s.calls))/\dF s.enc (.int 4)=some (.int s.asked)/\dF s.enc (.int 5)=some (.tup (cV s.said)):=⟨rfl,rfl,rfl,rfl⟩
theorem sR (P:TpP T G) (L:LdP T G) (k:Nat) (ha:a.ok) (hb:b.ok) (side:Nat) (hs:side < 2) (ch:W) (h:HH):∀ (l:List Th) (s:St) (x3:Option W),s.ok →
 ∃ y3,dJ (evS (runN T G (k+3)) G ldB) [(3,"difference")] (dfs a b l) [some (.p s.enc),some ch,some (.p (.int (side:Int))),x3] h=some (.nx [some (.p (kr a b (dS a b side) l s).enc),some ch,some (.p (.int (side:Int))),y3] h)
 | [],s,x3,_=>⟨x3,rfl⟩
 | th :: r,s,x3,ho=>by
  by_cases c:th.val a=th.val b
  ·obtain ⟨y3,q⟩:=sR P L k ha hb side hs ch h r s x3 ho
   refine ⟨y3,?_⟩
   rw[dfs,if_pos c,kr,if_pos c,q]
  ·have hv:Wth (th.val (dS a b side)):=by
    match side,hs with
    | 0,_=>exact th.m6 ha
    | 1,_=>exact th.m6 hb
   obtain ⟨y3,q⟩:=sR P L k ha hb side hs ch h r (th.put s (th.val (dS a b side))) (some (.p (.tup [th.enc,.int (th.val a),.int (th.val b)]))) (th.J1 ho hv)
   refine ⟨y3,?_⟩
   rw[dfs,if_neg c,kr,if_neg c]
   have w:=pM P L k ho th (th.val (dS a b side)) h
   have bd:evS (runN T G (k+3)) G ldB [some (.p s.enc),some ch,some (.p (.int (side:Int))),some (.p (.tup [th.enc,.int (th.val a),.int (th.val b)]))] h=some (.nx [some (.p (th.put s (th.val (dS a b side))).enc),some ch,some (.p (.int (side:Int))),some (.p (.tup [th.enc,.int (th.val a),.int (th.val b)]))] h):=by
    match side,hs with
    | 0,_=>rw[J2] at w ⊢;simp[ldB,w]
    | 1,_=>rw[J3] at w ⊢;simp[ldB,w]
   have st:dJ (evS (runN T G (k+3)) G ldB) [(3,"difference")] (.tup [th.enc,.int (th.val a),.int (th.val b)] :: dfs a b r) [some (.p s.enc),some ch,some (.p (.int (side:Int))),x3] h=g9 (evS (runN T G (k+3)) G ldB [some (.p s.enc),some ch,some (.p (.int (side:Int))),some (.p (.tup [th.enc,.int (th.val a),.int (th.val b)]))] h) (dJ (evS (runN T G (k+3)) G ldB) [(3,"difference")] (dfs a b r)):=rfl
   rw[st,bd,eY,q]
theorem yf (P:TpP T G) (L:LdP T G) (k:Nat) (ha:a.ok) (hb:b.ok) (side:Nat) (hs:side < 2) (ho:s.ok) (hd:∀ th:Th,th.val s=th.val (dS a b side)\/¬ th.val a=th.val b) (h:HH) :
 runN T G (k+4) "led" [.p s.enc,.p (chg a b),.p (.int (side:Int))] h=some (.p (dS a b side).enc,h):=by
 rw[run_eq L.led rfl]
 obtain ⟨y3,q⟩:=sR P L k ha hb side hs (.p (chg a b)) h things s none ho
 have hc:Szd (dS a b side):=by
  match side,hs with
  | 0,_=>exact ⟨ha.nlen,ha.clen⟩
  | 1,_=>exact ⟨hb.nlen,hb.clen⟩
 obtain ⟨e1,e2⟩:=CP (a:=a) (b:=b) ⟨ho.nlen,ho.clen⟩ hc hd
 have i1:dF (chg a b) (.int 1)=some (.tup (dfs a b things)):=rfl
 have r:evS (runN T G (k+3)) G ldR [some (.p (kr a b (dS a b side) things s).enc),some (.p (chg a b)),some (.p (.int (side:Int))),y3] h=some (.rt (.p (dS a b side).enc) h):=by
  have n1:dF (kr a b (dS a b side) things s).enc (.int 1)=some (.tup (cV (dS a b side).names)):=by rw[← e1];rfl
  have n2:dF (kr a b (dS a b side) things s).enc (.int 2)=some (.tup (cV (dS a b side).cells)):=by rw[← e2];rfl
  obtain ⟨c0,c2,c3,c4⟩:=F7 a b side hs
  have k0:dF (chg a b) (.int 0)=some (.tup [.int a.row,.int b.row]):=rfl
  have k2:dF (chg a b) (.int 2)=some (.tup [.tup (dH a.calls),.tup (dH b.calls)]):=rfl
  have k3:dF (chg a b) (.int 3)=some (.tup [.int a.asked,.int b.asked]):=rfl
  have k4:dF (chg a b) (.int 4)=some (.tup [.tup (cV a.said),.tup (cV b.said)]):=rfl
  have ee:(dS a b side).enc=.tup [.int (dS a b side).row,.tup (cV (dS a b side).names),.tup (cV (dS a b side).cells),.tup (dH (dS a b side).calls),.int (dS a b side).asked,.tup (cV (dS a b side).said)]:=rfl
  rw[ldR,ee]
  generalize (kr a b (dS a b side) things s).enc=L at *
  generalize chg a b=C at *
  simp[-gk,P.prg.NAMES,P.prg.CELLS,n1,n2,c0,c2,c3,c4,k0,k2,k3,k4]
 generalize (kr a b (dS a b side) things s).enc=L at *
 generalize chg a b=C at *
 rw[sO]
 simp[-dJ,-gk,i1,gY,q,r,cW]
theorem sU (P:TpP T G) (L:LdP T G) (k:Nat) (ha:a.ok) (hb:b.ok) (h:HH):runN T G (k+5) "led_back" [.p b.enc,.p (chg a b)] h=some (.p a.enc,h):=by
 rw[run_eq L.led_back rfl]
 have q:=yf P L k ha hb 0 (by decide) hb (fun th=>(Classical.em (th.val a=th.val b)).imp (fun e=>e.symm) id) h
 simp only[dS,VQ] at q
 simp[iS,L.ahead,q,cW]
theorem wm (P:TpP T G) (L:LdP T G) (k:Nat) (ha:a.ok) (hb:b.ok) (h:HH):runN T G (k+5) "led_on" [.p a.enc,.p (chg a b)] h=some (.p b.enc,h):=by
 rw[run_eq L.led_on rfl]
 have q:=yf P L k ha hb 1 (by decide) ha (fun th=>Classical.em (th.val a=th.val b)) h
 have q:runN T G (k+4) "led" [.p a.enc,.p (chg a b),.p (.int 1)] h=some (.p b.enc,h):=q
 simp[ko,L.behind,q,cW]
theorem qm (P:TpP T G) (C:ThP T) (D:DfP T) (L:LdP T G) (k:Nat) (a:TAt h n r t) (I:TI t e gv) (m:Nat) (hm:m+1<=e) :
 M5 (runN T G (k+12) "change_at" [.o n,.p (.int ((m+1:Nat):Int))] h) (.p (chg (itr t.p t.asked m) (itr t.p t.asked (m+1)))) n h r t e gv:=by
 obtain ⟨h1,r1,t1,b1,g1,I1,s1,f1⟩:=kR P k a I m (by lia)
 obtain ⟨h2,r2,t2,b2,g2,I2,s2,f2⟩:=kR P k g1.b I1 (m+1) hm
 rw[s1.p,s1.asked] at b2
 have o1:=(jt I.ok I.ask I.run m (by lia)).ok
 have o2:=(jt I.ok I.ask I.run (m+1) hm).ok
 have b3:=jA P C D (k+6) o1 o2 h2
 have G2:=g1.trans g2
 refine ⟨h2,r2,t2,?_,G2,I2,s1.trans s2⟩
 rw[run_eq L.change_at rfl]
 have fn:=fun w=>iF G2 w
 have em:((m+1:Nat):Int) - 1=(m:Int):=by lia
 generalize ((m+1:Nat):Int)=z at *
 obtain ⟨x0,x3,x4,x5⟩:=CU (itr t.p t.asked m)
 obtain ⟨y0,y3,y4,y5⟩:=CU (itr t.p t.asked (m+1))
 rw[chg]
 generalize itr t.p t.asked m=A at *
 generalize itr t.p t.asked (m+1)=B at *
 simp[-gk,gP,a.ob,zR,em,b1,g1.b.ob,b2,b3,fn,P.prg.ROW,P.prg.CALLS,P.prg.ASKED,P.prg.SAID,x0,x3,x4,x5,y0,y3,y4,y5]
end
theorem sV {a b:St}:nc a b=true↔a.names=b.names/\a.cells=b.cells:=by
 unfold nc;rw[Rn,decide_eq_true_eq,decide_eq_true_eq]
theorem yh (a b:St):nc a b=nc b a:=by
 rw[U0,sV,sV];exact ⟨fun h=>⟨h.1.symm,h.2.symm⟩,fun h=>⟨h.1.symm,h.2.symm⟩⟩
theorem CV {a b:St} (h:nc a b=true) (c:St):nc a c=nc b c:=by
 obtain ⟨h1,h2⟩:=sV.mp h
 unfold nc;rw[h1,h2]
noncomputable def fo (p:Pg) (asked:List Int) (m:Nat):Nat:=((RV (m+1)).find? fun j=>nc (itr p asked j) (itr p asked m)).getD m
theorem M9 {p:Pg}{asked:List Int}{m j:Nat} (h1:j<=m) (h2:nc (itr p asked j) (itr p asked m)=true) (h3:∀ i,i < j->nc (itr p asked i) (itr p asked m)=false):fo p asked m=j:=by
 unfold fo
 have:(RV (m+1)).find? (fun j=>nc (itr p asked j) (itr p asked m))=some j:=by
  rw[List.find?_range_eq_some]
  exact ⟨h2,List.mem_range.mpr (by omega),fun i hi=>by rw[h3 i hi];rfl⟩
 rw[this];rfl
theorem nO (p:Pg) (asked:List Int) (m:Nat):fo p asked m<=m/\nc (itr p asked (fo p asked m)) (itr p asked m)=true/\∀ i,i < fo p asked m->nc (itr p asked i) (itr p asked m)=false:=by
 have self:nc (itr p asked m) (itr p asked m)=true:=sV.mpr ⟨rfl,rfl⟩
 cases e:(RV (m+1)).find? (fun j=>nc (itr p asked j) (itr p asked m)) with
 | none =>
  have:=List.find?_eq_none.mp e m (List.mem_range.mpr (by omega))
  exact absurd self this
 | some j =>
  have h:=List.find?_range_eq_some.mp e
  have hj:j < m+1:=List.mem_range.mp h.2.1
  have ej:fo p asked m=j:=by unfold fo;rw[e];rfl
  rw[ej]
  refine ⟨by omega,h.1,fun i hi=>?_⟩
  have:=h.2.2 i hi
  simpa using this
theorem Na {p:Pg}{asked:List Int}{i j:Nat} (h:nc (itr p asked i) (itr p asked j)=true):fo p asked i=fo p asked j:=by
 obtain ⟨a1,a2,a3⟩:=nO p asked i
 obtain ⟨b1,b2,b3⟩:=nO p asked j
 have key:∀ k,nc (itr p asked k) (itr p asked i)=nc (itr p asked k) (itr p asked j):=fun k=>by
  rw[yh _ (itr p asked i),yh _ (itr p asked j)];exact CV h _
 rw[key] at a2
 rcases Nat.lt_trichotomy (fo p asked i) (fo p asked j) with z | z | z
 ·rw[b3 _ z] at a2;cases a2
 ·exact z
 ·have:=a3 _ z
  rw[key,b2] at this;cases this
theorem Nb (p:Pg) (asked:List Int) (m:Nat):fo p asked (fo p asked m)=fo p asked m:=Na (nO p asked m).2.1
theorem lS {F:FK->List W->HH->Option (W×HH)}{G:Str->Option W}{sr:Sr}{sa:Es}{tg:List Str}{fv:List (Nat×Str)}{cond:Es}{elt:E}{s:Sl}{h h1 h2:HH}{ws:List W}{ds xs:List D}{fs:Sl} (e1:evs F G sa s h=some (ws,h1)) (e2:(rds ws h1).bind (gC sr)=some ds) (e3:frees s fv=some fs) (e4:gY ws=true) (e5:dU (eW (evs F G cond) (BT.ev F G elt) fs) tg.length ds h1=some (xs,h2)) (e6:xs.length<=100000):BT.ev F G (.comp false sr sa tg fv cond elt) s h=some (.p (.lst xs),h2):=by
 rw[BT.ev,e1,dW]
 unfold mU
 rw[e2,e3]
 show (if gY ws=true then _ else _)=_
 rw[if_pos e4,e5,dW]
 unfold gX
 rw[if_pos (show xs.length<=lim from e6)];rfl
section
variable {T:FK->Option Fn}{G:Str->Option W}
noncomputable def kd (p:Pg) (asked:List Int) (m:Nat):BT.D:=.tup [.tup (cV (itr p asked m).names),.tup (cV (itr p asked m).cells)]
theorem kq (L:Lw T) (ns:List Int) (hl:ns.length<=1000) (q many:Int) (hm:0 < many):∃ z:Nat,(z:Int) < many/\∀ k h,runN T G (k+2) "_law_drawn" [.p (.lst (cV ns)),.p (.int q),.p (.int many)] h=some (.p (.int (z:Int)),h):=by
 have h0:=fL ns q hm
 have h1:=fM ns q hm
 refine ⟨(drw ns q many).toNat,by omega,fun k h=>?_⟩
 have:=fR (G:=G) L k ns hl q many hm h
 rw[this]
 congr 4
 omega
end
noncomputable def wo:S:=(.wC 9 (.var 10) (.tup (.cons (.idx (.dgt (.var 9) (.var 10) (.tup (.cons (.var 11) (.cons (.cst (.int 0)) .nil)))) (.cst (.int 0))) (.cons (.var 12) .nil))))
noncomputable def wu:S:=(.seq (.set 6 (.call "led_back" (.cons (.var 6) (.cons (.call "change_at" (.cons (.var 2) (.cons (.var 7) .nil))) .nil))))
 (.ife (.cmp .ne (.var 6) (.meth (.var 2) "at" (.cons (.bin .sub (.var 7) (.cst (.int 1))) .nil))) (.ret (.cst (.bl false))) .nil))
noncomputable def pN:S:=(.set 6 (.call "led_on" (.cons (.var 6) (.cons (.call "change_at" (.cons (.var 2) (.cons (.var 7) .nil))) .nil))))
noncomputable def pO:S:=(.for [(10,"_law_thing"),(11,"_law_before"),(12,"_law_after")] .seq (.cons (.idx (.call "change_at" (.cons (.var 2) (.cons (.var 7) .nil))) (.cst (.int 1))) .nil) wo)
noncomputable def Nc:E:=(.comp false .seq (.cons (.var 8) .nil) ["_law_thing","_law_before","_law_after"] [] .nil (.tup (.cons (.var 0) (.cons (.var 2) (.cons (.var 1) .nil)))))
noncomputable def F8:E:=(.cmp .ne (.idx (.var 1) (.cst (.int 0))) (.idx (.var 1) (.cst (.int 1))))
noncomputable def Nd:E:=(.comp false .itm (.cons (.dk .it (.var 9)) .nil) ["_law_thing","_law_both"] [] (.cons F8 .nil) (.tup (.cons (.var 0) (.cons (.var 1) .nil))))
noncomputable def Nf:E:=(.comp false .seq (.cons (.var 8) .nil) ["_law_row_here"] [] .nil (.tup (.cons (.idx (.var 0) (.cst (.int 0))) (.cons (.slc (.var 0) (.cons (.cst (.int 1)) .nil) .nil) .nil))))
noncomputable def CW:E:=(.chain .lt .le (.var 1) (.var 0) (.var 2))
noncomputable def CY:E:=(.comp false .seq (.cons (.call "changes" (.cons (.var 1) (.cons (.idx (.var 0) (.cst (.int 0))) .nil))) .nil) ["_law_at"] [(2,"_law_one"),(3,"_law_other")] (.cons CW .nil) (.var 0))
noncomputable def Ng:E:=(.comp false .seq (.cons (.var 8) .nil) ["_law_row_here"] [(2,"_law_tape"),(4,"_law_one"),(5,"_law_other")] (.cons (.cmp .eq CY (.lst false .nil)) .nil) (.var 0))
noncomputable def Nh:E:=(.and (.cmp .le (.var 14) (.var 5)) (.and (.cmp .eq (.call "differing" (.cons (.var 2) (.cons (.var 14) (.cons (.var 5) .nil)))) (.lst false .nil)) (.cmp .eq (.call "first_other" (.cons (.var 2) (.cons (.var 14) .nil))) (.var 14))))
noncomputable def CZ:S:=(.seq (.set 14 (.call "first_other" (.cons (.var 2) (.cons (.var 5) .nil))))
 (.ret Nh))
noncomputable def C1:S:=(.seq (.ife (.cmp .ne Ng (.lst false .nil)) (.ret (.cst (.bl false))) .nil)
 CZ)
noncomputable def GW:S:=(.seq (.ife (.or (.dne (.var 13) (.dk .of Nf)) (.cmp .ne (.call "differing" (.cons (.var 2) (.cons (.var 4) (.cons (.var 4) .nil)))) (.lst false .nil))) (.ret (.cst (.bl false))) .nil)
 C1)
noncomputable def C2:S:=(.seq (.set 13 (.dk .of Nd))
 GW)
noncomputable def C3:S:=(.seq (.set 9 .dnew)
 (.seq (.for [(7,"_law_at")] .rng2 (.cons (.bin .add (.var 4) (.cst (.int 1))) (.cons (.bin .add (.var 5) (.cst (.int 1))) .nil)) pO)
 C2))
noncomputable def C4:S:=(.seq (.ife (.cmp .ne (.var 6) (.meth (.var 2) "at" (.cons (.var 5) .nil))) (.ret (.cst (.bl false))) .nil)
 (.seq (.set 8 (.call "differing" (.cons (.var 2) (.cons (.var 4) (.cons (.var 5) .nil)))))
 (.seq (.ife (.cmp .ne (.call "differing" (.cons (.var 2) (.cons (.var 5) (.cons (.var 4) .nil)))) Nc) (.ret (.cst (.bl false))) .nil)
 C3)))
noncomputable def J4:S:=(.seq (.set 6 (.meth (.var 2) "at" (.cons (.var 5) .nil)))
 (.seq (.for [(7,"_law_at")] .rng3 (.cons (.var 5) (.cons (.var 4) (.cons (.neg (.cst (.int 1))) .nil))) wu)
 (.seq (.for [(7,"_law_at")] .rng2 (.cons (.bin .add (.var 4) (.cst (.int 1))) (.cons (.bin .add (.var 5) (.cst (.int 1))) .nil)) pN)
 C4)))
noncomputable def jW:Fn:=⟨["_law_script"],["_law_script","_law_program_here","_law_tape","_law_end","_law_one","_law_other","_law_state","_law_at","_law_told","_law_worths","_law_thing","_law_before","_law_after","_law_whole","_law_first"],
 (.seq (.set 1 (.call "_law_program" (.cons (.var 0) (.cons (.cst (.int 20)) .nil))))
 (.seq (.set 2 (.make "Tape" (.cons (.var 1) (.cons (.call "_law_asked" (.cons (.var 0) (.cons (.cst (.int 450)) .nil))) (.cons (.bin .add (.cst (.int 1)) (.call "_law_drawn" (.cons (.var 0) (.cons (.cst (.int 441)) (.cons (.cst (.int 5)) .nil))))) (.cons (.call "_law_drawn" (.cons (.var 0) (.cons (.cst (.int 440)) (.cons (.cst (.int 15)) .nil)))) .nil))))))
 (.seq (.set 3 (.meth (.var 2) "end" .nil))
 (.seq (.unp [(4,"_law_one"),(5,"_law_other")] (.bi .sorted false (.cons (.lst false (.cons (.call "_law_drawn" (.cons (.var 0) (.cons (.cst (.int 442)) (.cons (.bin .add (.var 3) (.cst (.int 1))) .nil)))) (.cons (.call "_law_drawn" (.cons (.var 0) (.cons (.cst (.int 443)) (.cons (.bin .add (.var 3) (.cst (.int 1))) .nil)))) .nil))) .nil)))
 J4))))⟩structure Lw41 (T:FK->Option Fn):Prop where
 lw:Lw T
 program:T "_law_program"=some e9
 law:T "law"=some jW
structure jc (T:FK->Option Fn) (G:Str->Option W):Prop where
 P:TpP T G
 M:TpE T
 F:TpF T
 C:ThP T
 D:DfP T
 L:LdP T G
 R:TpR T
 Q:ChP T
noncomputable def kth:Th->Ky
 | .nm x=>.inr x.w
 | .cl i _=>.inl i
theorem GX (th:Th):jB th.enc=some (kth th):=by cases th<;>rfl
theorem Ni (th:Th):kH (kth th)=th.enc:=by cases th<;>rfl
theorem sW {a b:Th} (h:kth a=kth b):a=b:=by
 cases a with
 | nm x=>cases b with
  | nm y=>rw[Nm.M6 (Sum.inr.inj h)]
  | cl j hj=>cases h
 | cl i hi=>cases b with
  | nm y=>cases h
  | cl j hj =>
   have:i=j:=by have:=Sum.inl.inj h;lia
   subst this;rfl
noncomputable def eB (a:St) (f:Th->Int) (th:Th):D:=.tup [.int (th.val a),.int (f th)]
noncomputable def eM (a:St) (f:Th->Int) (l:List Th):List (Ky×D):=l.map fun th=>(kth th,eB a f th)
open Classical in
noncomputable def uX (f:Th->Int) (th:Th) (v:Int):Th->Int:=fun y=>if y=th then v else f y
open Classical in
noncomputable def qo (l:List Th) (th:Th):List Th:=if th∈l then l else l++[th]
theorem mP (f:Th->Int) (th:Th) (v:Int):uX f th v th=v:=if_pos rfl
theorem lT {f:Th->Int}{th y:Th}{v:Int} (h:y≠th):uX f th v y=f y:=if_neg h
theorem sX (a:St) (f:Th->Int) (th:Th):∀ l:List Th,(th∈l->dZ (eM a f l) (kth th)=some (eB a f th))/\(th∉l->dZ (eM a f l) (kth th)=none)
 | []=>⟨fun h=>absurd h (by simp),fun _=>rfl⟩
 | y :: l=>by
  obtain ⟨i1,i2⟩:=sX a f th l
  by_cases c:kth y=kth th
  ·have e:=sW c
   subst e
   exact ⟨fun _=>by simp[eM,dZ],fun z=>absurd RE z⟩
  ·have ne:th≠y:=fun z=>c (by rw[z])
   have st:dZ (eM a f (y :: l)) (kth th)=dZ (eM a f l) (kth th):=by simp[eM,dZ,Tz,c]
   rw[st]
   exact ⟨fun z=>i1 ((List.mem_cons.mp z).resolve_left ne),fun z=>i2 fun q=>z (Ru _ q)⟩
theorem wA (a:St) (f:Th->Int) (th:Th) (l:List Th):((eM a f l).any fun kv=>decide (kv.1=kth th))=true↔th∈l:=by
 rw[List.any_eq_true]
 constructor
 ·rintro ⟨q,hq,e⟩
  obtain ⟨y,hy,rfl⟩:=List.mem_map.mp hq
  rw[← sW (of_decide_eq_true e)];exact hy
 ·intro h
  exact ⟨_,List.mem_map.mpr ⟨th,h,rfl⟩,by simp⟩
theorem J5 (a:St) (f:Th->Int) (th:Th) (v:Int) (l:List Th):gU (eM a f l) (kth th) (.tup [.int (th.val a),.int v])=eM a (uX f th v) (qo l th):=by
 unfold gU qo
 by_cases c:th∈l
 ·rw[if_pos ((wA a f th l).mpr c),if_pos c]
  unfold eM
  rw[Tv]
  refine SE fun y hy=>?_
  show (if kth y=kth th then _ else _)=_
  by_cases e:y=th
  ·subst e
   rw[if_pos rfl,eB,mP]
  ·rw[if_neg (fun z=>e (sW z)),eB,eB,lT e]
 ·rw[if_neg (fun z=>c ((wA a f th l).mp z)),if_neg c]
  unfold eM
  rw[VU]
  congr 1
  ·refine SE fun y hy=>?_
   have e:y≠th:=fun z=>c (z ▸ hy)
   rw[eB,eB,lT e]
  ·show _=[(kth th,eB a (uX f th v) th)]
   rw[eB,mP]
theorem F9 {l:List Th} (h:l.Nodup) (th:Th):(qo l th).Nodup:=by
 unfold qo
 split
 ·exact h
 ·rename_i c
  exact List.nodup_append.mpr ⟨h,by simp,fun a ha b hb=>by
   have:b=th:=by simpa using hb
   subst this
   exact fun e=>c (e ▸ ha)⟩
theorem uY {l:List Th}{th y:Th}:y∈qo l th↔y∈l\/y=th:=by
 unfold qo
 split
 ·rename_i c
  exact ⟨.inl,fun h=>h.elim id fun e=>e ▸ c⟩
 ·simp
structure DM (a:St) (f:Th->Int) (l:List Th):Prop where
 nd:l.Nodup
 out:∀ th,th∉l->f th=th.val a
theorem DM.put {a:St}{f:Th->Int}{l:List Th} (d:DM a f l) (th:Th) (v:Int):DM a (uX f th v) (qo l th) :=
 ⟨F9 d.nd th,fun y hy=>by
  have ne:y≠th:=fun z=>hy (uY.mpr (.inr z))
  rw[lT ne]
  exact d.out y fun z=>hy (uY.mpr (.inl z))⟩
theorem yi {α:Type}:∀ (xs ys:List α),xs.Nodup->(∀ x∈xs,x∈ys)->xs.length<=ys.length
 | [],_,_,_=>Sz _
 | x :: xs,ys,h,q=>by
  obtain ⟨s,t,rfl⟩:=List.append_of_mem (q x RE)
  have hn:=List.nodup_cons.mp h
  have ih:=yi xs (s++t) hn.2 fun y hy=>by
   have:=q y (Ru _ hy)
   rcases List.mem_append.mp this with z | z
   ·exact TR _ z
   ·rcases List.mem_cons.mp z with rfl | z
    ·exact absurd hy hn.1
    ·exact Sa _ z
  simp only[RT,RO] at ih ⊢
  lia
theorem pP {l:List Th} (h:l.Nodup):l.length<=10:=yi l things h fun th _=>jy th
theorem qT:things.Nodup:=by
 unfold things
 simp[List.nodup_cons]
open Classical in
theorem sY (a b:St):∀ l:List Th,dfs a b l=(l.filter fun th=>decide (¬ th.val a=th.val b)).map fun th=>.tup [th.enc,.int (th.val a),.int (th.val b)]
 | []=>rfl
 | th :: r=>by
  rw[dfs,sY a b r,List.filter_cons]
  by_cases c:th.val a=th.val b
  ·simp[c]
  ·simp[c]
theorem C6 (a:St) (f:Th->Int) {l2:List Th}:∀ (l1:List Th),(∀ th∈l1,th∈l2)->vL (eM a f l2) (eM a f l1)=true
 | [],_=>rfl
 | th :: r,h=>by
  show (match dZ (eM a f l2) (kth th) with | some y=>eqv (eB a f th) y&&vL (eM a f l2) (eM a f r) | none=>false)=true
  rw[(sX a f th l2).1 (h th RE)]
  show (eqv (eB a f th) (eB a f th)&&vL (eM a f l2) (eM a f r))=true
  rw[jV,C6 a f r fun y hy=>h y (Ru _ hy)];rfl
theorem J6 (a:St) (f:Th->Int) {l1 l2:List Th} (n1:l1.Nodup) (n2:l2.Nodup) (h:∀ th,th∈l1↔th∈l2):eqK (eM a f l1) (eM a f l2)=true:=by
 unfold eqK
 have e:l1.length=l2.length:=Nat.le_antisymm (yi _ _ n1 fun x hx=>(h x).mp hx) (yi _ _ n2 fun x hx=>(h x).mpr hx)
 rw[C6 a f l1 fun th ht=>(h th).mp ht]
 simp[eM,e]
theorem uZ (a:St) (f:Th->Int):∀ l:List Th,gZ (l.map fun th=>.tup [th.enc,eB a f th])=some (eM a f l)
 | []=>rfl
 | th :: r=>by
  have ih:=uZ a f r
  show (xj (.tup [th.enc,eB a f th])).bind (fun p=>(gZ (r.map fun th=>.tup [th.enc,eB a f th])).map (p :: ·))=_
  rw[ih]
  show ((jB th.enc).map fun y=>(y,eB a f th)).bind _=_
  rw[GX];rfl
theorem yj (a:St) (f:Th->Int):∀ (l m:List Th),(m++l).Nodup->(eM a f l).foldl (fun c p=>gU c p.1 p.2) (eM a f m)=eM a f (m++l)
 | [],m,_=>by simp[eM]
 | th :: r,m,h=>by
  have nin:th∉m:=fun z=>by
   rw[List.nodup_append] at h
   exact h.2.2 th z th RE rfl
  have e1:gU (eM a f m) (kth th) (eB a f th)=eM a f (m++[th]):=by
   unfold gU
   rw[if_neg (fun z=>nin ((wA a f th m).mp z))]
   simp[eM]
  show (eM a f r).foldl _ (gU (eM a f m) (kth th) (eB a f th))=_
  rw[e1,yj a f r (m++[th]) (by simpa using h)]
  simp
theorem GY (a:St) (f:Th->Int) {l:List Th} (h:l.Nodup) (hh:HH):kDk .of (.p (.lst (l.map fun th=>.tup [th.enc,eB a f th]))) hh=some (.k (.l (eM a f l)),hh):=by
 rw[vK,uZ]
 have hl:=pP h
 show (if (eM a f l).length<=100000 then _ else _)=_
 rw[if_pos (by simp[eM];lia)]
 have:=yj a f l [] (by simpa using h)
 rw[show eM a f []=[] from rfl,Tt] at this
 rw[this]
theorem yk {h:HH}{n r:Nat}{q:Str×List (Str×W)}{xs:List (Ky×D)} (e:oat h n=some q) (e':dat h r=some xs):n≠r:=by
 rintro rfl
 unfold oat at e
 unfold dat at e'
 cases g:h[n]? with
 | none=>rw[g] at e;exact gi e
 | some c=>rw[g] at e e';cases c<;>simp at e e'
theorem yl {h:HH}{n r:Nat}{q:List D}{xs:List (Ky×D)} (e:lat h n=some q) (e':dat h r=some xs):n≠r:=by
 rintro rfl
 unfold lat at e
 unfold dat at e'
 cases g:h[n]? with
 | none=>rw[g] at e;exact gi e
 | some c=>rw[g] at e e';cases c<;>simp at e e'
theorem C7 {h:HH}{n:Nat}{q:List (Ky×D)} (e:dat h n=some q):n < h.length:=by
 unfold dat at e
 rcases R0 n h.length with z | z
 ·exact z
 ·rw[RC z] at e;exact gi e
theorem Ga {h:HH}{n:Nat} (hn:n < h.length) (c:Cl):dat (h.set n c) n=tX c:=by
 unfold dat;rw[Sg hn];rfl
theorem Go.dct {n:Nat}{h h':HH}{r r' q:Nat}{t t':Tp}{M:List (Ky×D)} (x:Go n h r t h' r' t') (l:dat h q=some M):dat h' q=some M:=by
 have qn:q≠n:=(yk x.a.ob l).symm
 have qr:q≠r:=(yl x.a.li l).symm
 unfold dat
 rw[x.fr q qn qr (C7 l)]
 exact l
theorem TAt.putD {h:HH}{n r q:Nat}{t:Tp} (a:TAt h n r t) {M:List (Ky×D)} (l:dat h q=some M) (c:Cl):TAt (h.set q c) n r t :=
 ⟨(pJ (yk a.ob l) c).trans a.ob,(kQ (yl a.li l) c).trans a.li⟩
inductive Od (n e gv:Nat) (t:Tp) (q:Nat) (c:Option (List (Ky×D))) (h:HH):Prop where
 | mk (r:Nat) (t':Tp) (a:TAt h n r t') (I:TI t' e gv) (s:Sm8 t t') (d:∀ M,c=some M->dat h q=some M):Od n e gv t q c h
section
variable {T:FK->Option Fn}{G:Str->Option W}
theorem C8 (A:jc T G) (k:Nat) {n e gv q:Nat}{t:Tp}{c:Option (List (Ky×D))}{h:HH} (o:Od n e gv t q c h) (m:Nat) (hm:m<=e) :
 ∃ fs h',oat h n=some (RM "Tape",fs)/\d7 "at" fs=none/\runN T G (k+11) (.m "Tape" "at") [.o n,.p (.int (m:Int))] h=some (.p (itr t.p t.asked m).enc,h')/\Od n e gv t q c h':=by
 obtain ⟨r,t',a,I,s,d⟩:=o
 obtain ⟨h1,r1,t1,b1,g1,I1,s1,f1⟩:=kR A.P k a I m hm
 rw[s.p,s.asked] at b1
 exact ⟨_,h1,a.ob,zR _ _,b1,r1,t1,g1.b,I1,s.trans s1,fun M hM=>g1.dct (d M hM)⟩
theorem wB (A:jc T G) (k:Nat) {n e gv q:Nat}{t:Tp}{c:Option (List (Ky×D))}{h:HH} (o:Od n e gv t q c h) (m:Nat) (hm:m+1<=e) :
 ∃ h',runN T G (k+12) "change_at" [.o n,.p (.int ((m+1:Nat):Int))] h=some (.p (chg (itr t.p t.asked m) (itr t.p t.asked (m+1))),h')/\Od n e gv t q c h':=by
 obtain ⟨r,t',a,I,s,d⟩:=o
 obtain ⟨h1,r1,t1,b1,g1,I1,s1⟩:=qm A.P A.C A.D A.L k a I m hm
 rw[s.p,s.asked] at b1
 exact ⟨h1,b1,r1,t1,g1.b,I1,s.trans s1,fun M hM=>g1.dct (d M hM)⟩
theorem m8 {n e gv q:Nat}{t:Tp}{c:Option (List (Ky×D))}{h:HH} (o:Od n e gv t q c h) (m:Nat) (hm:m<=e):(itr t.p t.asked m).ok:=by
 obtain ⟨r,t',a,I,s,d⟩:=o
 have:=(jt I.ok I.ask I.run m hm).ok
 rw[s.p,s.asked] at this
 exact this
theorem sZ (A:jc T G) (k:Nat) {n e gv q:Nat}{t:Tp}{c:Option (List (Ky×D))}{h:HH} (o:Od n e gv t q c h) (i j:Nat) (hi:i<=e) (hj:j<=e) :
 ∃ h',runN T G (k+12) "differing" [.o n,.p (.int (i:Int)),.p (.int (j:Int))] h=some (.p (.lst (dfs (itr t.p t.asked i) (itr t.p t.asked j) things)),h')/\Od n e gv t q c h':=by
 have o1:=m8 o i hi
 have o2:=m8 o j hj
 obtain ⟨r,t',a,I,s,d⟩:=o
 obtain ⟨h1,r1,t1,b1,g1,I1,s1,f1⟩:=kR A.P k a I i hi
 obtain ⟨h2,r2,t2,b2,g2,I2,s2,f2⟩:=kR A.P k g1.b I1 j hj
 rw[s1.p,s1.asked] at b2
 rw[s.p,s.asked] at b1 b2
 have b3:=jA A.P A.C A.D (k+6) o1 o2 h2
 have G2:=g1.trans g2
 refine ⟨h2,?_,r2,t2,g2.b,I2,s.trans (s1.trans s2),fun M hM=>G2.dct (d M hM)⟩
 rw[run_eq A.D.differing rfl]
 have fn:=fun w=>iF G2 w
 simp[gO,a.ob,zR,b1,g1.b.ob,b2,b3,fn]
theorem J7 (A:jc T G) (k:Nat) {n e gv q:Nat}{t:Tp}{c:Option (List (Ky×D))}{h:HH} (o:Od n e gv t q c h) (th:Th) :
 runN T G (k+13) "changes" [.o n,.p th.enc] h=some (.p (.lst (chD (wv t th) e)),h):=by
 obtain ⟨r,t',a,I,s,d⟩:=o
 have b:=uW A.P A.C A.R A.Q k a I th
 rw[M8 s] at b
 exact b
theorem GZ (A:jc T G) (k:Nat) {n e gv q:Nat}{t:Tp}{c:Option (List (Ky×D))}{h:HH} (o:Od n e gv t q c h) (m:Nat) (hm:m<=e) :
 ∃ h',runN T G (k+13) "first_other" [.o n,.p (.int (m:Int))] h=some (.p (.int ((fo t.p t.asked m:Nat):Int)),h')/\Od n e gv t q c h':=by
 obtain ⟨r,t',a,I,s,d⟩:=o
 obtain ⟨j,h1,r1,t1,b1,j1,j2,j3,g1,I1,s1⟩:=ny A.P A.F A.D k a I m hm
 have ej:=M9 j1 j2 j3
 rw[s.p,s.asked] at ej
 rw[ej]
 exact ⟨h1,b1,r1,t1,g1.b,I1,s.trans s1,fun M hM=>g1.dct (d M hM)⟩
theorem zW (a:Int) (d:Nat):down a (d+1)=.int a :: down (a - 1) d:=by
 unfold down
 rw[Ud,RL,Tv]
 congr 1
 ·simp
 ·refine SE fun i _=>?_
  show D.int _=D.int _
  congr 1
  show a - ((i+1:Nat):Int)=_
  lia
theorem Nj (A:jc T G) (k:Nat) (w0 w1 w3 w4 w5:W) (rest:Sl) {n e gv q:Nat}{t:Tp}{c:Option (List (Ky×D))}{h:HH} (o:Od n e gv t q c h) (m:Nat) (hm:m+1<=e) :
 ∃ h',evS (runN T G (k+14)) G wu (some w0 :: some w1 :: some (.o n) :: some w3 :: some w4 :: some w5 :: some (.p (itr t.p t.asked (m+1)).enc) :: some (.p (.int ((m+1:Nat):Int))) :: rest) h =
  some (.nx (some w0 :: some w1 :: some (.o n) :: some w3 :: some w4 :: some w5 :: some (.p (itr t.p t.asked m).enc) :: some (.p (.int ((m+1:Nat):Int))) :: rest) h')/\Od n e gv t q c h':=by
 obtain ⟨h1,b1,o1⟩:=wB A (k+2) o m hm
 have b2:=sU A.P A.L (k+9) (m8 o m (by lia)) (m8 o (m+1) hm) h1
 obtain ⟨fs,h3,ob,ma,b3,o3⟩:=C8 A (k+3) o1 m (by lia)
 have ne:=ne_self (sF 98 (itr t.p t.asked m))
 refine ⟨h3,?_,o3⟩
 have em:((m+1:Nat):Int) - 1=(m:Int):=by lia
 generalize ((m+1:Nat):Int)=z at *
 generalize chg (itr t.p t.asked m) (itr t.p t.asked (m+1))=C at *
 generalize (itr t.p t.asked m).enc=E1 at *
 generalize (itr t.p t.asked (m+1)).enc=E2 at *
 simp[-nC,wu,b1,b2,ob,ma,em,b3,ne]
theorem u0 (A:jc T G) (k:Nat) (w0 w1 w3 w4 w5:W) (rest:Sl) {n e gv q:Nat}{t:Tp}{c:Option (List (Ky×D))}:∀ (d i:Nat) (x7:Option W) (h:HH),Od n e gv t q c h->i+d<=e →
 ∃ y7 h',dJ (evS (runN T G (k+14)) G wu) [(7,"_law_at")] (down ((i+d:Nat):Int) d) (some w0 :: some w1 :: some (.o n) :: some w3 :: some w4 :: some w5 :: some (.p (itr t.p t.asked (i+d)).enc) :: x7 :: rest) h =
  some (.nx (some w0 :: some w1 :: some (.o n) :: some w3 :: some w4 :: some w5 :: some (.p (itr t.p t.asked i).enc) :: y7 :: rest) h')/\Od n e gv t q c h'
 | 0,i,x7,h,o,_=>⟨x7,h,rfl,o⟩
 | d+1,i,x7,h,o,hd=>by
  obtain ⟨h1,b1,o1⟩:=Nj A k w0 w1 w3 w4 w5 rest o (i+d) hd
  obtain ⟨y7,h2,b2,o2⟩:=u0 A k w0 w1 w3 w4 w5 rest d i (some (.p (.int ((i+d+1:Nat):Int)))) h1 o1 (by lia)
  refine ⟨y7,h2,?_,o2⟩
  have e1:((i+(d+1):Nat):Int)=((i+d+1:Nat):Int):=rfl
  have e2:((i+d+1:Nat):Int) - 1=((i+d:Nat):Int):=by lia
  rw[e1,zW,e2]
  have st:∀ l,dJ (evS (runN T G (k+14)) G wu) [(7,"_law_at")] (.int ((i+d+1:Nat):Int) :: l) (some w0 :: some w1 :: some (.o n) :: some w3 :: some w4 :: some w5 :: some (.p (itr t.p t.asked (i+(d+1))).enc) :: x7 :: rest) h =
   g9 (evS (runN T G (k+14)) G wu (some w0 :: some w1 :: some (.o n) :: some w3 :: some w4 :: some w5 :: some (.p (itr t.p t.asked (i+d+1)).enc) :: some (.p (.int ((i+d+1:Nat):Int))) :: rest) h) (dJ (evS (runN T G (k+14)) G wu) [(7,"_law_at")] l):=fun l=>rfl
  rw[st,b1,eY,b2]
theorem Nk (A:jc T G) (k:Nat) (w0 w1 w3 w4 w5:W) (rest:Sl) {n e gv q:Nat}{t:Tp}{c:Option (List (Ky×D))}{h:HH} (o:Od n e gv t q c h) (m:Nat) (hm:m+1<=e) :
 ∃ h',evS (runN T G (k+14)) G pN (some w0 :: some w1 :: some (.o n) :: some w3 :: some w4 :: some w5 :: some (.p (itr t.p t.asked m).enc) :: some (.p (.int ((m+1:Nat):Int))) :: rest) h =
  some (.nx (some w0 :: some w1 :: some (.o n) :: some w3 :: some w4 :: some w5 :: some (.p (itr t.p t.asked (m+1)).enc) :: some (.p (.int ((m+1:Nat):Int))) :: rest) h')/\Od n e gv t q c h':=by
 obtain ⟨h1,b1,o1⟩:=wB A (k+2) o m hm
 have b2:=wm A.P A.L (k+9) (m8 o m (by lia)) (m8 o (m+1) hm) h1
 refine ⟨h1,?_,o1⟩
 generalize ((m+1:Nat):Int)=z at *
 generalize chg (itr t.p t.asked m) (itr t.p t.asked (m+1))=C at *
 generalize (itr t.p t.asked m).enc=E1 at *
 generalize (itr t.p t.asked (m+1)).enc=E2 at *
 simp[pN,b1,b2]
theorem C9 (A:jc T G) (k:Nat) (w0 w1 w3 w4 w5:W) (rest:Sl) {n e gv q:Nat}{t:Tp}{c:Option (List (Ky×D))}:∀ (d i:Nat) (x7:Option W) (h:HH),Od n e gv t q c h->i+d<=e →
 ∃ y7 h',dJ (evS (runN T G (k+14)) G pN) [(7,"_law_at")] (upto ((i+1:Nat):Int) d) (some w0 :: some w1 :: some (.o n) :: some w3 :: some w4 :: some w5 :: some (.p (itr t.p t.asked i).enc) :: x7 :: rest) h =
  some (.nx (some w0 :: some w1 :: some (.o n) :: some w3 :: some w4 :: some w5 :: some (.p (itr t.p t.asked (i+d)).enc) :: y7 :: rest) h')/\Od n e gv t q c h'
 | 0,i,x7,h,o,_=>⟨x7,h,rfl,o⟩
 | d+1,i,x7,h,o,hd=>by
  obtain ⟨h1,b1,o1⟩:=Nk A k w0 w1 w3 w4 w5 rest o i (by lia)
  obtain ⟨y7,h2,b2,o2⟩:=C9 A k w0 w1 w3 w4 w5 rest d (i+1) (some (.p (.int ((i+1:Nat):Int)))) h1 o1 (by lia)
  refine ⟨y7,h2,?_,o2⟩
  have e2:((i+1:Nat):Int)+1=((i+1+1:Nat):Int):=by lia
  rw[pK,e2,show i+(d+1)=i+1+d by lia]
  have st:∀ l,dJ (evS (runN T G (k+14)) G pN) [(7,"_law_at")] (.int ((i+1:Nat):Int) :: l) (some w0 :: some w1 :: some (.o n) :: some w3 :: some w4 :: some w5 :: some (.p (itr t.p t.asked i).enc) :: x7 :: rest) h =
   g9 (evS (runN T G (k+14)) G pN (some w0 :: some w1 :: some (.o n) :: some w3 :: some w4 :: some w5 :: some (.p (itr t.p t.asked i).enc) :: some (.p (.int ((i+1:Nat):Int))) :: rest) h) (dJ (evS (runN T G (k+14)) G pN) [(7,"_law_at")] l):=fun l=>rfl
  rw[st,b1,eY,b2]
theorem Od.wC {n e gv q:Nat}{t:Tp}{M M':List (Ky×D)}{h:HH} (o:Od n e gv t q (some M) h):Od n e gv t q (some M') (h.set q (.d M')):=by
 obtain ⟨r,t',a,I,s,d⟩:=o
 have dd:=d M rfl
 exact ⟨r,t',a.putD dd _,I,s,fun N hN=>by cases hN;rw[Ga (C7 dd)];rfl⟩
theorem Nl (F:FK->List W->HH->Option (W×HH)) (w0 w1 w2 w3 w4 w5 w6 w7 w8:W) (rest:Sl) {q:Nat}{h:HH}{a:St}{f:Th->Int}{l:List Th} (d:DM a f l) (th:Th) (b v:Int) (hb:f th=b) (dd:dat h q=some (eM a f l)) :
 evS F G wo (some w0 :: some w1 :: some w2 :: some w3 :: some w4 :: some w5 :: some w6 :: some w7 :: some w8 :: some (.r q) :: some (.p th.enc) :: some (.p (.int b)) :: some (.p (.int v)) :: rest) h =
  some (.nx (some w0 :: some w1 :: some w2 :: some w3 :: some w4 :: some w5 :: some w6 :: some w7 :: some w8 :: some (.r q) :: some (.p th.enc) :: some (.p (.int b)) :: some (.p (.int v)) :: rest) (h.set q (.d (eM a (uX f th v) (qo l th))))):=by
 have g:dF ((dZ (eM a f l) (kth th)).getD (.tup [.int b,.int 0])) (.int 0)=some (.int (th.val a)):=by
  by_cases c:th∈l
  ·rw[(sX a f th l).1 c];rfl
  ·rw[(sX a f th l).2 c,← d.out th c,hb];rfl
 have hl:=pP d.nd
 have ln:(eM a f l).length < 100000:=by simp[eM];lia
 have pt:=J5 a f th v l
 have kd:=GX th
 generalize th.enc=TH at *
 generalize eM a f l=M at *
 simp[-gk,wo,dd,kd,g,pt,ln]
theorem wD (F:FK->List W->HH->Option (W×HH)) (w0 w1 w2 w3 w4 w5 w6 w7 w8:W) (rest:Sl) {n e gv q:Nat}{t:Tp}{a c c':St}:∀ (ths:List Th) (f:Th->Int) (l:List Th) (x10 x11 x12:Option W) (h:HH),ths.Nodup->DM a f l->(∀ th∈ths,f th=th.val c)->Od n e gv t q (some (eM a f l)) h →
 ∃ f' l' y10 y11 y12 h',dJ (evS F G wo) [(10,"_law_thing"),(11,"_law_before"),(12,"_law_after")] (dfs c c' ths) (some w0 :: some w1 :: some w2 :: some w3 :: some w4 :: some w5 :: some w6 :: some w7 :: some w8 :: some (.r q) :: x10 :: x11 :: x12 :: rest) h =
  some (.nx (some w0 :: some w1 :: some w2 :: some w3 :: some w4 :: some w5 :: some w6 :: some w7 :: some w8 :: some (.r q) :: y10 :: y11 :: y12 :: rest) h')/\DM a f' l'/\(∀ th∈ths,f' th=th.val c')/\(∀ th,th∉ths->f' th=f th)/\Od n e gv t q (some (eM a f' l')) h'
 | [],f,l,x10,x11,x12,h,_,dm,_,o=>⟨f,l,x10,x11,x12,h,rfl,dm,fun th ht=>absurd ht (by simp),fun _ _=>rfl,o⟩
 | th :: r,f,l,x10,x11,x12,h,nd,dm,hf,o=>by
  have nr:=List.nodup_cons.mp nd
  by_cases cc:th.val c=th.val c'
  ·obtain ⟨f',l',y10,y11,y12,h',b,d',g1,g2,o'⟩:=wD F w0 w1 w2 w3 w4 w5 w6 w7 w8 rest r f l x10 x11 x12 h nr.2 dm (fun y hy=>hf y (Ru _ hy)) o
   refine ⟨f',l',y10,y11,y12,h',by rw[dfs,if_pos cc];exact b,d',fun y hy=>?_,fun y hy=>g2 y fun z=>hy (Ru _ z),o'⟩
   rcases List.mem_cons.mp hy with rfl | hy
   ·rw[g2 _ nr.1,hf _ RE,cc]
   ·exact g1 y hy
  ·have dd:dat h q=some (eM a f l):=by
    obtain ⟨_,_,_,_,_,d⟩:=o
    exact d _ rfl
   have b1:=Nl (G:=G) F w0 w1 w2 w3 w4 w5 w6 w7 w8 rest dm th (th.val c) (th.val c') (hf th RE) dd
   have dm':=dm.put th (th.val c')
   obtain ⟨f',l',y10,y11,y12,h',b,d',g1,g2,o'⟩:=wD F w0 w1 w2 w3 w4 w5 w6 w7 w8 rest r (uX f th (th.val c')) (qo l th) (some (.p th.enc)) (some (.p (.int (th.val c)))) (some (.p (.int (th.val c')))) _ nr.2 dm' (fun y hy=>by
    rw[lT (y:=y) (th:=th) (fun z=>nr.1 (by rw[← z];exact hy))];exact hf y (Ru _ hy)) (o.wC (M':=eM a (uX f th (th.val c')) (qo l th)))
   refine ⟨f',l',y10,y11,y12,h',?_,d',fun y hy=>?_,fun y hy=>?_,o'⟩
   ·rw[dfs,if_neg cc]
    have st:∀ l2,dJ (evS F G wo) [(10,"_law_thing"),(11,"_law_before"),(12,"_law_after")] (.tup [th.enc,.int (th.val c),.int (th.val c')] :: l2) (some w0 :: some w1 :: some w2 :: some w3 :: some w4 :: some w5 :: some w6 :: some w7 :: some w8 :: some (.r q) :: x10 :: x11 :: x12 :: rest) h =
     g9 (evS F G wo (some w0 :: some w1 :: some w2 :: some w3 :: some w4 :: some w5 :: some w6 :: some w7 :: some w8 :: some (.r q) :: some (.p th.enc) :: some (.p (.int (th.val c))) :: some (.p (.int (th.val c'))) :: rest) h) (dJ (evS F G wo) [(10,"_law_thing"),(11,"_law_before"),(12,"_law_after")] l2):=fun l2=>rfl
    rw[st,b1,eY,b]
   ·rcases List.mem_cons.mp hy with rfl | hy
    ·rw[g2 _ nr.1,mP]
    ·exact g1 y hy
   ·rw[g2 y fun z=>hy (Ru _ z),lT (y:=y) (th:=th) fun z=>hy (by rw[z];exact RE)]
theorem J8 (A:jc T G) (k:Nat) (w0 w1 w3 w4 w5 w6 w8:W) (rest:Sl) {n e gv q:Nat}{t:Tp}{a:St}{f:Th->Int}{l:List Th}{h:HH} (x10 x11 x12:Option W) (dm:DM a f l) (o:Od n e gv t q (some (eM a f l)) h) (m:Nat) (hm:m+1<=e) (hf:∀ th:Th,f th=th.val (itr t.p t.asked m)) :
 ∃ f' l' y10 y11 y12 h',evS (runN T G (k+14)) G pO (some w0 :: some w1 :: some (.o n) :: some w3 :: some w4 :: some w5 :: some w6 :: some (.p (.int ((m+1:Nat):Int))) :: some w8 :: some (.r q) :: x10 :: x11 :: x12 :: rest) h =
  some (.nx (some w0 :: some w1 :: some (.o n) :: some w3 :: some w4 :: some w5 :: some w6 :: some (.p (.int ((m+1:Nat):Int))) :: some w8 :: some (.r q) :: y10 :: y11 :: y12 :: rest) h')/\DM a f' l'/\(∀ th:Th,f' th=th.val (itr t.p t.asked (m+1)))/\Od n e gv t q (some (eM a f' l')) h':=by
 obtain ⟨h1,b1,o1⟩:=wB A (k+2) o m hm
 obtain ⟨f',l',y10,y11,y12,h2,b2,d2,g1,g2,o2⟩:=wD (G:=G) (runN T G (k+14)) w0 w1 (.o n) w3 w4 w5 w6 (.p (.int ((m+1:Nat):Int))) w8 rest (c:=itr t.p t.asked m) (c':=itr t.p t.asked (m+1)) things f l x10 x11 x12 h1 qT dm (fun th _=>hf th) o1
 refine ⟨f',l',y10,y11,y12,h2,?_,d2,fun th=>g1 th (jy th),o2⟩
 have i1:dF (chg (itr t.p t.asked m) (itr t.p t.asked (m+1))) (.int 1)=some (.tup (dfs (itr t.p t.asked m) (itr t.p t.asked (m+1)) things)):=rfl
 generalize ((m+1:Nat):Int)=z at *
 generalize chg (itr t.p t.asked m) (itr t.p t.asked (m+1))=C at *
 generalize dfs (itr t.p t.asked m) (itr t.p t.asked (m+1)) things=DD at *
 simp[-dJ,-gk,pO,b1,i1,gY,b2]
theorem k41_whole (A:jc T G) (k:Nat) (w0 w1 w3 w4 w5 w6 w8:W) (rest:Sl) {n e gv q:Nat}{t:Tp}{a:St}:∀ (d i:Nat) (f:Th->Int) (l:List Th) (x7 x10 x11 x12:Option W) (h:HH),DM a f l->Od n e gv t q (some (eM a f l)) h->i+d<=e->(∀ th:Th,f th=th.val (itr t.p t.asked i)) →
 ∃ f' l' y7 y10 y11 y12 h',dJ (evS (runN T G (k+14)) G pO) [(7,"_law_at")] (upto ((i+1:Nat):Int) d) (some w0 :: some w1 :: some (.o n) :: some w3 :: some w4 :: some w5 :: some w6 :: x7 :: some w8 :: some (.r q) :: x10 :: x11 :: x12 :: rest) h =
  some (.nx (some w0 :: some w1 :: some (.o n) :: some w3 :: some w4 :: some w5 :: some w6 :: y7 :: some w8 :: some (.r q) :: y10 :: y11 :: y12 :: rest) h')/\DM a f' l'/\(∀ th:Th,f' th=th.val (itr t.p t.asked (i+d)))/\Od n e gv t q (some (eM a f' l')) h'
 | 0,i,f,l,x7,x10,x11,x12,h,dm,o,_,hf=>⟨f,l,x7,x10,x11,x12,h,rfl,dm,hf,o⟩
 | d+1,i,f,l,x7,x10,x11,x12,h,dm,o,hd,hf=>by
  obtain ⟨f1,l1,y10,y11,y12,h1,b1,d1,g1,o1⟩:=J8 A k w0 w1 w3 w4 w5 w6 w8 rest x10 x11 x12 dm o i (by lia) hf
  obtain ⟨f2,l2,z7,z10,z11,z12,h2,b2,d2,g2,o2⟩:=k41_whole A k w0 w1 w3 w4 w5 w6 w8 rest d (i+1) f1 l1 (some (.p (.int ((i+1:Nat):Int)))) y10 y11 y12 h1 d1 o1 (by lia) g1
  refine ⟨f2,l2,z7,z10,z11,z12,h2,?_,d2,by rw[show i+(d+1)=i+1+d by lia];exact g2,o2⟩
  have e2:((i+1:Nat):Int)+1=((i+1+1:Nat):Int):=by lia
  rw[pK,e2]
  have st:∀ l,dJ (evS (runN T G (k+14)) G pO) [(7,"_law_at")] (.int ((i+1:Nat):Int) :: l) (some w0 :: some w1 :: some (.o n) :: some w3 :: some w4 :: some w5 :: some w6 :: x7 :: some w8 :: some (.r q) :: x10 :: x11 :: x12 :: rest) h =
   g9 (evS (runN T G (k+14)) G pO (some w0 :: some w1 :: some (.o n) :: some w3 :: some w4 :: some w5 :: some w6 :: some (.p (.int ((i+1:Nat):Int))) :: some w8 :: some (.r q) :: x10 :: x11 :: x12 :: rest) h) (dJ (evS (runN T G (k+14)) G pO) [(7,"_law_at")] l):=fun l=>rfl
  rw[st,b1,eY,b2]
open Classical in
noncomputable def dfl (a b:St):List Th:=things.filter fun th=>decide (¬ th.val a=th.val b)
theorem tw (a b:St):(dfl a b).Nodup:=UZ Vd qT
theorem ym {a b:St}{th:Th}:th∈dfl a b↔¬ th.val a=th.val b:=by
 unfold dfl
 rw[VT,decide_eq_true_eq]
 exact ⟨fun h=>h.2,fun h=>⟨jy th,h⟩⟩
theorem pQ (a b:St):dfs a b things=(dfl a b).map fun th=>.tup [th.enc,.int (th.val a),.int (th.val b)]:=sY a b things
theorem Gb (a b:St):dfl b a=dfl a b:=by
 unfold dfl
 refine List.filter_congr fun th _=>?_
 rw[decide_eq_decide]
 exact ⟨fun h z=>h z.symm,fun h z=>h z.symm⟩
theorem Gc (a b:St):∀ l:List Th,dok 100 (.lst (dfs a b l))=true:=by
 intro l
 rw[rC,SA,sY]
 intro x hx
 obtain ⟨th,_,rfl⟩:=List.mem_map.mp hx
 cases th<;>simp[Th.enc]
theorem Dc (a:St):dfs a a things=[]:=(sI things).mpr fun _ _=>rfl
theorem Nn (F:FK->List W->HH->Option (W×HH)) (w0 w1 w2 w3 w4 w5 w6:W) (x7:Option W) (rest:Sl) (a b:St) (h:HH) :
 BT.ev F G Nc (some w0 :: some w1 :: some w2 :: some w3 :: some w4 :: some w5 :: some w6 :: x7 :: some (.p (.lst (dfs a b things))) :: rest) h=some (.p (.lst (dfs b a things)),h):=by
 have c:=CO (eW (evs F G .nil) (BT.ev F G (.tup (.cons (.var 0) (.cons (.var 2) (.cons (.var 1) .nil))))) []) 3 (fun th:Th=>D.tup [th.enc,.int (th.val a),.int (th.val b)]) (fun th=>[th.enc,.int (th.val a),.int (th.val b)]) (fun th=>some (.tup [th.enc,.int (th.val b),.int (th.val a)])) h (dfl a b) fun th _=>⟨rfl,rfl⟩
 have e1:(dfl a b).filterMap (fun th=>some (D.tup [th.enc,.int (th.val b),.int (th.val a)]))=dfs b a things:=by
  rw[pQ,Gb,← WN];rfl
 rw[e1,← pQ] at c
 have ln:(dfs b a things).length<=100000:=by
  rw[pQ,RP]
  have:=pP (tw b a);lia
 refine lS (ws:=[.p (.lst (dfs a b things))]) (h1:=h) (fs:=[]) ?_ rfl rfl rfl c ln
 generalize dfs a b things=DD at *
 simp
theorem k41_w (F:FK->List W->HH->Option (W×HH)) (w0 w1 w2 w3 w4 w5 w6 w8:W) (x7:Option W) (rest:Sl) {q:Nat}{h:HH}{a:St}{f:Th->Int}{l:List Th} (nd:l.Nodup) (dd:dat h q=some (eM a f l)) :
 ∃ l2:List Th,BT.ev F G Nd (some w0 :: some w1 :: some w2 :: some w3 :: some w4 :: some w5 :: some w6 :: x7 :: some w8 :: some (.r q) :: rest) h=some (.p (.lst (l2.map fun th=>.tup [th.enc,eB a f th])),h.set q .z)/\l2.Nodup/\∀ th,th∈l2↔th∈l/\¬ th.val a=f th:=by
 classical
 have c:=CO (eW (evs F G (.cons F8 .nil)) (BT.ev F G (.tup (.cons (.var 0) (.cons (.var 1) .nil)))) []) 2 (fun th:Th=>D.tup [th.enc,eB a f th]) (fun th=>[th.enc,eB a f th]) (fun th=>if decide (¬ th.val a=f th)=true then some (.tup [th.enc,eB a f th]) else none) (h.set q .z) l fun th _=>⟨rfl,by
  have i0:dF (eB a f th) (.int 0)=some (.int (th.val a)):=rfl
  have i1:dF (eB a f th) (.int 1)=some (.int (f th)):=rfl
  have i2:((th.val a==f th):Bool)=decide (th.val a=f th):=by rw[U0];simp
  by_cases cc:th.val a=f th
  ·generalize eB a f th=TT at *
   generalize th.enc=TH at *
   simp[-gk,eW,eV,F8,i0,i1,Ct,cc,lu]
  ·generalize eB a f th=TT at *
   generalize th.enc=TH at *
   have i3:(th.val a==f th)=false:=by simpa using cc
   simp[-gk,eW,eV,F8,i0,i1,Ct,i3,cc,lu]⟩
 rw[sN (fun th:Th=>decide (¬ th.val a=f th)) (fun th=>D.tup [th.enc,eB a f th])] at c
 refine ⟨l.filter fun th=>decide (¬ th.val a=f th),?_,UZ Vd nd,fun th=>by rw[VT,decide_eq_true_eq]⟩
 have it:fW (eM a f l)=l.map fun th=>D.tup [th.enc,eB a f th]:=by
  unfold fW eM
  rw[Tv]
  refine SE fun th _=>?_
  show D.tup [kH (kth th),eB a f th]=_
  rw[Ni]
 have ln:((l.filter fun th=>decide (¬ th.val a=f th)).map fun th=>D.tup [th.enc,eB a f th]).length<=100000:=by
  rw[RP]
  have:=pP (UZ (Vd (p:=fun th:Th=>decide (¬ th.val a=f th))) nd)
  lia
 refine lS (ws:=[.p (.lst (l.map fun th=>D.tup [th.enc,eB a f th]))]) (h1:=h.set q .z) (fs:=[]) ?_ rfl rfl rfl c ln
 rw[← it]
 generalize eM a f l=M at *
 simp[dd]
theorem Np (F:FK->List W->HH->Option (W×HH)) (w0 w1 w2 w3 w4 w5 w6:W) (x7:Option W) (rest:Sl) (a b:St) (h:HH) :
 BT.ev F G Nf (some w0 :: some w1 :: some w2 :: some w3 :: some w4 :: some w5 :: some w6 :: x7 :: some (.p (.lst (dfs a b things))) :: rest) h=some (.p (.lst ((dfl a b).map fun th=>.tup [th.enc,eB a (fun y=>y.val b) th])),h):=by
 have c:=sM (eW (evs F G .nil) (BT.ev F G (.tup (.cons (.idx (.var 0) (.cst (.int 0))) (.cons (.slc (.var 0) (.cons (.cst (.int 1)) .nil) .nil) .nil)))) []) (fun th:Th=>D.tup [th.enc,.int (th.val a),.int (th.val b)]) (fun th=>some (.tup [th.enc,eB a (fun y=>y.val b) th])) h (dfl a b) fun th _=>by
  simp[eW,eV,eB]
 have e1:(dfl a b).filterMap (fun th=>some (D.tup [th.enc,eB a (fun y=>y.val b) th]))=(dfl a b).map fun th=>D.tup [th.enc,eB a (fun y=>y.val b) th]:=by
  rw[← WN];rfl
 rw[e1,← pQ] at c
 refine lS (ws:=[.p (.lst (dfs a b things))]) (h1:=h) (fs:=[]) ?_ rfl rfl rfl c (by
  rw[RP]
  have:=pP (tw a b);lia)
 generalize dfs a b things=DD at *
 simp
theorem ng {v:Nat->Int}:∀ (d i:Nat),¬ v i=v (i+d)->∃ k,i<=k/\k < i+d/\v (k+1)≠v k
 | 0,i,h=>absurd rfl h
 | d+1,i,h=>by
  by_cases c:v i=v (i+d)
  ·exact ⟨i+d,by lia,by lia,fun z=>h (by rw[c,← z];rfl)⟩
  ·obtain ⟨k,h1,h2,h3⟩:=ng d i c
   exact ⟨k,h1,by lia,h3⟩
theorem Nq (A:jc T G) (k:Nat) {n e gv q:Nat}{t:Tp}{c:Option (List (Ky×D))}{h:HH} (o:Od n e gv t q c h) (he:e<=1000) (th:Th) (x y:D) (i j:Nat) (hij:i<=j) (hj:j<=e) (hd:¬ th.val (itr t.p t.asked i)=th.val (itr t.p t.asked j)) :
 BT.ev (runN T G (k+14)) G (.cmp .eq CY (.lst false .nil)) [some (.p (.tup [th.enc,x,y])),some (.o n),some (.p (.int (i:Int))),some (.p (.int (j:Int)))] h=some (.p (.bl false),h):=by
 have b1:=J7 A (k+1) o th
 have c1:=sM (eW (evs (runN T G (k+14)) G (.cons CW .nil)) (BT.ev (runN T G (k+14)) G (.var 0)) [some (.p (.int (i:Int))),some (.p (.int (j:Int)))]) (fun k:Nat=>D.int ((k:Int)+1)) (fun m=>if (decide (i < m+1)&&decide (m+1<=j))=true then some (.int ((m:Int)+1)) else none) h (chl (wv t th) e) fun m _=>by
  have z1:((i:Int) < (m:Int)+1)=(i < m+1):=propext ⟨fun _=>by lia,fun _=>by lia⟩
  have z2:((m:Int)+1<=(j:Int))=(m+1<=j):=propext ⟨fun _=>by lia,fun _=>by lia⟩
  by_cases c1:i < m+1
  ·by_cases c2:m+1<=j
   ·simp[eW,eV,CW,lu,z1,z2,c1,c2]
   ·simp[eW,eV,CW,lu,z1,z2,c1,c2]
  ·simp[eW,eV,CW,lu,z1,c1]
 rw[sN (fun m:Nat=>decide (i < m+1)&&decide (m+1<=j)) (fun m:Nat=>D.int ((m:Int)+1))] at c1
 have hne:((chl (wv t th) e).filter fun m:Nat=>decide (i < m+1)&&decide (m+1<=j)).map (fun m:Nat=>D.int ((m:Int)+1))≠[]:=by
  obtain ⟨d,rfl⟩:∃ d,j=i+d:=⟨j - i,by lia⟩
  obtain ⟨m,h1,h2,h3⟩:=ng (v:=wv t th) d i hd
  intro z
  rw[List.map_eq_nil_iff,List.filter_eq_nil_iff] at z
  have mm:m∈chl (wv t th) e:=by
   unfold chl
   rw[VT,List.mem_range,decide_eq_true_eq]
   exact ⟨by lia,h3⟩
  have:=z m mm
  simp at this
  lia
 have ln:(((chl (wv t th) e).filter fun m:Nat=>decide (i < m+1)&&decide (m+1<=j)).map (fun m:Nat=>D.int ((m:Int)+1))).length<=100000:=by
  rw[RP]
  have l1:=UY (fun m:Nat=>decide (i < m+1)&&decide (m+1<=j)) (chl (wv t th) e)
  have l2:(chl (wv t th) e).length<=e:=by
   have:=UY (fun k=>decide (wv t th (k+1)≠wv t th k)) (RV e)
   rw[VC] at this
   exact this
  lia
 have c2:BT.ev (runN T G (k+14)) G CY [some (.p (.tup [th.enc,x,y])),some (.o n),some (.p (.int (i:Int))),some (.p (.int (j:Int)))] h=_:=lS (ws:=[.p (.lst (chD (wv t th) e))]) (h1:=h) (fs:=[some (.p (.int (i:Int))),some (.p (.int (j:Int)))]) (by
  generalize th.enc=TH at *
  generalize chD (wv t th) e=CD at *
  simp[b1]) rfl (by simp) rfl c1 ln
 generalize ((chl (wv t th) e).filter fun m:Nat=>decide (i < m+1)&&decide (m+1<=j)).map (fun m:Nat=>D.int ((m:Int)+1))=L at *
 have c3:gE .eq (.lst L) (.lst [])=some false:=by
  rw[rF,if_pos (yU _),CM,decide_eq_false hne]
 simp[-rF,c2,c3]
theorem Nr (A:jc T G) (k:Nat) (w0 w1 w3 w6:W) (x7:Option W) (rest:Sl) {n e gv q:Nat}{t:Tp}{c:Option (List (Ky×D))}{h:HH} (o:Od n e gv t q c h) (he:e<=1000) (i j:Nat) (hij:i<=j) (hj:j<=e) :
 BT.ev (runN T G (k+14)) G Ng (some w0 :: some w1 :: some (.o n) :: some w3 :: some (.p (.int (i:Int))) :: some (.p (.int (j:Int))) :: some w6 :: x7 :: some (.p (.lst (dfs (itr t.p t.asked i) (itr t.p t.asked j) things))) :: rest) h=some (.p (.lst []),h):=by
 have c:=sM (eW (evs (runN T G (k+14)) G (.cons (.cmp .eq CY (.lst false .nil)) .nil)) (BT.ev (runN T G (k+14)) G (.var 0)) [some (.o n),some (.p (.int (i:Int))),some (.p (.int (j:Int)))]) (fun th:Th=>D.tup [th.enc,.int (th.val (itr t.p t.asked i)),.int (th.val (itr t.p t.asked j))]) (fun th=>none) h (dfl (itr t.p t.asked i) (itr t.p t.asked j)) fun th ht=>by
  have g:=Nq A k o he th (.int (th.val (itr t.p t.asked i))) (.int (th.val (itr t.p t.asked j))) i j hij hj (ym.mp ht)
  show bnd (bnd (BT.ev (runN T G (k+14)) G (.cmp .eq CY (.lst false .nil)) [some (.p (.tup [th.enc,.int (th.val (itr t.p t.asked i)),.int (th.val (itr t.p t.asked j))])),some (.o n),some (.p (.int (i:Int))),some (.p (.int (j:Int)))] h) (ly (evs (runN T G (k+14)) G .nil _))) _=_
  rw[g];rfl
 rw[← pQ,show (dfl (itr t.p t.asked i) (itr t.p t.asked j)).filterMap (fun _=>(none:Option D))=[] by simp] at c
 refine lS (ws:=[.p (.lst (dfs (itr t.p t.asked i) (itr t.p t.asked j) things))]) (h1:=h) (fs:=[some (.o n),some (.p (.int (i:Int))),some (.p (.int (j:Int)))]) ?_ rfl ?_ rfl c (by simp)
 ·generalize dfs (itr t.p t.asked i) (itr t.p t.asked j) things=DD at *
  simp
 ·simp
theorem qU (s:Sl) (h:HH) (k:Sl->HH->Option Fl):mV (some (.nx s h)) k=k s h:=Eq.trans rfl rfl
theorem Nt (A:jc T G) (k:Nat) (w0 w1 w3 w4 w6 w8 w9 w13:W) (x7 x10 x11 x12:Option W) {n e gv q:Nat}{t:Tp}{c:Option (List (Ky×D))}{h:HH} (o:Od n e gv t q c h) (j:Nat) (hj:j<=e) :
 ∃ h',evS (runN T G (k+14)) G CZ [some w0,some w1,some (.o n),some w3,some w4,some (.p (.int (j:Int))),some w6,x7,some w8,some w9,x10,x11,x12,some w13,none] h=some (.rt (.p (.bl true)) h'):=by
 obtain ⟨f1,f2,f3⟩:=nO t.p t.asked j
 obtain ⟨h1,b1,o1⟩:=GZ A (k+1) o j hj
 obtain ⟨h2,b2,o2⟩:=sZ A (k+2) o1 (fo t.p t.asked j) j (by lia) hj
 obtain ⟨h3,b3,o3⟩:=GZ A (k+1) o2 (fo t.p t.asked j) (by lia)
 rw[Nb] at b3
 have d2:dfs (itr t.p t.asked (fo t.p t.asked j)) (itr t.p t.asked j) things=[]:=by
  have:=JY (m8 o (fo t.p t.asked j) (by lia)) (m8 o j hj)
  rw[f2] at this
  exact of_decide_eq_true this
 rw[d2] at b2
 have c1:((fo t.p t.asked j:Nat):Int)<=(j:Int):=by lia
 refine ⟨h3,?_⟩
 generalize ((fo t.p t.asked j:Nat):Int)=z at *
 simp[CZ,Nh,b1,b2,b3,c1]
theorem Nu (A:jc T G) (k:Nat) (w0 w1 w3 w6 w9 w13:W) (x7 x10 x11 x12:Option W) {n e gv q:Nat}{t:Tp}{c:Option (List (Ky×D))}{h:HH} (o:Od n e gv t q c h) (he:e<=1000) (i j:Nat) (hij:i<=j) (hj:j<=e) :
 ∃ h',evS (runN T G (k+14)) G C1 [some w0,some w1,some (.o n),some w3,some (.p (.int (i:Int))),some (.p (.int (j:Int))),some w6,x7,some (.p (.lst (dfs (itr t.p t.asked i) (itr t.p t.asked j) things))),some w9,x10,x11,x12,some w13,none] h=some (.rt (.p (.bl true)) h'):=by
 have b1:=Nr A k w0 w1 w3 w6 x7 [some w9,x10,x11,x12,some w13,none] o he i j hij hj
 obtain ⟨h2,b2⟩:=Nt A k w0 w1 w3 (.p (.int (i:Int))) w6 (.p (.lst (dfs (itr t.p t.asked i) (itr t.p t.asked j) things))) w9 w13 x7 x10 x11 x12 o j hj
 refine ⟨h2,?_⟩
 generalize dfs (itr t.p t.asked i) (itr t.p t.asked j) things=DD at *
 simp[-i8,qU,C1,b1,b2]
theorem Od.gone {n e gv q:Nat}{t:Tp}{M:List (Ky×D)}{h:HH} (o:Od n e gv t q (some M) h):Od n e gv t q none (h.set q .z):=by
 obtain ⟨r,t',a,I,s,d⟩:=o
 exact ⟨r,t',a.putD (d M rfl) _,I,s,fun N hN=>by cases hN⟩
theorem Nv (A:jc T G) (k:Nat) (w0 w1 w3 w6:W) (x7 x10 x11 x12:Option W) {n e gv q:Nat}{t:Tp}{h:HH} (he:e<=1000) (i j:Nat) (hij:i<=j) (hj:j<=e) {f:Th->Int}{l:List Th} (dm:DM (itr t.p t.asked i) f l) (hf:∀ th:Th,f th=th.val (itr t.p t.asked j)) (o:Od n e gv t q (some (eM (itr t.p t.asked i) f l)) h) :
 ∃ h',evS (runN T G (k+14)) G C2 [some w0,some w1,some (.o n),some w3,some (.p (.int (i:Int))),some (.p (.int (j:Int))),some w6,x7,some (.p (.lst (dfs (itr t.p t.asked i) (itr t.p t.asked j) things))),some (.r q),x10,x11,x12,none,none] h=some (.rt (.p (.bl true)) h'):=by
 have dd:dat h q=some (eM (itr t.p t.asked i) f l):=by
  obtain ⟨_,_,_,_,_,d⟩:=o
  exact d _ rfl
 obtain ⟨l2,b1,n2,m2⟩:=k41_w (G:=G) (runN T G (k+14)) w0 w1 (.o n) w3 (.p (.int (i:Int))) (.p (.int (j:Int))) w6 (.p (.lst (dfs (itr t.p t.asked i) (itr t.p t.asked j) things))) x7 [x10,x11,x12,none,none] dm.nd dd
 have o1:=o.gone
 have ef:f=fun y=>y.val (itr t.p t.asked j):=funext hf
 have b2:=GY (itr t.p t.asked i) f n2 (h.set q .z)
 have b3:=Np (G:=G) (runN T G (k+14)) w0 w1 (.o n) w3 (.p (.int (i:Int))) (.p (.int (j:Int))) w6 x7 [some (.r q),x10,x11,x12,some (.k (.l (eM (itr t.p t.asked i) f l2))),none] (itr t.p t.asked i) (itr t.p t.asked j) (h.set q .z)
 have b4:=GY (itr t.p t.asked i) (fun y=>y.val (itr t.p t.asked j)) (tw (itr t.p t.asked i) (itr t.p t.asked j)) (h.set q .z)
 rw[← ef] at b3 b4
 have b5:Ed (.k (.l (eM (itr t.p t.asked i) f l2))) (.k (.l (eM (itr t.p t.asked i) f (dfl (itr t.p t.asked i) (itr t.p t.asked j))))) (h.set q .z)=some (.p (.bl false),h.set q .z):=by
  rw[rJ,if_pos (by
   rw[SA]
   intro p hp
   obtain ⟨th,_,rfl⟩:=List.mem_map.mp hp
   rfl),J6 _ _ n2 (tw _ _) fun th=>by
    rw[m2,ym,hf]
    exact ⟨fun z=>z.2,fun z=>⟨Classical.byContradiction fun y=>z (by rw[← hf,dm.out th y]),z⟩⟩]
  rfl
 obtain ⟨h3,b6,o3⟩:=sZ A (k+2) o1 i i (by lia) (by lia)
 rw[Dc] at b6
 obtain ⟨h4,b7⟩:=Nu A k w0 w1 w3 w6 (.r q) (.k (.l (eM (itr t.p t.asked i) f l2))) x7 x10 x11 x12 o3 he i j hij hj
 refine ⟨h4,?_⟩
 generalize eM (itr t.p t.asked i) f l2=M2 at *
 generalize eM (itr t.p t.asked i) f (dfl (itr t.p t.asked i) (itr t.p t.asked j))=M3 at *
 generalize (dfl (itr t.p t.asked i) (itr t.p t.asked j)).map (fun th=>D.tup [th.enc,eB (itr t.p t.asked i) f th])=L3 at *
 generalize l2.map (fun th=>D.tup [th.enc,eB (itr t.p t.asked i) f th])=L2 at *
 generalize dfs (itr t.p t.asked i) (itr t.p t.asked j) things=DD at *
 simp[-i8,qU,-vK,-rJ,C2,GW,b1,b2,b3,b4,b5,b6,b7]
theorem yo (i j:Nat) (hij:i<=j) (hj:j<=1000):gC .rng2 [.int ((i:Int)+1),.int ((j:Int)+1)]=some (upto ((i+1:Nat):Int) (j - i)):=by
 rw[i7,if_pos (by simp;lia)]
 congr 2
 lia
theorem Nx (A:jc T G) (k:Nat) (w0 w1 w3 w6:W) (x7:Option W) {n e gv q0:Nat}{t:Tp}{h:HH} (he:e<=1000) (i j:Nat) (hij:i<=j) (hj:j<=e) (o:Od n e gv t q0 none h) :
 ∃ h',evS (runN T G (k+14)) G C3 [some w0,some w1,some (.o n),some w3,some (.p (.int (i:Int))),some (.p (.int (j:Int))),some w6,x7,some (.p (.lst (dfs (itr t.p t.asked i) (itr t.p t.asked j) things))),none,none,none,none,none,none] h=some (.rt (.p (.bl true)) h'):=by
 have o1:Od n e gv t h.length (some (eM (itr t.p t.asked i) (fun y=>y.val (itr t.p t.asked i)) [])) (h++[.d []]):=by
  obtain ⟨r,t',a,I,s,d⟩:=o
  exact ⟨r,t',a.app,I,s,fun M hM=>by cases hM;simp[eM]⟩
 obtain ⟨f',l',y7,y10,y11,y12,h1,b1,dm,hf,o2⟩:=k41_whole A k w0 w1 w3 (.p (.int (i:Int))) (.p (.int (j:Int))) w6 (.p (.lst (dfs (itr t.p t.asked i) (itr t.p t.asked j) things))) [none,none] (j - i) i (fun y=>y.val (itr t.p t.asked i)) [] x7 none none none (h++[.d []]) ⟨Vb,fun _ _=>rfl⟩ o1 (by lia) fun _=>rfl
 rw[show i+(j - i)=j by lia] at hf
 obtain ⟨h2,b2⟩:=Nv A k w0 w1 w3 w6 y7 y10 y11 y12 he i j hij hj dm hf o2
 have rg:=yo i j hij (by lia)
 refine ⟨h2,?_⟩
 generalize dfs (itr t.p t.asked i) (itr t.p t.asked j) things=DD at *
 generalize ((i+1:Nat):Int)=z at b1 rg
 simp[-i8,qU,-i7,-dJ,C3,rg,gY,b1,b2]
theorem Ny (A:jc T G) (k:Nat) (w0 w1 w3:W) (x7:Option W) {n e gv q0:Nat}{t:Tp}{h:HH} (he:e<=1000) (i j:Nat) (hij:i<=j) (hj:j<=e) (o:Od n e gv t q0 none h) :
 ∃ h',evS (runN T G (k+14)) G C4 [some w0,some w1,some (.o n),some w3,some (.p (.int (i:Int))),some (.p (.int (j:Int))),some (.p (itr t.p t.asked j).enc),x7,none,none,none,none,none,none,none] h=some (.rt (.p (.bl true)) h'):=by
 obtain ⟨fs,h1,ob,ma,b1,o1⟩:=C8 A (k+3) o j hj
 obtain ⟨h2,b2,o2⟩:=sZ A (k+2) o1 i j (by lia) hj
 obtain ⟨h3,b3,o3⟩:=sZ A (k+2) o2 j i hj (by lia)
 have b4:=Nn (G:=G) (runN T G (k+14)) w0 w1 (.o n) w3 (.p (.int (i:Int))) (.p (.int (j:Int))) (.p (itr t.p t.asked j).enc) x7 [none,none,none,none,none,none] (itr t.p t.asked i) (itr t.p t.asked j) h3
 obtain ⟨h4,b5⟩:=Nx A k w0 w1 w3 (.p (itr t.p t.asked j).enc) x7 he i j hij hj o3
 have n1:=ne_self (sF 98 (itr t.p t.asked j))
 have n2:=ne_self (Gc (itr t.p t.asked j) (itr t.p t.asked i) things)
 refine ⟨h4,?_⟩
 generalize dfs (itr t.p t.asked i) (itr t.p t.asked j) things=DD at *
 generalize dfs (itr t.p t.asked j) (itr t.p t.asked i) things=D2 at *
 generalize (itr t.p t.asked j).enc=EJ at *
 simp[-i8,qU,-nC,C4,ob,ma,b1,n1,b2,b3,b4,n2,b5]
theorem Nz (A:jc T G) (k:Nat) (w0 w1 w3:W) {n e gv q0:Nat}{t:Tp}{h:HH} (he:e<=1000) (i j:Nat) (hij:i<=j) (hj:j<=e) (o:Od n e gv t q0 none h) :
 ∃ h',evS (runN T G (k+14)) G J4 [some w0,some w1,some (.o n),some w3,some (.p (.int (i:Int))),some (.p (.int (j:Int))),none,none,none,none,none,none,none,none,none] h=some (.rt (.p (.bl true)) h'):=by
 obtain ⟨fs,h1,ob,ma,b1,o1⟩:=C8 A (k+3) o j hj
 have ej:i+(j - i)=j:=by lia
 obtain ⟨y7,h2,b2,o2⟩:=u0 A k w0 w1 w3 (.p (.int (i:Int))) (.p (.int (j:Int))) [none,none,none,none,none,none,none] (j - i) i none h1 o1 (by lia)
 rw[ej] at b2
 obtain ⟨z7,h3,b3,o3⟩:=C9 A k w0 w1 w3 (.p (.int (i:Int))) (.p (.int (j:Int))) [none,none,none,none,none,none,none] (j - i) i y7 h2 o2 (by lia)
 rw[ej] at b3
 obtain ⟨h4,b4⟩:=Ny A k w0 w1 w3 z7 he i j hij hj o3
 have rg:=yo i j hij (by lia)
 have r3:gC .rng3 [.int (j:Int),.int (i:Int),.int (-1)]=some (down (j:Int) (j - i)):=by
  rw[qE,if_pos ⟨rfl,by lia,by lia,by lia,by lia⟩,show ((j:Int) - (i:Int)).toNat=j - i by lia]
 refine ⟨h4,?_⟩
 generalize (itr t.p t.asked j).enc=EJ at *
 generalize (itr t.p t.asked i).enc=EI at *
 generalize ((i+1:Nat):Int)=z at b3 rg
 simp[-i8,qU,-i7,-dJ,J4,ob,ma,b1,r3,rg,gY,b2,b3,b4]
theorem NB (x y:Nat):∃ i j:Nat,biD .sorted [.lst [.int (x:Int),.int (y:Int)]]=some (.lst [.int (i:Int),.int (j:Int)])/\i<=j/\(j=x\/j=y):=by
 have e1:biD .sorted [.lst [.int (x:Int),.int (y:Int)]]=some (.lst ((sortI [(x:Int),(y:Int)]).map .int)):=by
  rw[oJ,show intsOf [.int (x:Int),.int (y:Int)]=some [(x:Int),(y:Int)] from rfl,S7,if_pos (by show 2 < 64;decide)]
 have p:=sortI_perm [(x:Int),(y:Int)]
 have le:=oK [(x:Int),(y:Int)]
 have ln:=p.length_eq
 match g:sortI [(x:Int),(y:Int)],ln with
 | [a,b],_ =>
  rw[g] at p le e1
  have ma:a=(x:Int)\/a=(y:Int):=by simpa using p.mem_iff.mp (show a∈[a,b] by simp)
  have mb:b=(x:Int)\/b=(y:Int):=by simpa using p.mem_iff.mp (show b∈[a,b] by simp)
  have hab:a<=b:=by simpa using le
  refine ⟨a.toNat,b.toNat,?_,by lia,by rcases mb with rfl | rfl<;>simp⟩
  rw[e1]
  have q1:((a.toNat:Nat):Int)=a:=by lia
  have q2:((b.toNat:Nat):Int)=b:=by lia
  rw[q1,q2];rfl
theorem zX (A:jc T G) (Lx:Lw41 T) (ns:List Int) (hl:ns.length<=1000) (k:Nat):∃ h',runN T G (k+15) "law" [.p (.lst (cV ns))] []=some (.p (.bl true),h'):=by
 obtain ⟨pg,dp,rp⟩:=uS (G:=G) Lx.lw Lx.program ns hl 20
 obtain ⟨asked,ha,hal,ra⟩:=zP (G:=G) Lx.lw ns hl 450
 have rp':=rp (k+7)
 have ra':=ra (k+11)
 obtain ⟨mo,hmo,rmo⟩:=kq (G:=G) Lx.lw ns hl 440 15 (by decide)
 obtain ⟨v1,hv1,rv1⟩:=kq (G:=G) Lx.lw ns hl 441 5 (by decide)
 have rmo':=rmo (k+12)
 have rv1':=rv1 (k+12)
 obtain ⟨e,R,es⟩:=FM pg asked mo
 have le:=R.le
 have c1:1+(v1:Int)=((v1+1:Nat):Int):=by lia
 have in1:runN T G (k+14) (.m "Tape" "__init__") [.o 0,.p (gI pg),.p (.lst (cV asked)),.p (.int ((v1+1:Nat):Int)),.p (.int (mo:Int))] [.o "Tape" []]=some (.p .non,[.o "Tape" ((Tp.new pg asked (v1+1) mo).fs 1),.l [St.zero.enc]]):=CJ A.P (k+12) pg asked (v1+1) mo (by lia) []
 have A0:TAt [.o "Tape" ((Tp.new pg asked (v1+1) mo).fs 1),.l [St.zero.enc]] 0 1 (Tp.new pg asked (v1+1) mo):=JW [] pg asked (v1+1) mo
 have I0:TI (Tp.new pg asked (v1+1) mo) e (v1+1):=JV dp.ok ha R (by lia) (by lia) (by lia)
 obtain ⟨h1,r1,t1,b1,g1,I1,s1,f1⟩:=CK A.P A.M (k+5) A0 I0
 obtain ⟨v2,hv2,rv2⟩:=kq (G:=G) Lx.lw ns hl 442 ((e:Int)+1) (by lia)
 obtain ⟨v3,hv3,rv3⟩:=kq (G:=G) Lx.lw ns hl 443 ((e:Int)+1) (by lia)
 have rv2':=rv2 (k+12)
 have rv3':=rv3 (k+12)
 obtain ⟨i,j,so,hij,hj⟩:=NB v2 v3
 have o1:Od 0 e (v1+1) (Tp.new pg asked (v1+1) mo) 0 none h1:=⟨r1,t1,g1.b,I1,s1,fun M hM=>by cases hM⟩
 obtain ⟨h4,b4⟩:=Nz A k (.p (.lst (cV ns))) (.p (gI pg)) (.p (.int (e:Int))) (by lia) i j hij (by lia) o1
 have f0:fin [] (.p (.bl true)) h4=some (.p (.bl true),[]):=by
  have:=lK [] h4 (.bl true)
  simpa using this
 refine ⟨[],?_⟩
 rw[run_eq Lx.law rfl,jW]
 generalize hz1:((v1+1:Nat):Int)=z1 at in1 c1
 simp[-i8,qU,rp',ra',rmo',rv1',rv2',rv3',c1,in1,A0.ob,M0,b1,so,b4,f0]
end
end BT
end
section
namespace BF
open PySem PySem.Spec PyProof.Rows L2 BS
noncomputable def wF (P:RG) (w:Sb) (K:Rj) (mg:Str->Option Rl) (x:Str) (z:BT.W):Prop:=∃ u v,mg x=some u/\RelV v u/\∀ m H,RW P w K m H v z
theorem Dd {K:Rj} (X:K.In h) (G:h.Ns RI mg) (a:Sh K RI x=some (some (.int n t))):wF P w K mg x (.p (.int n)) :=
 ⟨_,.int n,Tj X G a,⟨t,rfl⟩,fun _ _=>.p (.int n)⟩
inductive gf:List Str->List Rl->Prop where
 | nil:gf [] []
 | cons {x:Str}{xs:List Str}{t:Tok}{vs:List Rl} (h:PyData.strOk x=true) (r:gf xs vs):gf (x :: xs) (.str x t :: vs)
theorem gf.vals:∀ {xs:List Str}{vs:List Rl},gf xs vs->c9 (xs.map V.str) vs
 | _,_,.nil=>.nil
 | _,_,.cons _ r=>.cons ⟨_,rfl⟩ r.vals
theorem gf.rds {K:Rj}:∀ {xs:List Str}{vs:List Rl},gf xs vs->RDs K m H (xs.map V.str) (xs.map BT.D.str)
 | _,_,.nil=>.nil
 | _,_,.cons h r=>.cons (.str _ h) r.rds
theorem gf.len:∀ {xs:List Str}{vs:List Rl},gf xs vs->vs.length=xs.length
 | _,_,.nil=>rfl
 | _,_,.cons _ r=>by simp[r.len]
theorem De {K:Rj} (X:K.In h) (G:h.Ns RI mg) (a:Sh K RI x=some (some (.ref f)))
 (l:K.lookup f=some ⟨.type "tuple",none,.seq its n,sl⟩) (hl:xs.length<=1000) (r:gf xs its.toList):wF P w K mg x (.p (.tup (xs.map BT.D.str))):=by
 refine ⟨_,.ref f,Tj X G a,rfl,fun m H=>.p (.tup (.inr ⟨_,its,n,⟨l,rfl,rfl,?_,r.vals⟩,rfl⟩) r.rds)⟩
 have:=r.len
 have e:its.size=xs.length:=by rw[← this];simp
 rw[e]
 exact SV (yO hl)
inductive iT (w:Sb):List (Str×Int)->List UC->Prop where
 | nil:iT w [] []
 | cons {x:Str}{n:Int}{kvs:List (Str×Int)}{t u:Tok}{es:List UC} (r:iT w kvs es):iT w ((x,n) :: kvs) (⟨PyData.keyHash w.params x,.str x t,.int n u⟩ :: es)
theorem iT.ex:∀ {kvs:List (Str×Int)}{es:List UC},iT w kvs es->∃ vs:List (Key×Rl),KV ((kvs.map fun q=>(q.1,V.int q.2)).map fun q=>((Sum.inr q.1:Key),q.2)) vs/\Pairs (dg P w) es vs/\vs.map (·.1)=kvs.map (fun q=>(Sum.inr q.1:Key))/\(∀ e∈es,∃ k,(dg P w).is k e.key=true/\e.hash=(dg P w).hash k)
 | _,_,.nil=>⟨[],.nil,.nil,rfl,fun e he=>nomatch he⟩
 | _,_,@iT.cons _ x n kvs t u es r=>by
  obtain ⟨vs,h1,h2,h3,h4⟩:=r.ex (P:=P)
  have is:(dg P w).is (Sum.inr x) (.str x t)=true:=by show Vk x (.str x t)=true;simp[Vk]
  refine ⟨(Sum.inr x,.int n u) :: vs,.cons ⟨rfl,u,rfl⟩ h1,.cons is rfl h2,by simp[h3],fun e he=>?_⟩
  rcases List.mem_cons.mp he with rfl | he
  ·exact ⟨Sum.inr x,is,rfl⟩
  ·exact h4 e he
theorem zY {P:RG}{w:Sb}{K:Rj}{h:Heap}{mg:Str->Option Rl} (X:K.In h) (G:h.Ns RI mg) {x:Str}{f:Rz}{es:Array UC}{n:Nat}{kvs:List (Str×Int)} (a:Sh K RI x=some (some (.ref f)))
 (l:K.lookup f=some { cls:=.type "dict",data:=.dict es n }) (hf:(f==Td)=false) (r:iT w kvs es.toList) (nd:(kvs.map (·.1)).Nodup):wF P w K mg x (.k (.t (kvs.map fun q=>(q.1,BT.D.int q.2)))):=by
 obtain ⟨vs,h1,h2,h3,h4⟩:=r.ex (P:=P)
 refine ⟨_,.ref f,Tj X G a,rfl,fun m H=>.k (es:=kvs.map fun q=>(q.1,V.int q.2)) ⟨hf,vs,h1,fun hh Kh=>⟨_,es,n,Kh _ _ l,⟨rfl,rfl,rfl⟩,rfl,fun e he=>h4 e (by simpa using he),h2,?_⟩⟩ ?_⟩
 ·rw[h3]
  have e:(kvs.map fun q=>(Sum.inr q.1:Key))=(kvs.map (·.1)).map Sum.inr:=by simp
  rw[e]
  exact List.pairwise_map.mpr (nd.imp fun h z=>h (Sum.inr.inj z))
 ·clear r nd h1 h2 h3 h4 l
  induction kvs with
  | nil=>exact .nil
  | cons q kvs ih=>exact .cons (fun _ _=>.int _) ih
noncomputable def look {κ α:Type} [DecidableEq κ] (l:List (κ×α)) (x:κ):Option α:=match l with
 | []=>none
 | (y,a) :: r=>if y=x then some a else look r x
theorem jX {κ α:Type} [DecidableEq κ] {Q:κ->α->Prop}:∀ {l:List (κ×α)} (_:∀ p∈l,Q p.1 p.2) {x:κ}{a:α},look l x=some a->Q x a
 | [],_,_,_,e=>by exact BT.gi e
 | (y,b) :: r,h,x,a,e=>by
  rw[look] at e
  split at e
  ·rename_i z
   cases e
   subst z
   exact h (y,b) RE
  ·exact jX (fun p hp=>h p (Ru _ hp)) e
theorem jO {K:Rj}:∀ ns:List Int,RDs K m H (ns.map V.int) (BT.cV ns)
 | []=>.nil
 | n :: r=>.cons (.int n) (jO r)
theorem Df {K:Rj} (tb:TB K H) (hS:LL K H a (ns.map V.int)) (e:∃ h',g [.p (.lst (BT.cV ns))] []=some (.p (.bl true),h')):spF P w K g [.ref a] H (fun v _=>v=.bl true) fun _ _ _=>False:=by
 obtain ⟨h',e⟩:=e
 refine ⟨[],_,[],_,h',⟨Vb,rfl,fun i a xs z=>by simp at z,tb⟩,.cons (.p (.lst (hS.elim (fun q=>.inl ⟨q,by simp⟩) .inr) (jO ns))) .nil,e,fun v H' m' _ _ r=>mE r⟩
end BF
end
section
namespace BG
open PySem PySem.Spec PySem.Calls PyProof.Rows L2 BS BF
theorem Gd {K:Rj} (H:∀ p∈K,h.get? p.1=some p.2):K.In h:=by
 intro a o e
 obtain ⟨p,hp,he⟩:∃ p∈K,p.1=a/\p.2=o:=by
  clear H
  induction K with
  | nil=>exact BT.gi e
  | cons q r ih =>
   rw[SQ] at e
   split at e
   ·rename_i c
    cases e
    exact ⟨q,RE,(eq_of_beq c).symm,rfl⟩
   ·obtain ⟨p,hp,he⟩:=ih e
    exact ⟨p,Ru _ hp,he⟩
 rw[← he.1,← he.2]
 exact H p hp
inductive NC (K:Rj) (x qual:Str) (st:VF) (f:Rz):Prop where
 | mk (fd:S9) (F:Fun K x qual st f fd) (kV doc pm:Rl) (an:Option Rz) (cdv ct:Rl) (e:fd=SM x qual (fS st) (dI st) (c7 st) .none kV doc pm an cdv ct):NC K x qual st f
theorem Dg {K:Rj}{st:VF} (e:Du K f=some (wI x qual st)):NC K x qual st f:=by
 unfold Du at e
 split at e
 ·rename_i oc od fd sl l
  have e':=Ry e
  unfold wI at e'
  obtain ⟨nm,ql,pa,bo,sc,gl,cl,de,kw,dc,pm,an,co,ct,bu⟩:=fd
  simp only[FS.mk.injEq] at e'
  obtain ⟨rfl,rfl,rfl,rfl,rfl,rfl,rfl,rfl,rfl,hc⟩:=e'
  have F:=HP (K:=K) (x:=nm) (qual:=ql) (st:=st) (f:=f) (kV:=kw) (doc:=dc) (pm:=pm) (an:=an) (cdv:=co) (ct:=ct) l hc (by simp only[SC,l])
  exact ⟨_,F,kw,dc,pm,an,co,ct,rfl⟩
 ·exact BT.gi e
theorem nth {α:Type}{l:List α}{a:α} (i:Nat) (h:l[i]?=some a):a∈l:=RJ h
noncomputable def pR (ns:List Str):Bool:=ns.all fun n=>!(n.cps[0]?==some 60)
theorem ND (y:Str):(BT.fu y).cps[0]?=some 60:=by
 show (((#[60]:Array Nat)++y.cps)++#[62])[0]?=some 60
 rw[← WI]
 simp
theorem Ge (h:BT.fu y=BT.fu z):y=z:=by
 have e:((#[60]:Array Nat)++y.cps)++#[62]=((#[60]:Array Nat)++z.cps)++#[62]:=congrArg Str.cps h
 have e2:y.cps.toList=z.cps.toList:=by
  have:=congrArg WH e
  simpa using this
 cases y;cases z;exact congrArg Str.mk (Array.toList_inj.mp e2)
theorem pS (h:pR ns=true) (y:Str):ns.contains (BT.fu y)=false:=by
 cases e:ns.contains (BT.fu y) with
 | false=>rfl
 | true =>
  have:=List.all_eq_true.mp h _ (List.contains_iff_mem.mp e)
  rw[ND] at this
  exact BT.dQ this
theorem Dh {K:Rj} (h:pR fn.ns=true):mZ K q fd fn:=fun y hy=>by rw[pS h y] at hy;exact BT.dQ hy
section
variable {K:Rj}
theorem tE (e:refOf o=some f):o=some (some (.ref f)):=by
 unfold refOf at e
 split at e
 ·cases e;rfl
 ·exact BT.gi e
theorem wG (X:K.In h) (G:h.Ns RI mg) {st:VF} (e:eS K (.fn x f st)=eU w (.fn x f st))
 (sc:fU fn.ns fn.ps (c7 st)) (hb:∀ (kV doc pm:Rl) (an:Option Rz) (cdv ct:Rl) (us:List Rl),us.length=fn.ps.length->Wn (SM x x (fS st) (dI st) (c7 st) .none kV doc pm an cdv ct) ⟨us,[]⟩=pure (fn.ps.zip us))
 (ck:CSs (c7 st) fn.ns fn.body (dI st)) (tg:∀ fd,Sh K RI x=some (some (.ref f))->(∃ oc od sl,K.lookup f=some ⟨oc,od,.func fd,sl⟩)->mZ K x fd fn):Def K mg x fn:=by
 simp only[eS,eU,Ov.fn.injEq] at e
 obtain ⟨fd,F,kV,doc,pm,an,cdv,ct,rfl⟩:=Dg e.2
 refine ⟨f,_,st,Tj X G (tE e.1),F,sc,F.binds hb,ck,tg _ (tE e.1) ?_⟩
 obtain ⟨oc,od,kV,doc,pm,an,cdv,ct,osl,e1,lk,_⟩:=F.ex
 exact ⟨oc,od,osl,lk⟩
theorem Di (e:eS K (.cls c C)=eU w (.cls c C)):mX K c C:=by
 simp only[eS,eU,Ov.b.injEq,KM,Rn,decide_eq_true_eq] at e
 obtain ⟨⟨⟨⟨⟨h1,h2⟩,h3⟩,h4⟩,h5⟩,h6⟩:=e
 refine ⟨h1,⟨h2,h3,h4,h5⟩,fun f hf=>?_⟩
 have hm:f∈attrs:=List.contains_iff_mem.mp hf
 exact of_decide_eq_true (p:=R6 K (.ref C) f=some none) (List.all_eq_true.mp h6 f hm)
theorem Gf (X:K.In h) (G:h.Ns RI mg) {st:VF} (ec:eS K (.cls c C)=eU w (.cls c C)) (em:eS K (.mk C)=eU w (.mk C)) (e:eS K (.me C m x qual f st)=eU w (.me C m x qual f st))
 (sc:fU fn.ns fn.ps (c7 st)) (hb:∀ (kV doc pm:Rl) (an:Option Rz) (cdv ct:Rl) (us:List Rl),us.length=fn.ps.length->Wn (SM x qual (fS st) (dI st) (c7 st) .none kV doc pm an cdv ct) ⟨us,[]⟩=pure (fn.ps.zip us))
 (ck:CSs (c7 st) fn.ns fn.body (dI st)) (tg:pR fn.ns=true):B9 K mg c m fn:=by
 have hC:=Di ec
 simp only[eS,eU,Ov.fn.injEq] at e
 obtain ⟨e1,e2⟩:=e
 obtain ⟨fd,F,kV,doc,pm,an,cdv,ct,rfl⟩:=Dg e2
 have e1':meB K C m f=true:=by
  cases q:meB K C m f with
  | true=>rfl
  | false=>rw[q] at e1;exact BT.gi e1
 simp only[meB,Rn,decide_eq_true_eq] at e1'
 simp only[eS,eU,Ov.b.injEq,mkB,Rn] at em
 refine ⟨C,f,_,x,qual,st,hC,Tj X G hC.cn,⟨e1'.1,e1'.2,F.kp⟩,fun z=>?_,F,sc,F.binds hb,ck,Dh tg⟩
 subst z
 exact ⟨em.1,e1'.1,e1'.2,em.2⟩
theorem none_of (X:K.In h) (G:h.Ns RI mg) (e:eS K (.no x)=eU w (.no x)):mg x=none:=by
 simp only[eS,eU,Ov.b.injEq,decide_eq_true_eq] at e
 exact PySem.W.mg_none_of X G e
theorem Dj (h:intOf v=some x):∃ t,v=.int x t:=by
 cases v<;>simp[intOf] at h
 exact ⟨_,by rw[h]⟩
theorem Dl (h:strOf v=some x):∃ t,v=.str x t:=by
 cases v<;>simp[strOf] at h
 exact ⟨_,by rw[h]⟩
theorem eN (X:K.In h) (G:h.Ns RI mg) (e:eS K (.int x n)=eU w (.int x n)):wF P w K mg x (.p (.int n)):=by
 simp only[eS,eU,Ov.int.injEq] at e
 split at e
 ·rename_i v hv
  obtain ⟨t,rfl⟩:=Dj e
  exact Dd X G hv
 ·exact BT.gi e
theorem yp:∀ {xs:List Str}{vs:List Rl},xs.all PyData.strOk=true->vs.map strOf=xs.map some->gf xs vs
 | [],[],_,_=>.nil
 | [],_ :: _,_,h=>by simp at h
 | _ :: _,[],_,h=>by simp at h
 | x :: xs,v :: vs,k,h=>by
  simp only[RL,Ul] at h
  simp only[Vt,Rn] at k
  obtain ⟨t,rfl⟩:=Dl h.1
  exact .cons k.1 (yp k.2 h.2)
theorem yq:∀ {kvs:List (Str×Int)}{es:List UC},es.map (fun e=>(e.hash,strOf e.key,intOf e.val))=kvs.map (fun q=>(PyData.keyHash w.params q.1,some q.1,some q.2))->iT w kvs es
 | [],[],_=>.nil
 | [],_ :: _,h=>by simp at h
 | _ :: _,[],h=>by simp at h
 | (x,n) :: kvs,⟨ha,k,v⟩ :: es,h=>by
  simp only[RL,Ul,V4] at h
  obtain ⟨⟨rfl,h2,h3⟩,hr⟩:=h
  obtain ⟨t,rfl⟩:=Dl h2
  obtain ⟨u,rfl⟩:=Dj h3
  exact .cons (yq hr)
theorem Dm (X:K.In h) (G:h.Ns RI mg) (e:eS K (.tup x f xs)=eU w (.tup x f xs)) (hl:xs.length<=1000) (hs:xs.all PyData.strOk=true):wF P w K mg x (.p (.tup (xs.map BT.D.str))):=by
 simp only[eS,eU,Ov.seq.injEq] at e
 obtain ⟨e1,e2,e3⟩:=e
 obtain ⟨o,l,e4⟩:=Option.map_eq_some_iff.mp e2
 rw[l] at e3
 obtain ⟨cl,di,da,sl⟩:=o
 simp only[shp,V4] at e4
 obtain ⟨rfl,rfl,e5⟩:=e4
 have:sl=#[]:=VE e5
 subst this
 simp only[S7,Gv] at e3
 cases da<;>simp only[Us,reduceCtorEq] at e3
 exact De X G (tE e1) l hl (yp hs e3)
theorem Dn (X:K.In h) (G:h.Ns RI mg) {x:Str}{f:Rz}{kvs:List (Str×Int)} (e:eS K (.dct x f kvs)=eU w (.dct x f kvs)) (hf:(f==Td)=false) (nd:(kvs.map (·.1)).Nodup):wF P w K mg x (.k (.t (kvs.map fun q=>(q.1,BT.D.int q.2)))):=by
 simp only[eS,eU,Ov.dct.injEq] at e
 obtain ⟨e1,e2,e3⟩:=e
 obtain ⟨o,l,e4⟩:=Option.map_eq_some_iff.mp e2
 rw[l] at e3
 obtain ⟨cl,di,da,sl⟩:=o
 simp only[shp,V4] at e4
 obtain ⟨rfl,rfl,e5⟩:=e4
 have:sl=#[]:=VE e5
 subst this
 simp only[S7,Gw] at e3
 cases da<;>simp only[Us,reduceCtorEq] at e3
 exact zY X G (tE e1) l hf (yq e3) nd
end
theorem zZ {α:Type}{us:List α}{n:Nat} (h:us.length=n+1):∃ a r,us=a :: r/\r.length=n:=by
 cases us with
 | nil=>simp at h
 | cons a r=>exact ⟨a,r,rfl,by simpa using h⟩
theorem len0 {α:Type}{us:List α} (h:us.length=0):us=[]:=VL h
theorem J9 {α:Type}{us:List α} (h:us.length=1):∃ a0,us=[a0]:=by
 obtain ⟨a0,r,rfl,g⟩:=zZ h
 exact ⟨a0,by rw[len0 g]⟩
theorem Ka {α:Type}{us:List α} (h:us.length=2):∃ a0 a1,us=[a0,a1]:=by
 obtain ⟨a0,r,rfl,g⟩:=zZ h
 obtain ⟨a1,rfl⟩:=J9 g
 exact ⟨a0,a1,rfl⟩
theorem Gg {α:Type}{us:List α} (h:us.length=3):∃ a0 a1 a2,us=[a0,a1,a2]:=by
 obtain ⟨a0,r,rfl,g⟩:=zZ h
 obtain ⟨a1,a2,rfl⟩:=Ka g
 exact ⟨a0,a1,a2,rfl⟩
theorem Kc {α:Type}{us:List α} (h:us.length=4):∃ a0 a1 a2 a3,us=[a0,a1,a2,a3]:=by
 obtain ⟨a0,r,rfl,g⟩:=zZ h
 obtain ⟨a1,a2,a3,rfl⟩:=Gg g
 exact ⟨a0,a1,a2,a3,rfl⟩
theorem NF {α:Type}{us:List α} (h:us.length=5):∃ a0 a1 a2 a3 a4,us=[a0,a1,a2,a3,a4]:=by
 obtain ⟨a0,r,rfl,g⟩:=zZ h
 obtain ⟨a1,a2,a3,a4,rfl⟩:=Kc g
 exact ⟨a0,a1,a2,a3,a4,rfl⟩
theorem Qh {α:Type}{us:List α} (h:us.length=6):∃ a0 a1 a2 a3 a4 a5,us=[a0,a1,a2,a3,a4,a5]:=by
 obtain ⟨a0,r,rfl,g⟩:=zZ h
 obtain ⟨a1,a2,a3,a4,a5,rfl⟩:=NF g
 exact ⟨a0,a1,a2,a3,a4,a5,rfl⟩
noncomputable abbrev BdT (x qual:Str) (st:VF) (fn:BT.Fn):Prop:=∀ (kV doc pm:Rl) (an:Option Rz) (cdv ct:Rl) (us:List Rl),us.length=fn.ps.length->Wn (SM x qual (fS st) (dI st) (c7 st) .none kV doc pm an cdv ct) ⟨us,[]⟩=pure (fn.ps.zip us)
structure CkB (x qual:Str) (s:VF) (f:BT.Fn):Prop where
 ck:CSs (c7 s) f.ns f.body (dI s):=by repeat' (first | rfl | constructor | decide +kernel)
 sc:fU f.ns f.ps (c7 s):=by constructor<;>first | rfl | decide +kernel
 bd:BdT x qual s f:=by intro _ _ _ _ _ _ us hl;first | (obtain ⟨a0,a1,rfl⟩:=Ka hl;rfl) | (obtain ⟨a0,rfl⟩:=J9 hl;rfl) | (obtain ⟨a0,a1,a2,rfl⟩:=Gg hl;rfl) | (obtain ⟨a0,a1,a2,a3,rfl⟩:=Kc hl;rfl) | (obtain rfl:=len0 hl;rfl) | (obtain ⟨a0,a1,a2,a3,a4,rfl⟩:=NF hl;rfl) | (obtain ⟨a0,a1,a2,a3,a4,a5,rfl⟩:=Qh hl;rfl)
theorem dk {p:Prop} (h:p:=by decide +kernel):p:=h
theorem hn {K:Rj}{w:Sb}{qs:List Qy} (hq:∀ q∈qs,eS K q=eU w q) (i:Nat) {a:Qy} (h:qs[i]?=some a):eS K a=eU w a:=hq _ (nth i h)
noncomputable def qV (K:Rj) (mg:Str->Option Rl) (p:BT.FK×BT.Fn):Prop:=(∀ x,p.1=.f x->Def K mg x p.2)/\(∀ c m,p.1=.m c m->B9 K mg c m p.2)/\∀ L,p.1=.l L->BT.qb L=some p.2/\∃ ns bt,p.2=⟨ns,ns,.ret bt⟩/\∀ y,ns.contains (BT.fu y)=false
theorem dd {K:Rj} (d:Def K mg x fn):qV K mg (.f x,fn):=⟨fun y e=>by cases e;exact d,fun c m e=>(by cases e),fun L e=>by cases e⟩
theorem dm {K:Rj} (d:B9 K mg c m fn):qV K mg (.m c m,fn):=⟨fun y e=>(by cases e),fun c m e=>by cases e;exact d,fun L e=>by cases e⟩
theorem cZ {α:Type}{Q:α->Prop}{a:α}{l:List α} (h:Q a) (t:∀ p∈l,Q p):∀ p∈a :: l,Q p:=List.forall_mem_cons.mpr ⟨h,t⟩
theorem Do {α:Type}{Q:α->Prop}:∀ p∈([]:List α),Q p:=fun _ h=>absurd h Up
theorem dl {K:Rj} (h:BT.qb L=some ⟨ns,ns,.ret bt⟩) (n:pR ns=true):qV K mg (.l L,⟨ns,ns,.ret bt⟩):=⟨fun y e=>(by cases e),fun c m e=>(by cases e),fun M e=>by cases e;exact ⟨h,ns,bt,rfl,pS n⟩⟩
section
variable {K:Rj}
theorem dd0 (X:K.In h) (G:h.Ns RI mg) {st:VF} (e:eS K (.fn x f st)=eU w (.fn x f st)) (c:CkB x x st fn) (tg:pR fn.ns=true:=by decide +kernel):qV K mg (.f x,fn) :=
 dd (wG X G e c.sc c.bd c.ck fun _ _ _=>Dh tg)
theorem dm0 (X:K.In h) (G:h.Ns RI mg) {st:VF} (ec:eS K (.cls c C)=eU w (.cls c C)) (em:eS K (.mk C)=eU w (.mk C)) (e:eS K (.me C m x qual f st)=eU w (.me C m x qual f st)) (k:CkB x qual st fn) (tg:pR fn.ns=true:=by decide +kernel):qV K mg (.m c m,fn) :=
 dm (Gf X G ec em e k.sc k.bd k.ck tg)
end
structure Gi (K:Rj) (tl:List (Str×Rz×Rz)):Prop where
 all:∀ z∈BT.gn,(∃ c P,(z,c,P)∈tl/\Sn K z=some (c,P))\/Sn K z=none
 hd:∀ q∈tl,UE K q.2.1 q.2.2=true
theorem lU {K:Rj} (e:eS K (.tab x c P)=eU w (.tab x c P)):Sn K x=some (c,P)/\UE K c P=true:=by
 simp only[eS,eU,Ov.b.injEq,Rn,decide_eq_true_eq] at e
 exact e
theorem d8 {K:Rj} (e:eS K (.no x)=eU w (.no x)):Sn K x=none:=by
 simp only[eS,eU,Ov.b.injEq,decide_eq_true_eq] at e
 unfold Sn
 rw[e]
theorem Dp {K:Rj} (h1:Sh K RI x=some (some (.ref f))) (h2:K.lookup f=some ⟨oc,od,.func fd,sl⟩) (h:Sn K x=some (c,P)):fd.code=.ref c:=by
 unfold Sn at h
 rw[h1] at h
 simp only[h2] at h
 split at h
 ·rename_i c' hc
  split at h
  ·split at h
   ·cases h;exact hc
   ·exact BT.gi h
  ·exact BT.gi h
 ·exact BT.gi h
theorem Ke {K:Rj} (e:eS K (.bm b)=eU w (.bm b)):∃ bm ob,Sh K RI "__builtins__"=some (some (.ref bm))/\bm≠To/\K.lookup bm=some ob/\ob.cls=.type "module"/\ob.dict=some To/\ob.data=.plain:=by
 simp only[eS,eU,Ov.b.injEq,bmB,Rn,decide_eq_true_eq] at e
 obtain ⟨⟨e1,e2⟩,e3⟩:=e
 split at e3
 ·rename_i d sl l
  exact ⟨b,_,e1,e2,l,rfl,congrArg some (eq_of_beq e3),rfl⟩
 ·exact BT.dQ e3
noncomputable def tabsOk (tl:List (Str×Rz×Rz)):Bool:=tl.all fun p=>tl.all fun q=>!(p.2.2==q.2.2)||p.1==q.1
theorem yr {K:Rj} (hns:fn.ns=ns++[BT.fu x]) (h0:pR ns=true) (mem:x∈BT.gn) (hT:Gi K tl) (hk:tabsOk tl=true) (hm:(x,c,P)∈tl) (et:eS K (.tab x c P)=eU w (.tab x c P)) (eb:eS K (.bm b)=eU w (.bm b)) :
 ∀ fd,Sh K RI x=some (some (.ref f))->(∃ oc od sl,K.lookup f=some ⟨oc,od,.func fd,sl⟩)->mZ K x fd fn:=fun fd h1 ⟨oc,od,sl,h2⟩ y hy=>by
 obtain ⟨t1,t2⟩:=lU et
 have e:y=x:=by
  have m:=List.contains_iff_mem.mp hy
  rw[hns] at m
  rcases List.mem_append.mp m with m | m
  ·have:=pS h0 y
   rw[List.contains_iff_mem.mpr m] at this;exact BT.yT this
  ·exact Ge (by simpa using m)
 subst e
 refine ⟨rfl,mem,⟨c,P,t1,Dp h1 h2 t1,t2,fun z hz c2 e2=>?_⟩,Ke eb⟩
 rcases hT.all z hz with ⟨c3,P3,m3,e3⟩ | e3
 ·rw[e2] at e3
  cases e3
  have:=List.all_eq_true.mp (List.all_eq_true.mp hk _ m3) _ hm
  simp only[beq_self_eq_true,Vu,Bool.false_or] at this
  exact eq_of_beq this
 ·rw[e2] at e3;cases e3
theorem wH {K:Rj} (e:K.lookup b=some o):b∈K.map (·.1):=List.mem_map.mpr ⟨(b,o),PySem.W.mem_of_lookupK e,rfl⟩
theorem z4 {K:Rj}
 (KX:K.In s₁.heap) (hns:s₁.heap.Ns RI mg) (hb:s₁.heap.Ns To mb) (hbb:∀ x:Str,x≠"__name__"->mb x=UI x) (hlim:s₁.heap.NoLimit) (hg:s₁.gens=#[])
 (ha:s₁.heap.get? a=some { cls:=.type "list",data:=.seq vs.toArray }) (hi:V6 vs ns) (hl:ns.length<=sizeLine) (hr:fz k Xf)
 (hT:Gi K tl) (hTs:∀ p∈tl,s₁.heap.get? p.2.2=some (TQ #[])) (hTk:∀ p∈tl,K.lookup p.2.2=none)
 (F:∀ base:Heap,je P w K mg base CX0 k fa fd [x] sp) (hbind:∀ (s:Rm) (u:Rl),K.In s.heap->BindsTo s fd ⟨[u],[]⟩ [(x,u)])
 (hsp:∀ H:Hp,TB K H->LL K H a (ns.map V.int)->sp [.ref a] H (fun v _=>v=.bl true) fun _ _ _=>False) :
 codeAny (RX P w) Xf (.call (.ref fa) ⟨[.ref a],[]⟩) (fun r s'=>r=.ok (.ret (.bool true))/\OldK s₁.heap s'.heap/\s'.os=s₁.os/\V7 s'.gens) s₁:=by
 have rv:=j0 hi
 have lenV:=hi.length
 have tne:∀ p∈tl,p.2.2≠a:=fun p hp z=>by
  have:=hTs p hp
  rw[z,ha] at this;cases this
 let so:HO:=.frz { cls:=.type "list",data:=.seq vs.toArray } (.lst (ns.map V.int))
 let H:Hp:=fun b=>if ∃ p∈tl,p.2.2=b then some (.tbl #[]) else if b=a/\K.lookup a=none then some so else none
 have Ht:∀ p∈tl,H p.2.2=some (.tbl #[]):=fun p hp=>if_pos ⟨p,hp,rfl⟩
 have Hcase:∀ b u,H b=some u->(∃ p∈tl,p.2.2=b/\u=.tbl #[])\/(b=a/\K.lookup a=none/\u=so):=fun b u e=>by
  by_cases c1:∃ p∈tl,p.2.2=b
  ·have e':some (HO.tbl #[])=some u:=(if_pos c1).symm.trans e
   obtain ⟨p,hp,h2⟩:=c1
   exact .inl ⟨p,hp,h2,(Ry e').symm⟩
  ·have e':(if b=a/\K.lookup a=none then some so else none)=some u:=(if_neg c1).symm.trans e
   by_cases c2:b=a/\K.lookup a=none
   ·rw[if_pos c2] at e'
    exact .inr ⟨c2.1,c2.2,(Ry e').symm⟩
   ·rw[if_neg c2] at e';exact BT.gi e'
 have noA:∀ {b:Rz}{o:Obj}{es:Array UC}{ep:Nat},s₁.heap.get? b=some o->o.data=.dict es ep->H b=none:=fun {b o es ep} e d=>by
  cases q:H b with
  | none=>rfl
  | some u =>
   rcases Hcase b u q with ⟨p,hp,h2,_⟩ | ⟨h2,_⟩
   ·have z:=hTs p hp
    rw[h2,e] at z;cases z;cases d
   ·rw[h2,ha] at e;cases e
    have d':Data.seq vs.toArray _=Data.dict es ep:=d
    cases d'
 have nsK:∀ {b:Rz}{m:Str->Option Rl},s₁.heap.Ns b m->(tH s₁.heap H).Ns b m:=fun {b m} ⟨o,es,ep,e,d,r⟩=>⟨o,es,ep,tK e (noA e d),d,r⟩
 have hKb:K.In (tH s₁.heap H):=fun b o e=>tK (KX b o e) (by
  cases q:H b with
  | none=>rfl
  | some u =>
   rcases Hcase b u q with ⟨p,hp,h2,_⟩ | ⟨h2,h3,_⟩
   ·rw[← h2,hTk p hp] at e;exact BT.gi e
   ·rw[h2,h3] at e;exact BT.gi e)
 have hM:Mod K mg (tH s₁.heap H):=⟨hKb,nsK hns,⟨mb,nsK hb,hbb⟩,let ⟨mc,h1,h2⟩:=hlim;⟨mc,nsK h1,h2⟩⟩
 have hok:HOk P w H s₁.heap:=fun b u e=>by
  rcases Hcase b u e with ⟨p,hp,h2,rfl⟩ | ⟨h2,_,rfl⟩
  ·subst h2;exact hTs p hp
  ·subst h2;exact ⟨ha,by rw[RP];exact hl,vs,_,rv,ha⟩
 have e0:nW P w K mg (tH s₁.heap H) Xf [] s₁ H:=⟨rfl,hM,fun b o e=>Dv e,Nat.le_of_eq (yv _ _),trivial,fun b hb=>absurd (show b∈([]:List Rz) from hb) (by simp),hok,.of_eq hg⟩
 have tb:TB K H:=fun z hz c Pt e=>by
  rcases hT.all z hz with ⟨c3,P3,m3,e3⟩ | e3
  ·rw[e] at e3;cases e3
   exact ⟨#[],Ht _ m3,trivial,fun pos v q=>by cases q⟩
  ·rw[e] at e3;cases e3
 have hS:LL K H a (ns.map V.int):=by
  cases hk:K.lookup a with
  | some o =>
   have e:=KX a o hk
   rw[ha] at e
   cases e
   exact .inr ⟨vs,_,hk,by rw[lenV];exact hl,rv⟩
  | none =>
   refine .inl (.inr ⟨{ cls:=.type "list",data:=.seq vs.toArray },?_⟩)
   have e1:H a=(if a=a/\K.lookup a=none then some so else none):=if_neg fun ⟨p,hp,z⟩=>tne p hp z
   rw[e1,if_pos ⟨rfl,hk⟩]
 refine codeAny_mono ((F _).run Xf [] s₁ H ⟨[.ref a],[]⟩ [.ref a] [.ref a] _ _ hr e0 (hbind s₁ (.ref a) KX) (.cons rfl .nil) (hsp H tb hS)) fun r s' h=>?_
 cases r with
 | error e=>exact Sk h
 | ok fl =>
  cases fl with
  | next=>exact Sk h
  | brk=>exact Sk h
  | cont=>exact Sk h
  | ret u =>
   obtain ⟨v,H',os,bare,un,hok',r',q⟩:=h
   have q':v=.bl true:=q
   subst q'
   obtain rfl:u=Xg true:=r'
   have kp:∀ b o,s₁.heap.get? b=some o->(s'.heap.get? b=some o)\/∃ p∈tl,p.2.2=b/\∃ more,s'.heap.get? b=some (TQ (#[]++more)):=fun b o e=>by
    cases q:H b with
    | none=>exact .inl (un.keep b o e q (by intro z;exact absurd (show b∈([]:List Rz) from z) (by simp)) (by simp))
    | some u =>
     rcases Hcase b u q with ⟨p,hp,h2,rfl⟩ | ⟨h2,h3,rfl⟩
     ·obtain ⟨more,z⟩:=un.tbls b _ q
      exact .inr ⟨p,hp,h2,more,hok' b _ z⟩
     ·have z2:=un.frzs b _ _ q
      obtain ⟨e1,_⟩:=hok b _ q
      obtain ⟨e2,_⟩:=hok' b _ z2
      rw[e] at e1;cases e1
      exact .inl e2
   refine ⟨rfl,⟨fun b o e=>?_,fun b o e=>?_⟩,os,bare⟩
   ·rcases kp b o e with z | ⟨p,hp,rfl,more,z⟩
    ·exact .inl z
    ·have e2:=hTs p hp
     rw[e] at e2
     cases e2
     have tA:=(WB KX (hT.hd p hp)).tab e
     exact .inr (.inl ⟨tA.isCodeTable,rfl,#[],more,rfl,z⟩)
   ·rcases kp b o e with z | ⟨p,hp,rfl,more,z⟩
    ·exact ⟨o,z⟩
    ·exact ⟨_,z⟩
theorem Dq {l:PySem.W.OpenLaw}{n k:Nat}{q:RG}{loose:List Str}{XP:(Str->Option Rl)->Heap->Prop}{d:DefRec}{as:List Rz}{qs:List Qy}{ts:List Rz}{tl:List (Str×Rz×Rz)}{T:BT.FK->Option BT.Fn}{G:Str->Option BT.W}{fn:BT.Fn}{x:Str}
 (hn:l.most=some n) (hn2:n<=sizeLine) (hdf:d.params.defaults=[]) (hr:fz (2*k) Xf) (hps:fn.ps=[x]) (hT:T (.f d.name)=some fn) (hts:ts=tl.map (·.2.2)) (hto:tl.all (fun p=>!as.contains p.2.2)=true)
 (FT:∀ (w:Sb) (K:Rj),(∀ q∈qs,eS K q=eU w q)->Gi K tl)
 (F:∀ (P:RG) (w:Sb) (mg:Str->Option Rl) (K:Rj) (h:Heap),K.In h->h.Ns RI mg->(∀ q∈qs,eS K q=eU w q)->Txt P w K mg T G)
 (hrun:∀ ns:List Int,ns.length<=n->∃ h',BT.runN T G k (.f d.name) [.p (.lst (BT.cV ns))] []=some (.p (.bl true),h')) :
 PySem.W.WalkO q loose XP (sees as qs ts).says l.row.toRowW d [] (fun f vs=>Xh f vs):=by
 refine Att.tT hn hdf fun w s₀ s₁ mg mb fa o pm cd doc a vs ns Gr Y ho hd hcd hmg hobj hints hlen hg=>?_
 obtain ⟨K,k0,k1,k2,k3⟩:=Y
 have KX:=Gd k1
 have X:=F l.prog w mg K s₁.heap KX Gr.T.g k2
 obtain ⟨f,fd,st,h1,h2,h3,h4,h5,h6⟩:=(X.defs _ fn hT).ex
 rw[hmg] at h1
 cases h1
 refine z4 (sp:=spF l.prog w K (BT.runN T G k (.f d.name))) (x:=x) (k:=2*k) (fd:=fd) (tl:=tl) KX Gr.T.g Gr.T.b Gr.T.builtins Gr.T.nolimit hg hobj hints (Sq hlen hn2) hr (FT w K k2) (fun p hp=>k3 _ (by rw[hts];exact W6 hp)) (fun p hp=>?_) (fun base=>?_) (fun s u hK=>?_) (fun H tb hS=>Df tb hS (hrun ns hlen))
 ·cases e:K.lookup p.2.2 with
  | none=>rfl
  | some o =>
   have m:=wH e
   rw[k0] at m
   have:=List.all_eq_true.mp hto p hp
   rw[List.contains_iff_mem.mpr m] at this;exact BT.dQ this
 ·have:=JE (base:=base) X k (.f d.name) fn hT _ fd d.name d.name st h2 h3 h5 h6
  rw[hps] at this
  exact this
 ·have:=h4 s [u] hK (by rw[hps];rfl)
  rw[hps] at this
  exact this
end BG
end
section
namespace BL
open PySem PySem.Spec PyProof.Rows L2 BS BF BG
theorem ck6:CkB "is_whole" "is_whole" (top 6) BT.iP:={}
theorem ck7:CkB "is_name" "is_name" (top 7) BT.iz:={}
theorem ck8:CkB "is_cell" "is_cell" (top 8) BT.jw:={}
theorem ck9:CkB "inner_sums" "inner_sums" (top 9) BT.fB:={}
theorem Qi:CkB "begun" "begun" (top 22) BT.lJ:={}
theorem Qj:CkB "check_thing" "check_thing" (top 23) BT.ff:={}
theorem Qk:CkB "worth_in" "worth_in" (top 24) BT.gy:={}
theorem Ql:CkB "laid_out" "laid_out" (top 25) BT.iM:={}
theorem Qm:CkB "of_two" "of_two" (top 26) BT.kg:={}
theorem Qn:CkB "worth_of" "worth_of" (top 27) BT.eZ:={}
theorem Qo:CkB "reckoned" "reckoned" (top 28) BT.iN:={}
theorem Qp:CkB "cell_by" "cell_by" (top 29) BT.jo:={}
theorem Qq:CkB "is_over" "is_over" (top 30) BT.iA:={}
theorem Qs:CkB "place_behind" "place_behind" (top 31) BT.fE:={}
theorem Qt:CkB "with_worth" "with_worth" (top 32) BT.gq:={}
theorem Qu:CkB "with_name" "with_name" (top 33) BT.gH:={}
theorem Qv:CkB "with_thing" "with_thing" (top 34) BT.fC:={}
theorem Qw:CkB "brought" "brought" (top 35) BT.iB:={}
theorem Qx:CkB "stepped" "stepped" (top 36) BT.jq:={}
theorem Qz:CkB "differences" "differences" (top 40) BT.f9:={}
theorem QA:CkB "differing" "differing" (top 41) BT.gO:={}
theorem Kf:CkB "first_other" "first_other" (top 42) BT.fh:={}
theorem QB:CkB "change_at" "change_at" (top 43) BT.gP:={}
theorem QC:CkB "led" "led" (top 44) BT.sO:={}
theorem QD:CkB "led_back" "led_back" (top 45) BT.iS:={}
theorem QE:CkB "led_on" "led_on" (top 46) BT.ko:={}
theorem Kg:CkB "worths_of" "worths_of" (top 48) BT.gc:={}
theorem QF:CkB "changes" "changes" (top 49) BT.jx:={}
theorem QG:CkB "_law_cell" "_law_cell" (top 54) BT.gA:={}
theorem QH:CkB "_law_drawn" "_law_drawn" (top 55) BT.gJ:={}
theorem QI:CkB "_law_sum" "_law_sum" (top 56) BT.fK:={}
theorem QJ:CkB "_law_row" "_law_row" (top 57) BT.jr:={}
theorem QK:CkB "_law_program" "_law_program" (top 58) BT.e9:={}
theorem QL:CkB "_law_asked" "_law_asked" (top 59) BT.gK:={}
theorem QM:CkB "law" "law" (top 60) BT.jW:={}
theorem Kl:CkB "__init__" "Tape.__init__" (iG 52 0) BT.gM:={}
theorem Km:CkB "at" "Tape.at" (iG 52 1) BT.ju:={}
theorem Kn:CkB "end" "Tape.end" (iG 52 2) BT.iQ:={}
theorem Gj:CkB "behind" "Tape.behind" (iG 52 10) BT.fZ:={}
theorem Gk:CkB "is_last" "Tape.is_last" (iG 52 11) BT.eH:={}
theorem Gm:CkB "keep" "Tape.keep" (iG 52 12) BT.f7:={}
theorem Gn:CkB "reach" "Tape.reach" (iG 52 13) BT.gu:={}
theorem Gp:CkB "has" "Tape.has" (iG 52 14) BT.iR:={}
theorem Gq:CkB "check" "Tape.check" (iG 52 15) BT.gw:={}
theorem Gs:CkB "readings" "Tape.readings" (iG 52 16) BT.fk:={}
theorem Gu:CkB "first_from" "Tape.first_from" (iG 52 18) BT.eg:={}
noncomputable def tab:List (BT.FK×BT.Fn):=[(.f "is_whole",BT.iP),(.f "is_name",BT.iz),(.f "is_cell",BT.jw),(.f "inner_sums",BT.fB),(.f "begun",BT.lJ),(.f "check_thing",BT.ff),(.f "worth_in",BT.gy),(.f "laid_out",BT.iM),(.f "of_two",BT.kg),(.f "worth_of",BT.eZ),(.f "reckoned",BT.iN),(.f "cell_by",BT.jo),(.f "is_over",BT.iA),(.f "place_behind",BT.fE),(.f "with_worth",BT.gq),(.f "with_name",BT.gH),(.f "with_thing",BT.fC),(.f "brought",BT.iB),(.f "stepped",BT.jq),(.f "differences",BT.f9),(.f "differing",BT.gO),(.f "first_other",BT.fh),(.f "change_at",BT.gP),(.f "led",BT.sO),(.f "led_back",BT.iS),(.f "led_on",BT.ko),(.f "worths_of",BT.gc),(.f "changes",BT.jx),(.f "_law_cell",BT.gA),(.f "_law_drawn",BT.gJ),(.f "_law_sum",BT.fK),(.f "_law_row",BT.jr),(.f "_law_program",BT.e9),(.f "_law_asked",BT.gK),(.f "law",BT.jW),(.m "Tape" "__init__",BT.gM),(.m "Tape" "at",BT.ju),(.m "Tape" "end",BT.iQ),(.m "Tape" "behind",BT.fZ),(.m "Tape" "is_last",BT.eH),(.m "Tape" "keep",BT.f7),(.m "Tape" "reach",BT.gu),(.m "Tape" "has",BT.iR),(.m "Tape" "check",BT.gw),(.m "Tape" "readings",BT.fk),(.m "Tape" "first_from",BT.eg),(.l 11,BT.um),(.l 0,BT.Eh)]
noncomputable def glo:List (Str×BT.W):=[("CELL_COUNT",.p (.int 4)),("WORTH_COUNT",.p (.int 10007)),("ROW",.p (.int 0)),("NAMES",.p (.int 1)),("CELLS",.p (.int 2)),("CALLS",.p (.int 3)),("ASKED",.p (.int 4)),("SAID",.p (.int 5)),("MOST_CALLS",.p (.int 6)),("AHEAD",.p (.int 0)),("BEHIND",.p (.int 1)),("MOST_MARKS",.p (.int 8)),("LETTERS",.p (.tup ((["a","b","c","d","e","f"]:List Str).map BT.D.str))),("INNER_COUNTS",.k (.t (([("num",0),("name",0),("cell",1),("add",2),("sub",2),("mul",2),("less",2)]:List (Str×Int)).map fun q=>(q.1,BT.D.int q.2))))]
noncomputable abbrev T:BT.FK->Option BT.Fn:=look tab
noncomputable abbrev G:Str->Option BT.W:=look glo
theorem prg:BT.Prg T G:=⟨rfl,rfl,rfl,rfl,rfl,rfl,rfl,rfl,rfl,rfl,rfl,rfl,rfl,rfl,rfl,rfl,rfl,rfl,rfl,rfl,rfl,rfl,rfl,rfl,rfl,rfl⟩
theorem tpp:BT.TpP T G:=⟨prg,rfl,rfl,rfl,rfl,rfl,rfl,rfl,rfl,rfl,rfl⟩
theorem run (ns:List Int) (h:ns.length<=1000):∃ h',BT.runN T G 40 "law" [.p (.lst (BT.cV ns))] []=some (.p (.bl true),h'):=BT.zX ⟨tpp,⟨rfl⟩,⟨rfl⟩,⟨rfl,rfl⟩,⟨rfl,rfl,rfl,rfl⟩,⟨rfl,rfl,rfl,rfl,rfl,rfl,rfl⟩,⟨rfl⟩,⟨rfl,rfl,rfl⟩⟩ ⟨⟨rfl,rfl,rfl,rfl,rfl⟩,rfl,rfl⟩ ns h 25
theorem NG (w:Sb) (K:Rj) (hq:∀ q∈qys,eS K q=eU w q):Gi K tl:=by
 refine ⟨fun z hz=>?_,fun p hp=>?_⟩
 ·simp only[BT.gn,Vs,Up,or_false] at hz
  rcases hz with rfl | rfl | rfl | rfl | rfl | rfl | rfl | rfl | rfl | rfl | rfl | rfl | rfl | rfl | rfl
  ·exact .inl ⟨248,244,nth 1 rfl,(lU (w:=w) (hn hq 70 rfl)).1⟩
  ·exact .inr (d8 (w:=w) (hn hq 71 rfl))
  ·exact .inr (d8 (w:=w) (hn hq 72 rfl))
  ·exact .inr (d8 (w:=w) (hn hq 73 rfl))
  ·exact .inr (d8 (w:=w) (hn hq 74 rfl))
  ·exact .inr (d8 (w:=w) (hn hq 75 rfl))
  ·exact .inr (d8 (w:=w) (hn hq 76 rfl))
  ·exact .inr (d8 (w:=w) (hn hq 77 rfl))
  ·exact .inr (d8 (w:=w) (hn hq 78 rfl))
  ·exact .inr (d8 (w:=w) (hn hq 79 rfl))
  ·exact .inr (d8 (w:=w) (hn hq 80 rfl))
  ·exact .inl ⟨213,209,nth 0 rfl,(lU (w:=w) (hn hq 81 rfl)).1⟩
  ·exact .inr (d8 (w:=w) (hn hq 82 rfl))
  ·exact .inr (d8 (w:=w) (hn hq 83 rfl))
  ·exact .inr (d8 (w:=w) (hn hq 84 rfl))
 ·simp only[tl,Vs,Up,or_false] at hp
  rcases hp with rfl | rfl
  ·exact (lU (w:=w) (hn hq 81 rfl)).2
  ·exact (lU (w:=w) (hn hq 70 rfl)).2
theorem txt (P:RG) (w:Sb) (mg:Str->Option Rl) (K:Rj) (h:Heap) (X:K.In h) (Gh:h.Ns RI mg) (hq:∀ q∈qys,eS K q=eU w q):Txt P w K mg T G:=by
 have tbf:=NG w K hq
 have all:∀ p∈tab,qV K mg p:=cZ (dd0 X Gh (hn hq 0 rfl) ck6) <| cZ (dd0 X Gh (hn hq 1 rfl) ck7) <| cZ (dd0 X Gh (hn hq 2 rfl) ck8) <| cZ (dd0 X Gh (hn hq 3 rfl) ck9) <| cZ (dd0 X Gh (hn hq 4 rfl) Qi) <| cZ (dd0 X Gh (hn hq 5 rfl) Qj) <| cZ (dd0 X Gh (hn hq 6 rfl) Qk) <| cZ (dd0 X Gh (hn hq 7 rfl) Ql) <| cZ (dd0 X Gh (hn hq 8 rfl) Qm) <| cZ (dd0 X Gh (hn hq 9 rfl) Qn) <| cZ (dd0 X Gh (hn hq 10 rfl) Qo) <| cZ (dd0 X Gh (hn hq 11 rfl) Qp) <| cZ (dd0 X Gh (hn hq 12 rfl) Qq) <| cZ (dd0 X Gh (hn hq 13 rfl) Qs) <| cZ (dd0 X Gh (hn hq 14 rfl) Qt) <| cZ (dd0 X Gh (hn hq 15 rfl) Qu) <| cZ (dd0 X Gh (hn hq 16 rfl) Qv) <| cZ (dd0 X Gh (hn hq 17 rfl) Qw) <| cZ (dd0 X Gh (hn hq 18 rfl) Qx) <| cZ (dd0 X Gh (hn hq 19 rfl) Qz) <| cZ (dd0 X Gh (hn hq 20 rfl) QA) <| cZ (dd (wG X Gh (hn hq 21 rfl) Kf.sc Kf.bd Kf.ck (yr (f:=214) (ns:=BT.fh.ns.dropLast) dk dk dk tbf dk (nth 0 rfl) (hn hq 81 rfl) (hn hq 85 rfl)))) <| cZ (dd0 X Gh (hn hq 22 rfl) QB) <| cZ (dd0 X Gh (hn hq 23 rfl) QC) <| cZ (dd0 X Gh (hn hq 24 rfl) QD) <| cZ (dd0 X Gh (hn hq 25 rfl) QE) <| cZ (dd (wG X Gh (hn hq 26 rfl) Kg.sc Kg.bd Kg.ck (yr (f:=249) (ns:=BT.gc.ns.dropLast) dk dk dk tbf dk (nth 1 rfl) (hn hq 70 rfl) (hn hq 85 rfl)))) <| cZ (dd0 X Gh (hn hq 27 rfl) QF) <| cZ (dd0 X Gh (hn hq 28 rfl) QG) <| cZ (dd0 X Gh (hn hq 29 rfl) QH) <| cZ (dd0 X Gh (hn hq 30 rfl) QI) <| cZ (dd0 X Gh (hn hq 31 rfl) QJ) <| cZ (dd0 X Gh (hn hq 32 rfl) QK) <| cZ (dd0 X Gh (hn hq 33 rfl) QL) <| cZ (dd0 X Gh (hn hq 34 rfl) QM) <| cZ (dm0 X Gh (hn hq 86 rfl) (hn hq 87 rfl) (hn hq 88 rfl) Kl) <| cZ (dm0 X Gh (hn hq 86 rfl) (hn hq 87 rfl) (hn hq 89 rfl) Km) <| cZ (dm0 X Gh (hn hq 86 rfl) (hn hq 87 rfl) (hn hq 90 rfl) Kn) <| cZ (dm0 X Gh (hn hq 86 rfl) (hn hq 87 rfl) (hn hq 91 rfl) Gj) <| cZ (dm0 X Gh (hn hq 86 rfl) (hn hq 87 rfl) (hn hq 92 rfl) Gk) <| cZ (dm0 X Gh (hn hq 86 rfl) (hn hq 87 rfl) (hn hq 93 rfl) Gm) <| cZ (dm0 X Gh (hn hq 86 rfl) (hn hq 87 rfl) (hn hq 94 rfl) Gn) <| cZ (dm0 X Gh (hn hq 86 rfl) (hn hq 87 rfl) (hn hq 95 rfl) Gp) <| cZ (dm0 X Gh (hn hq 86 rfl) (hn hq 87 rfl) (hn hq 96 rfl) Gq) <| cZ (dm0 X Gh (hn hq 86 rfl) (hn hq 87 rfl) (hn hq 97 rfl) Gs) <| cZ (dm0 X Gh (hn hq 86 rfl) (hn hq 87 rfl) (hn hq 98 rfl) Gu) <| cZ (dl rfl (by decide +kernel)) <| cZ (dl rfl (by decide +kernel)) <| Do
 refine ⟨fun x fn e=>?_,fun c m fn e=>?_,fun L fn e=>?_,fun x z e=>?_,?_⟩
 ·exact jX (Q:=fun k fn=>∀ x,k=.f x->Def K mg x fn) (l:=tab) (fun p hp=>(all p hp).1) e x rfl
 ·exact jX (Q:=fun k fn=>∀ c m,k=.m c m->B9 K mg c m fn) (l:=tab) (fun p hp=>(all p hp).2.1) e c m rfl
 ·exact jX (Q:=fun k fn=>∀ L,k=.l L->BT.qb L=some fn/\∃ ns bt,fn=⟨ns,ns,.ret bt⟩/\∀ y,ns.contains (BT.fu y)=false) (l:=tab) (fun p hp=>(all p hp).2.2) e L rfl
 ·exact jX (Q:=fun x z=>wF P w K mg x z) (l:=glo) (cZ (eN X Gh (hn hq 35 rfl)) <| cZ (eN X Gh (hn hq 36 rfl)) <| cZ (eN X Gh (hn hq 37 rfl)) <| cZ (eN X Gh (hn hq 38 rfl)) <| cZ (eN X Gh (hn hq 39 rfl)) <| cZ (eN X Gh (hn hq 40 rfl)) <| cZ (eN X Gh (hn hq 41 rfl)) <| cZ (eN X Gh (hn hq 42 rfl)) <| cZ (eN X Gh (hn hq 43 rfl)) <| cZ (eN X Gh (hn hq 44 rfl)) <| cZ (eN X Gh (hn hq 45 rfl)) <| cZ (eN X Gh (hn hq 46 rfl)) <| cZ (Dm X Gh (hn hq 47 rfl) (by decide) (by decide +kernel)) <| cZ (Dn X Gh (hn hq 48 rfl) (by decide) (by decide +kernel)) <| Do) e
 ·exact cZ (none_of X Gh (hn hq 49 rfl)) <| cZ (none_of X Gh (hn hq 50 rfl)) <| cZ (none_of X Gh (hn hq 51 rfl)) <| cZ (none_of X Gh (hn hq 52 rfl)) <| cZ (none_of X Gh (hn hq 53 rfl)) <| cZ (none_of X Gh (hn hq 54 rfl)) <| cZ (none_of X Gh (hn hq 55 rfl)) <| cZ (none_of X Gh (hn hq 56 rfl)) <| cZ (none_of X Gh (hn hq 57 rfl)) <| cZ (none_of X Gh (hn hq 58 rfl)) <| cZ (none_of X Gh (hn hq 59 rfl)) <| cZ (none_of X Gh (hn hq 60 rfl)) <| cZ (none_of X Gh (hn hq 61 rfl)) <| cZ (none_of X Gh (hn hq 62 rfl)) <| cZ (none_of X Gh (hn hq 63 rfl)) <| cZ (none_of X Gh (hn hq 64 rfl)) <| cZ (none_of X Gh (hn hq 65 rfl)) <| cZ (none_of X Gh (hn hq 66 rfl)) <| cZ (none_of X Gh (hn hq 67 rfl)) <| cZ (none_of X Gh (hn hq 68 rfl)) <| cZ (none_of X Gh (hn hq 69 rfl)) <| Do
noncomputable abbrev lw:DefRec:=⟨"law",fS (top 60),dI (top 60),c7 (top 60),OG (top 60)⟩
theorem df:PySem.W.defOf qg "law"=some (lw,[]):=by kernel_rfl
theorem th:pg.theDef "law"=some (lw.params,lw.body,lw.scope):=by kernel_rfl
theorem walk:PySem.W.WalkO qg loo (PySem.W.XL qg []) (sees adr qys tas).says PySem.Challenge.rw_backtape_k41_whole_differing.row.toRowW lw [] (fun f vs=>Xh f vs) :=
 Dq (l:=PySem.Challenge.rw_backtape_k41_whole_differing) (n:=63) (k:=40) (x:="_law_script") (d:=lw) (T:=T) (G:=G) (ts:=tas) (fn:=BT.jW) rfl (by decide) rfl ⟨rfl,by decide,by decide⟩ rfl rfl (tl:=tl) rfl (by decide +kernel) NG txt fun ns hl=>run ns (by lia)
end BL
open PySem PySem.W PyProof.Rows
set_option maxRecDepth 100000 in
set_option maxHeartbeats 0 in
theorem PySem.Challenge.cw_backtape_k41_whole_differing_holds : PySem.Challenge.rw_backtape_k41_whole_differing.Holds := by
 w_on;refine PySem.W.holds_law (by decide +kernel) fun said=>?_
 refine PySem.W.holds_open (q:=BL.qg) (loose:=BL.loo) (XP:=XL BL.qg []) (YP:=(BG.sees BL.adr BL.qys BL.tas).says) (d:=BL.lw) (kwd:=[]) BL.left (BG.sees BL.adr BL.qys BL.tas).of (BG.sees BL.adr BL.qys BL.tas).keeps (fun s e=>xl_of s (Bool.and_eq_true_iff.mp e).1) XL.keeps BL.df BL.th (by kernel_rfl) (fun s e=>recFacts_of (Bool.and_eq_true_iff.mp e).2) rfl (by first | assumption | decide +kernel) (by decide +kernel) ⟨rfl,rfl,rfl,rfl,rfl,by decide +kernel⟩ ?hw BL.walk
 (case hw=>w_witness2)
#print axioms PySem.Challenge.cw_backtape_k41_whole_differing_holds
end
end

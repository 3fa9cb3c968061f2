import PyProof.Rows.All
import Wide.All
import OpenK.AllK
import Wide.FinOn
import PyProof.EqAt
import PyProof.EqKinds
import PyProof.TupleCall
import Open.Tree
import Wide.Once
import KE.KLam
import KE.KNestM
import KE.KIsAll
import OpenK.KMore
import KE.KSortTup
import PyProof.Rows.SetFrom
import PyProof.IsiH_list
import PyProof.Rows.Exc
import KE.KDictOf
import PySem.Syntax
import PySem.Builtin.Str.Common
import PyProof.SliceList
import PyProof.StrCalls2
import KE.KIntText
import PyProof.NeData
import PyProof.ExcAttrAll.ValueError
import PyProof.ZipIter
import KE.KRevIter
import KE.KItemsList
import KE.KDictSum
import PyProof.DictWalks
import KE.KPairComp
import KE.KEqDict
import PyProof.StrBlock2
import PyProof.StrBlockL
import PyProof.ConsumeWalk
import PyProof.ListRange
import PyProof.EnumFor
import PyProof.EnumMake
import PyProof.EnumStmt
import PyProof.CompFree
import PyProof.PlainList
import PyProof.Draws
import PyProof.StrWalks
import PyProof.StrLawsTight
import KE.KTryDeep
import PyProof.FString
import PyProof.FitsInt
import PyProof.RulesAs
import PyProof.ExcBaseAll.ValueError
import PyProof.StrLawsChain
import PyProof.FitsReplace
import PyProof.Rows.StrIntSpec
import KE.IntTextLaws
import Lean
import PySem.Challenge.RW_backtape_k81_whole_read
set_option autoImplicit true
set_option Elab.async false
set_option linter.all false
set_option maxRecDepth 100000
set_option maxHeartbeats 8000000
set_option genSizeOf false
set_option compiler.extract_closed false
set_option bootstrap.genMatcherCode false
noncomputable section
open PySem renaming Value->aA,Str->az,wpAny->ay,wpAny_pure->av,Heap->au,Obj->aq,codeAny->ao,sizeLine->ak
open Option renaming some->aa,none->af
open Bool renaming true->ah,false->ai
open PySem.W renaming Frag->SA,nsIn->TL,keepIn->TM,mg_of->Ua,findIn->Ud,hideAll->Uw,kitOne->UE,tabIn->UN,fnOf->UO,kia_one->U1,hideAll_get->Vh,codeHd_of_K->VP,of_hideAll->VU,hasDictIn->V0,envX->Wo,tabObj->Wz,codeIn->WA,mroIn->WS,methodObj->W1,codeHdIn->W6,byRow2->Xu,absHeap->XU,SharedT->XY,recOk->XZ,excIn->X0,cellsFrom_some->Yc,xlAt->Yi,isFn->Yj,hideAll_none->Ys,callWith_K->YB,specialIn->YI,plainOver->YJ,wideGood->YS,plainGet->YU,clsGoodW->YV,openSeen->Y8,takesIn->Ze,makesIn->Zf,kla_obj->Zg
open PySem renaming wpAny_bind->SD,Shared->SL,Expr->SR,Addr->S6,mainGlobals->S7,Program->Td,Stmt->Tg,model->Ti,strIterType->Tt,World->Tz,starEach->T5,wpAny_newObj_type->T6,wpAny_field->T9,Around->Ub,compareOp->Uj,wpAny_holding->Ul,Scope->Um,wpAny_callSpecial?_slot->Ur,intText?->Uv,wpAny_truthy_bool->Uz,wpAny_mono->UA,FuncData->UQ,binaryOp->US,sysModules->UV,wpAny_call_entry->U4,wpAny_seqItems->U6,wpAny_setField_rec->Va,wpAny_Call_Name_kw->Vb,wpAny_passesOwn->Vf,sliceBounds->Vg,call_meets->Vk,assignEach->Vl,mem_of_lookup->Vm,IsPair->Vt,wpAny_execs_cons->Vv,builtinsNs->Vy,letOwnedTupleGo->VB,NameKind->VC,DictEntry->VF,bootBuiltins->VR,backTo->VS,wpAny_standAt->VZ,wpAny_loadPart'->V8,reprQuote->V9,swapsWith->Wv,wpAny_attempt->WG,getItem->WH,behindInMarks->WI,Keyword->WL,wpAny_Call_method_late->WQ,wpAny_pyReprObj_gives->WY,wpAny_execs_nil->WZ,importedModules->W0,wpAny_updateSeq_pair->W5,Expr->Xc,excClassObj->Xd,Builtin->Xg,Stmt->Xj,wpAny_onRaise->Xl,noteFrame->Xn,evalPart_none->Xo,comprehension->Xp,assign->Xq,PassesOwn->Xw,IsZip->Xy,Arguments->Xz,wpAny_sequenceKey->XJ,wpAny_pyIter_list->XM,wpAny_Assign_Name->XQ,holding->XR,foldedSetIterable->XS,wpAny_typeOf->X9,codeAny_mono->Yb,IsPart->Yg,noFill_tuple_add->Yh,compEnvC->Yr,Operator->Yt,wpAny_in_of->Yx,wpAny_setField->YF,wpAny_binaryOp_repeat_ref->YG,bltViewBooted->YH,wpAny_rule->YO,rawInt->YQ,pyNext->YR,PlainAttrs->YX,wpAny_list_append_plain->Y4,spliced->Y6,seq_tuple_add->Y7,leaving->Y9,evalPart_some->Za,callerA->Zb,attributeBase->Zc,call->Zd
open PySem.Str renaming ofString->SE,join->SV,length_append->UI,length->VT,ofString_eq_toList->Wx,empty->WJ
open List renaming mem_cons_self->SG,mem_cons_of_mem->SI,length_map->SJ,length_append->SN,size_toArray->SQ,length_cons->SX,getElem?_eq_getElem->Tc,replicate->Te,getElem?_append_left->Tf,mem_append_right->Tj,getElem?_eq_none->Tv,map_cons->Tw,append_assoc->TH,mem_of_getElem?->TQ,not_mem_nil->TR,all_eq_true->TU,map_append->TV,take_append_drop->TZ,mem_append_left->T4,getElem?_append_right->Uc,append_nil->Ug,mem_cons->Uh,length_take->Ui,length_singleton->Uk,length_nil->Uo,getElem?_map->Uu,length_drop->UD,getElem?_replicate->UF,flatten_cons->UH,replicate_succ->UJ,getElem?_set_self->UL,nil_append->UT,getElem_mem->UX,range->U0,length_replicate->U7,mem_of_mem_take->Vc,mem_of_mem_drop->Vd,getElem?_set_ne->Ve,drop_eq_getElem_cons->Vj,find?_cons->Vw,take_of_length_le->VA,drop_zero->VD,eq_nil_of_length_eq_zero->VL,any_cons->VQ,mem_map_of_mem->VV,filterMap_cons->VW,map_map->V6,reverse_cons->Wd,count_append->We,all_cons->Wl,lookup_cons->Wp,drop_length->Wq,reverse_singleton->Ws,find?_cons_of_neg->Wt,map_nil->WB,all_map->WD,getElem?_of_mem->WO,length_reverse->WV,length->WW,sum_cons->W3,mem_singleton->W4,flatMap_cons->Xb,isEmpty_nil->Xk,of_mem_zip->XD,forIn_cons->XG,foldl_cons->XH,getD_eq_getElem?_getD->X6,extract_eq_drop_take->Ye,getElem?_take_of_lt->Yl,foldl->Ym,head_eq_of_cons_eq->Yu,getElem?_toArray->YC,getElem?_reverse->YD,getElem?_range->YY,flatMap_append->YZ,zip_nil_right->Zk,zip_cons_cons->Zl
open PySem.Heap renaming get?_push_of_some->SH,lt_size->SW,get?_push_size->Th,SameBut->TN,size_push->VE,get?_update_other->Wu,get?_update_self->WE,MadeExcOf->WU,HeldW->Yn
open Bool renaming and_eq_true->SM,false_ne_true->TJ,or_eq_true->Vx,not_eq_true'->Wf,true_and->Yv,or_false->Yw
open Nat renaming le_refl->SY,le_trans->SZ,ne_of_lt->Tn,lt_of_lt_of_le->Tu,le_add_right->Uq,lt_or_ge->UG,zero_le->UK,lt_irrefl->UR,le_succ->U8,lt_succ_self->Vo,le_of_lt->Vr,ne_of_gt->VI,lt_succ_of_lt->Wj,lt_trans->WK,succ_le_succ->Xx,isDigit_of_mem_toDigits->X5,mul_comm->YL,log2_lt->Zj
open Option.some renaming inj->S9,injEq->UZ
open PySem.Builtin.Str renaming strSliceIndices->To,reprChar->UP,occurrences->Vi,strKind->X8
open PySem.Builtin.SmallTypes renaming nextOf->TF,ownedTupleIsFree->Ux,ownedTupleHandOut->VY
open PySem.Builtin.Slice renaming slicePlaces->TY,sliceAdjust->Up,sliceApplied->UY,sliceFields->W2
open PySem.Builtin.Tuple renaming tupleExact->T3,tupleItemsOf->VG,tupleTooMany->WX
open PyProof.Rows renaming slot_tuple_getitem->T7,callWith_type1->UB,envOfC->Vs,slicePart_none->W7,plainGoodE->W8,plainGoodD->W9,expectedOf->Xa,entry_tuple_getitem->Xe,AllBare->Xi,subscriptTail->Xm,args_tuple_getitem->Xr,drecsOf->Xv,Subscript_->XX,tail_any->Yq,tupleItemsOf_->Y5
open Option renaming bind_some->Ue,map_some->Vq,getD_some->Zh,getD_none->Zi
open List.cons renaming inj->Us,injEq->VJ
open PySem.Builtin.List renaming listTooLong->Ut
open PySem.StrLaws renaming join_split->Uy,split_free->WR
open PySem.NameKind renaming free->UC,cell->WN
open Ne renaming symm->UM
open Array renaming eq_empty_of_size_eq_zero->UU,length_toList->Vn,all_append->Xh,mem_of_getElem?->Yz,getElem?_toList->YA,toList_extract->YE,toList_append->YN,size_extract->Y3
open PySem.Value renaming none->UW,ref->U5,isStrOf->VN,builtin->VO,str->Ww,bool->Wy,int->Xs
open PySem.F renaming slot_dict_get->U3,plainAttrs_list->Vp,args_tuple_add_2->V5,entry_tuple_add->Wc,slot_tuple_add->Wg,entry_dict_get->Wh,type_list_append->XA,slot_list_append->XC,plainAttrs_dict->X3,args_dict_get_2->X4,plainAttrs_str->Yd,type_dict_get->Yk
open False renaming elim->U9
open PySem.Calls renaming spliced_cons->Vu,callWith_builtin->Vz,evalArgs_plain->VM,Name_function_global->VX,loadGlobal_global->Yp,Constant_str->Y0,spliced_nil->Zn
open Prod.mk renaming injEq->VH
open PySem.Obj renaming data_mapFields->V7,mapSeq->WM,isFreed_of_fields->YK
open PySem.W.KIN renaming signs_num->Wa,num_reads->Wb
open PySem.PassesOwn renaming never->Wi,looking->WT,leaving->Yy
open ForInStep renaming yield->Wk
open PySem.Heap.IsSliceOf renaming new->Wm
open Int renaming eq_ofNat_of_zero_le->Wr,toNat_natCast->Xf,zero_lt_one->X7,toNat_of_nonneg->Zm
open PySem.Heap.SameBut renaming update->XI
open Char renaming toNat->Yo
open PySem.AutoSeq1 renaming idx_int->YM
open PyProof.V renaming Flat->YW
section
namespace L2
open PySem PySem.Spec PyProof.Rows
def f7 (s:Xj):Xz:=match s with
 | .FunctionDef _ a _ _ _ _ _ _ _ _=>a| _=>{ posonlyargs:=[],args:=[],vararg:=af,kwonlyargs:=[],kw_defaults:=[],kwarg:=af,defaults:=[] }
def dz (s:Xj):List Xj:=match s with
 | .FunctionDef _ _ b _ _ _ _ _ _ _=>b| _=>[]
def cU (s:Xj):Um:=match s with
 | .FunctionDef _ _ _ _ _ _ sc _ _ _=>sc| _=>{ kind:=.function,names:=[],isGenerator:=ai,isCoroutine:=ai }
end L2
end
section
namespace BR
open PySem PySem.W PyProof.Rows
noncomputable def tL:List aq->BT->Nat->Option (BT×Nat)
 | [],T,n=>aa (T,n)
 | o::r,T,n=>match ((T.ins n o).get n).isSome with
  | true=>tL r (T.ins n o) (n+1)| false=>af
theorem qi (life:Life):∀ {l:List aq}{T T':BT}{n n':Nat},tL l T n=aa (T',n')->(XU T' n' life).objs.toList=(XU T n life).objs.toList++l
 | [],T,T',n,n',h=>by cases h;simp
 | o::r,T,T',n,n',h=>by
  unfold tL at h;cases g:((T.ins n o).get n).isSome with
  | false=>rw[g] at h;cases h
  | true =>
   rw[g] at h;rw[qi life h,absHeap_ins g];show ((XU T n life).objs.push o).toList++r=_;simp
noncomputable def toT (s:SL):Option XY:=match tL s.heap.objs.toList .nil 0 with
 | some (T,n)=>aa ⟨T,n,s.heap.life,s.gens,s.drawn,s.toks,s.os⟩| none=>af
theorem Ef (h:toT s=aa t):t.abs=s:=by
 unfold toT at h;cases e:tL s.heap.objs.toList .nil 0 with
 | none=>rw[e] at h;cases h
 | some r =>
  obtain ⟨T,n⟩:=r;rw[e] at h;cases h;have:=qi s.heap.life e;obtain ⟨⟨objs,life⟩,g,d,k,o⟩:=s;show Shared.mk (XU T n life) g d k o=Shared.mk ⟨objs,life⟩ g d k o;have e2:(XU T n life).objs.toList=objs.toList:=by rw[this];simp[XU,BT.list]
  have e3:(XU T n life).objs=objs:=Array.toList_inj.mp e2;have e4:XU T n life=⟨objs,life⟩:=by show Heap.mk _ _=Heap.mk _ _;exact congrArg (Heap.mk · life) e3
  rw[e4]
noncomputable def nO (tb:String->Option Xg) (p:Td) (w:Tz) (n₀:Nat) (ann:Option aA):Nat->XY->Thread->Option XY
 | 0,_,_=>af
 | n+1,s,t=>match through t with
  | true=>aa s
  | false=>match stepOk n₀ ann t with
   | false=>af
   | true=>match stepT (denote tb) p w s t with
    | some (s',t')=>nO tb p w n₀ ann n s' t'| none=>af
section
variable {tb:String->Option Xg}{p:Td}{w:Tz}{n₀:Nat}{ann:Option aA}
theorem qj:∀ {n:Nat}{s s':XY}{t:Thread},nO tb p w n₀ ann n s t=aa s'->topRun tb p w n₀ ann n s.abs t=aa s'.abs
 | 0,_,_,_,h=>by cases h
 | n+1,s,s',t,h=>by
  unfold nO at h;unfold topRun;cases he:through t with
  | true=>rw[he] at h;cases h;rfl
  | false =>
   rw[he] at h;cases hk:stepOk n₀ ann t with
   | false=>rw[hk] at h;cases h
   | true =>
    rw[hk] at h;cases hs:stepT (denote tb) p w s t with
    | none=>rw[hs] at h;cases h| some r=>obtain ⟨s₂,t₂⟩:=r;rw[hs] at h;dsimp only;rw[stepT_spec hs];exact qj h
end
noncomputable def n8 (tb:String->Option Xg) (p:Td) (w:Tz) (N:Nat) (s₀:SL):Option XY :=
 match s₀.heap.isNs S7&&s₀.gens.size==0 with
 | true=>(toT s₀).bind λt₀=>(nO tb p w s₀.heap.objs.size (s₀.heap.nsMap S7 "__annotations__") N t₀ (topStub p)).bind λt₁ =>
  match staticsOk (W0 p.main.body) s₀.heap t₁.abs.heap&&namesBound p t₁.abs.heap&&gensDone t₁.abs&&laidKept s₀.heap t₁.abs.heap with
   | true=>aa t₁| false=>af
 | false=>af
theorem vn (h:n8 tb p w N s₀=aa t):topFrom tb p w N s₀=aa t.abs:=by
 unfold n8 at h;unfold topFrom;cases e:(s₀.heap.isNs S7&&s₀.gens.size==0) with
 | false=>rw[e] at h;cases h
 | true =>
  rw[e] at h;obtain ⟨t₀,h0,h⟩:=Option.bind_eq_some_iff.mp h;obtain ⟨t₁,h1,h⟩:=Option.bind_eq_some_iff.mp h;have h2:=qj h1;rw[Ef h0] at h2;dsimp only;rw[h2];show (match _ with|true=>aa t₁.abs|false=>af)=_;cases e2:(staticsOk (W0 p.main.body) s₀.heap t₁.abs.heap&&namesBound p t₁.abs.heap&&gensDone t₁.abs&&laidKept s₀.heap t₁.abs.heap) with
  | false=>rw[e2] at h;cases h| true=>rw[e2] at h;cases h;rfl
noncomputable def jS (tb:String->Option Xg) (p:Td) (w:Tz) (N:Nat):Option XY:=(fencedOpening tb p w N).bind (n8 tb p w N)
theorem Eg {tb:String->Option Xg}{p:Td}{w:Tz}{N:Nat}{α:Type}{f:SL->α}{x:α} (h:(jS tb p w N).map (λt=>f t.abs)=aa x):(openEnds tb p w N).map f=aa x:=by obtain ⟨t,ht,e⟩:=Option.map_eq_some_iff.mp h;obtain ⟨s₀,h0,h1⟩:=Option.bind_eq_some_iff.mp ht;unfold openEnds;rw[h0];show (topFrom tb p w N s₀).map f=aa x;rw[vn h1];exact congrArg aa e
theorem AG {α β γ δ:Type}{o:Option α}{f:α->β×γ}{g:α->δ}{x:β}{y:γ}{z:δ} (h1:o.map (λt=>(f t).1)=aa x) (h2:o.map (λt=>(f t).2)=aa y) (h3:o.map g=aa z):o.map (λt=>(f t,g t))=aa ((x,y),z):=by
 cases o with
 | none=>cases h2
 | some t =>
  have e1:(f t).1=x:=S9 h1;have e2:(f t).2=y:=S9 h2;have e3:g t=z:=S9 h3;show aa (f t,g t)=_;rw[← e1,← e2,← e3]
theorem good (q:Td) (loose:List az):openGood q loose=(Xa q,YH,ah,ah,PySem.pinGoodD (Xv q),W8 q (PySem.W.looseW q loose),W9 q loose,YS q,YV q loose):=rfl
def LA (tb:String->Option Xg) (p q:Td) (loose mods:List az) (Xt:SL->Bool) (g0:Bool) (N:Nat) (w:Tz):Prop :=
 (jS tb p w N).map (λt=>(Y8 q loose mods Xt g0 t.abs).1)=aa (Xa q)
def LB (tb:String->Option Xg) (p q:Td) (loose mods:List az) (Xt:SL->Bool) (g0:Bool) (N:Nat) (w:Tz):Prop :=
 (jS tb p w N).map (λt=>(Y8 q loose mods Xt g0 t.abs).2)=aa (YH,ah,ah,PySem.pinGoodD (Xv q),W8 q (PySem.W.looseW q loose),W9 q loose,YS q,YV q loose)
def LO (tb:String->Option Xg) (p:Td) (N:Nat) {α:Type} (Yf:SL->α) (Ya:Tz->α) (w:Tz):Prop:=(jS tb p w N).map (λt=>Yf t.abs)=aa (Ya w)
theorem Eh {tb:String->Option Xg}{p q:Td}{loose mods:List az}{Xt:SL->Bool}{g0:Bool}{N:Nat}{α:Type}{Yf:SL->α}{Ya:Tz->α}{w:Tz} (h1:LA tb p q loose mods Xt g0 N w) (h2:LB tb p q loose mods Xt g0 N w) (h3:LO tb p N Yf Ya w) :
 (openEnds tb p w N).map (λs=>(Y8 q loose mods Xt g0 s,Yf s))=aa (openGood q loose,Ya w):=by
 rw[good];have h:=AG (f:=λt:XY=>Y8 q loose mods Xt g0 t.abs) (g:=λt:XY=>Yf t.abs) h1 h2 h3;exact Eg (f:=λs=>(Y8 q loose mods Xt g0 s,Yf s)) h
end BR
end
section
namespace BG
open PySem PySem.Spec PySem.Calls PyProof.Rows L2
structure FS where
 name:az
 qual:az
 params:Xz
 body:FuncBody
 scope:Um
 globals:S6
 closure:List (az×S6)
 defaults:aA
 builtins:S6
 code:Bool
noncomputable def Ei (K:SA) (f:S6):Option FS:=match K.lookup f with
 | some ⟨_,_,.func fd,_⟩=>aa ⟨fd.name,fd.qualname,fd.params,fd.body,fd.scope,fd.globals,fd.closure,fd.defaults,fd.builtins,WA K fd.code fd.qualname⟩| _=>af
noncomputable def wU (x qual:az) (st:Xj):FS:=⟨x,qual,f7 st,.stmts (dz st),cU st,S7,[],.none,Vy,ah⟩
noncomputable def strOf:aA->Option az
 | .str x _=>aa x| _=>af
noncomputable def intOf:aA->Option Int
 | .int i _=>aa i| _=>af
noncomputable def refOf:Option (Option aA)->Option S6
 | some (aa (.ref a))=>aa a| _=>af
inductive Qy where
 | fn (x:az) (f:S6) (st:Xj)|int (x:az) (n:Int)|tup (x:az) (f:S6) (xs:List az)|dct (x:az) (f:S6) (kvs:List (az×Int))|no (x:az)|cls (c:az) (C:S6)|me (C:S6) (m x qual:az) (f:S6) (st:Xj)|mk (C:S6)
 | tab (x:az) (c P:S6)|bm (b:S6)|fv (x:az) (f:S6)|exc (D:S6) (xs:List (az×S6))
 | str (x s:az)|stp (f:S6) (xs:List az)|dtp (x:az) (f:S6) (kvs:List (az×S6))
inductive Ov where
 | fn (a:Option S6) (o:Option FS)|int (n:Option Int)|seq (a:Option S6) (c:Option (aA×Option S6×Nat)) (xs:Option (List (Option az)))|dct (a:Option S6) (c:Option (aA×Option S6×Nat)) (xs:Option (List (Int×Option az×Option Int)))|b (x:Bool)
noncomputable def shp (o:aq):aA×Option S6×Nat:=(o.cls,o.dict,o.slots.size)
noncomputable def wV (o:aq):Option (List (Option az)):=match o.data with
 | .seq its _=>aa (its.toList.map strOf)| _=>af
noncomputable def G0 (o:aq):Option (List (Int×Option az×Option Int)):=match o.data with
 | .dict es _=>aa (es.toList.map λe=>(e.hash,strOf e.key,intOf e.val))| _=>af
noncomputable def wW:aA->Option Int
 | .ref a=>aa (a:Int)| _=>af
noncomputable def G1 (o:aq):Option (List (Int×Option az×Option Int)):=match o.data with
 | .dict es _=>aa (es.toList.map λe=>(e.hash,strOf e.key,wW e.val))| _=>af
noncomputable def attrs:List az:=["program","asked","gap","most","kept","farthest","front","now","origins","branches","tape","named"]
noncomputable def Pe (K:SA) (c:az) (C:S6):Bool:=decide (TL K S7 c=aa (aa (.ref C)))&&YU K C WJ&&V0 K C&&YJ K C&&decide (Ud K (.ref C) "__setattr__"=aa (aa (.builtin "object.__setattr__"))) &&
 attrs.all λf=>decide (Ud K (.ref C) f=aa af)
noncomputable def meB (K:SA) (C:S6) (m:az) (f:S6):Bool:=decide (Ud K (.ref C) m=aa (aa (.ref f)))&&Yj K (.ref f)
noncomputable def mkB (K:SA) (C:S6):Bool:=Zf K C&&TM K (.ref C)
noncomputable def bmB (K:SA) (b:S6):Bool:=decide (TL K S7 "__builtins__"=aa (aa (.ref b)))&&decide (b≠Vy)&&(match K.lookup b with
 | some ⟨.type "module",aa d,.plain,_⟩=>d==Vy
 | _=>ai)
noncomputable def Pf (K:SA) (C D:S6):Bool:=match K.lookup C with
 | some ⟨_,_,.cls cd,_⟩=>cd.mro.contains (.ref D)| _=>ai
noncomputable def Ej (K:SA) (c:az) (C:S6):Bool:=decide (TL K S7 c=aa (aa (.ref C)))&&X0 K C [.type "ValueError",.type "Exception",.type "BaseException",.type "object"] "ValueError.__new__"
noncomputable def Ek (K:SA) (D:S6) (xs:List (az×S6)) (c:az) (C:S6):Bool:=Ej K c C&&Pf K C D&&decide (Ud K (.ref C) "__getattribute__"=aa (aa (.builtin "BaseException.__getattribute__")))&&decide (Ud K (.ref C) "__getattr__"=aa af) &&
 decide (WS K C (.type "BaseException")=aa ah)&&V0 K C&&decide (Ud K (.ref C) "__class__"=aa (aa (.builtin "object.__class__")))&&decide (YI K (.builtin "object.__class__") "__get__"=aa (aa (.builtin "getset_descriptor.__get__"))) &&
 decide (Ze K (.builtin "object.__class__")=aa ah)&&decide (WS K C (.type "object")=aa ah)&&decide (UE K (.ref C) (.type "ValueError")=aa ah)&&xs.all λq=>decide (UE K (.ref C) (.ref q.2)=aa (q.1==c))
noncomputable def HS (K:SA) (D:S6) (xs:List (az×S6)):Bool:=Ej K "TapeError" D&&xs.all λq=>Ek K D xs q.1 q.2
noncomputable def fq (K:SA):Qy->Ov
 | .fn x f _=>.fn (refOf (TL K S7 x)) (Ei K f)| .int x _=>.int (match TL K S7 x with|some (aa v)=>intOf v|_=>af)| .tup x f _=>.seq (refOf (TL K S7 x)) ((K.lookup f).map shp) ((K.lookup f).bind wV)| .dct x f _=>.dct (refOf (TL K S7 x)) ((K.lookup f).map shp) ((K.lookup f).bind G0)| .no x=>.b (decide (TL K S7 x=aa af))| .cls c C=>.b (Pe K c C)| .me C m _ _ f _=>.fn (if meB K C m f then aa f else af) (Ei K f)| .mk C=>.b (mkB K C)| .tab x c P=>.b (decide (UN K x=aa (c,P))&&W6 K c P)| .bm b=>.b (bmB K b)| .fv x f=>.b (decide (TL K S7 x=aa (aa (.ref f)))&&TM K (.ref f))| .exc D xs=>.b (HS K D xs)| .str x _=>.seq af af (match TL K S7 x with|some (aa v)=>aa [strOf v]|_=>af)| .stp f _=>.seq af ((K.lookup f).map shp) ((K.lookup f).bind wV)| .dtp x f _=>.dct (refOf (TL K S7 x)) ((K.lookup f).map shp) ((K.lookup f).bind G1)
noncomputable def fu (w:Tz):Qy->Ov
 | .fn x f st=>.fn (aa f) (aa (wU x x st))| .int _ n=>.int (aa n)| .tup _ f xs=>.seq (aa f) (aa (.type "tuple",af,0)) (aa (xs.map aa))| .dct _ f kvs=>.dct (aa f) (aa (.type "dict",af,0)) (aa (kvs.map λq=>(PyData.keyHash w.params q.1,aa q.1,aa q.2)))| .no _=>.b ah| .cls _ _=>.b ah| .me _ _ x qual f st=>.fn (aa f) (aa (wU x qual st))| .mk _=>.b ah| .tab _ _ _=>.b ah| .bm _=>.b ah| .fv _ _=>.b ah| .exc _ _=>.b ah| .str _ s=>.seq af af (aa [aa s])| .stp f xs=>.seq af (aa (.type "tuple",af,0)) (aa (xs.map aa))| .dtp _ f kvs=>.dct (aa f) (aa (.type "dict",af,0)) (aa (kvs.map λq=>(PyData.keyHash w.params q.1,aa q.1,aa (q.2:Int))))
noncomputable def KOf (as:List S6) (h:au):SA:=as.map λa=>(a,(h.get? a).getD default)
noncomputable def sees (as:List S6) (qs:List Qy) (ts:List S6):PySem.W.Hook where
 α:=Bool×List Ov×List (Option aq)
 obs:=λs=>(as.all λa=>(s.heap.get? a).isSome,qs.map (fq (KOf as s.heap)),ts.map s.heap.get?)
 val:=λw=>(ah,qs.map (fu w),ts.map λ_=>aa (Wz #[]))
 says:=λw h=>∃ K:SA,K.map (·.1)=as/\(∀ p∈K,h.get? p.1=aa p.2)/\(∀ q∈qs,fq K q=fu w q)/\∀ P∈ts,h.get? P=aa (Wz #[])
 of:=λw s e=>by have e1:=congrArg Prod.fst e;have e2:=congrArg (λp=>p.2.1) e;have e3:=congrArg (λp=>p.2.2) e;refine ⟨KOf as s.heap,by simp[KOf,Function.comp_def],λp hp=>?_,λq hq=>List.map_inj_left.mp e2 q hq,λP hP=>List.map_inj_left.mp e3 P hP⟩;obtain ⟨a,ha,rfl⟩:=List.mem_map.mp hp;have h1:=List.all_eq_true.mp e1 a ha;obtain ⟨o,ho⟩:=Option.isSome_iff_exists.mp h1;show s.heap.get? a=aa ((s.heap.get? a).getD default);rw[ho];rfl
 keeps:=λw h h' ⟨K,m,n,k,t⟩ hk=>⟨K,m,λp hp=>hk _ _ (n p hp),k,λP hP=>hk _ _ (t P hP)⟩
end BG
end
section
namespace BL
open PySem PySem.Spec PyProof.Rows L2 BG
noncomputable abbrev pg:Td:=PySem.Challenge.pw_backtape_k81_whole_read
noncomputable def qg:Td:=PySem.W.view pg [1,2,3,4,6,7,8,9,10,11,12,13,14,15,16,17,18,19,20,21,22,24,25,26,27,28,29,30,31,32,33,34,35,36,37,39,40,41,42,43,44,45,46,47,48,49]
noncomputable abbrev loo:List az:=["INNER_COUNTS","ROW_FORMS"]
noncomputable def top (i:Nat):Xj:=pg.main.body.getD i (.Pass ⟨0,0,0,0⟩)
noncomputable def Lp:Xj->List Xj
 | .ClassDef _ _ _ b _ _ _ _ _ _ _=>b| _=>[]
noncomputable def Sk (i j:Nat):Xj:=(Lp (top i)).getD j (.Pass ⟨0,0,0,0⟩)
noncomputable def Ph:Xj->Pos
 | .FunctionDef _ _ _ _ _ _ _ _ _ p=>p| _=>⟨0,0,0,0⟩
noncomputable abbrev adr:List S6:=[3,23,24,36,37,48,49,60,61,64,65,66,67,68,69,70,71,72,73,74,75,81,82,88,89,95,96,102,103,109,110,116,117,123,124,130,131,137,138,142,143,147,148,154,155,161,162,168,169,173,174,178,179,185,186,192,193,197,198,204,205,211,212,218,219,223,224,230,231,237,238,244,245,251,252,256,257,261,262,268,269,273,274,278,279,283,284,288,289]
noncomputable def qys:List Qy:=[.fn "is_whole" 82 (top 12),
 .fn "is_worth" 89 (top 13),
 .fn "is_name" 96 (top 14),
 .fn "is_place" 103 (top 15),
 .fn "first_word" 110 (top 16),
 .fn "inner_sums" 117 (top 17),
 .fn "has_sum_form" 124 (top 18),
 .fn "is_sum" 131 (top 19),
 .fn "fits" 138 (top 20),
 .fn "is_row" 143 (top 21),
 .fn "is_program" 148 (top 22),
 .fn "written_word" 155 (top 26),
 .fn "written_sum" 162 (top 27),
 .fn "written_row" 169 (top 28),
 .fn "written" 174 (top 29),
 .fn "is_figures" 179 (top 30),
 .fn "number_or_word" 186 (top 31),
 .fn "leaf_of" 193 (top 32),
 .fn "sum_of" 198 (top 33),
 .fn "sum_end" 205 (top 34),
 .fn "row_of" 212 (top 35),
 .fn "read_sum" 219 (top 36),
 .fn "read" 224 (top 37),
 .fn "_law_cell" 231 (top 39),
 .fn "_law_drawn" 238 (top 40),
 .fn "_law_sum" 245 (top 41),
 .fn "_law_row" 252 (top 42),
 .fn "_law_program" 257 (top 43),
 .fn "_law_asked" 262 (top 44),
 .fn "_law_sum_at" 274 (top 46),
 .fn "_law_row_of" 279 (top 47),
 .fn "_law_due" 284 (top 48),
 .fn "law" 289 (top 49),
 .int "WORTH_COUNT" 10007,
 .int "MOST_PARTS" 15,
 .int "MOST_ROWS" 20,
 .int "MOST_FIGURES" 5,
 .tup "LETTERS" 64 ["a","b","c","d","e","f"],
 .dct "INNER_COUNTS" 65 [("num",0),("name",0),("cell",1),("add",2),("sub",2),("mul",2),("less",2)],
 .str "FIGURES" "0123456789",
 .dtp "ROW_FORMS" 66 [("set",67),("put",68),("ask",69),("say",70),("jump",71),("unless",72),("call",73),("back",74),("stop",75)],
 .stp 67 ["name","sum"],
 .stp 68 ["sum","sum"],
 .stp 69 ["name"],
 .stp 70 ["sum"],
 .stp 71 ["place"],
 .stp 72 ["sum","place"],
 .stp 73 ["place"],
 .stp 74 [],
 .stp 75 [],
 .no "len",
 .no "abs",
 .no "int",
 .no "list",
 .no "tuple",
 .no "isinstance",
 .no "str",
 .no "bool",
 .no "range",
 .no "reversed",
 .no "enumerate",
 .no "zip",
 .no "min",
 .no "max",
 .no "sorted",
 .no "sum",
 .no "all",
 .no "any",
 .no "set",
 .no "ValueError",
 .no "dict",
 .no "worths_of",
 .no "last_change",
 .no "next_change",
 .no "moments_so",
 .no "last_so",
 .no "next_so",
 .no "visits",
 .no "last_visit",
 .no "when_said",
 .no "next_within",
 .no "last_within",
 .no "first_other",
 .no "writer_of",
 .no "judged",
 .no "remade",
 .fn "_law_told" 269 (top 45),
 .exc 24 [("NoMoment",37),("NoThing",49),("NoText",61)]]
noncomputable abbrev tl:List (az×S6×S6):=[]
noncomputable abbrev tas:List S6:=[]
abbrev LA:Tz->Prop:=BR.LA treeTable pg qg loo (W0 pg.main.body) (λs=>Yi qg [] s&&XZ [] s) ah 4506
theorem la0 (w:Tz):LA (w.withFollow "special-get-raises" ai):=by unfold LA BR.LA;kernel_rfl
theorem la1 (w:Tz):LA (w.withFollow "special-get-raises" ah):=by unfold LA BR.LA;kernel_rfl
abbrev LB:Tz->Prop:=BR.LB treeTable pg qg loo (W0 pg.main.body) (λs=>Yi qg [] s&&XZ [] s) ah 4506
theorem lb0 (w:Tz):LB (w.withFollow "special-get-raises" ai):=by unfold LB BR.LB;kernel_rfl
theorem lb1 (w:Tz):LB (w.withFollow "special-get-raises" ah):=by unfold LB BR.LB;kernel_rfl
abbrev LO:Tz->Prop:=BR.LO treeTable pg 4506 (sees adr qys tas).obs (sees adr qys tas).val
theorem lo0 (w:Tz):LO (w.withFollow "special-get-raises" ai):=by unfold LO BR.LO;kernel_rfl
theorem lo1 (w:Tz):LO (w.withFollow "special-get-raises" ah):=by unfold LO BR.LO;kernel_rfl
theorem left:PySem.W.LeftO pg qg loo (λs=>Yi qg [] s&&XZ [] s) (sees adr qys tas).obs (sees adr qys tas).val 4506:=λw=>BR.Eh (Xu (P:=LA) "special-get-raises" la0 la1 w) (Xu (P:=LB) "special-get-raises" lb0 lb1 w) (Xu (P:=LO) "special-get-raises" lo0 lo1 w)
end BL
end
section
namespace L2
open PySem PySem.Spec PyProof.Rows
noncomputable abbrev Key:=Sum Int az
noncomputable def jy:Key->aA->Bool
 | .inl k,v=>Value.isInt k v| .inr x,v=>VN x v
noncomputable def Lq (w:Tz):Key->Int
 | .inl k=>hashInt k| .inr x=>hashStr w x
theorem dP:∀ {k:Key}{v:aA},jy k v=ah->(∃ i t,k=Sum.inl i/\v=Xs i t)\/(∃ x t,k=Sum.inr x/\v=Ww x t)
 | .inl i,v,h=>by obtain ⟨t,e⟩:=Value.isInt_shape (k:=i) (v:=v) h;exact .inl ⟨i,t,rfl,e⟩
 | .inr x,v,h=>by obtain ⟨t,e⟩:=Value.isStrOf_shape (x:=x) (v:=v) h;exact .inr ⟨x,t,rfl,e⟩
theorem zC (i:Int) (t:Tok):jy (.inl i) (.int i t)=ah:=by simp[jy,Value.isInt]
theorem zD (x:az) (t:Tok):jy (.inr x) (.str x t)=ah:=by simp[jy,VN]
theorem HU (a b:Int):decide ((Sum.inl a:Key)=Sum.inl b)=(a==b):=by
 by_cases e:a=b
 subst e;simp
 ·have h:¬ (Sum.inl a:Key)=Sum.inl b:=λq=>e (Sum.inl.inj q);rw[decide_eq_false h];exact (beq_eq_false_iff_ne.mpr e).symm
theorem HV (a b:az):decide ((Sum.inr a:Key)=Sum.inr b)=decide (a=b):=by
 by_cases e:a=b
 subst e;simp
 ·have h:¬ (Sum.inr a:Key)=Sum.inr b:=λq=>e (Sum.inr.inj q);rw[decide_eq_false h,decide_eq_false e]
theorem HW (a:Int) (b:az):decide ((Sum.inl a:Key)=Sum.inr b)=ai:=decide_eq_false (λq=>nomatch q)
theorem HY (a:az) (b:Int):decide ((Sum.inr a:Key)=Sum.inl b)=ai:=decide_eq_false (λq=>nomatch q)
noncomputable def dB (prog:Td) (w:Tz):PySem.KeyKind prog w Key where
 is:=jy
 hash:=Lq w
 inj:=λv a b ha hb=>by
  rcases dP ha with ⟨i,t,rfl,rfl⟩|⟨x,t,rfl,rfl⟩
  ·rcases dP hb with ⟨j,u,rfl,e⟩|⟨y,u,rfl,e⟩
   ·injection e with e1 _;rw[e1]
   exact nomatch e
  ·rcases dP hb with ⟨j,u,rfl,e⟩|⟨y,u,rfl,e⟩
   exact nomatch e
   ·injection e with e1 _;rw[e1]
 byValue:=λk v h=>by rcases dP h with ⟨i,t,rfl,rfl⟩|⟨x,t,rfl,rfl⟩<;>rfl
 pyHash:=λhv h=>by
  rcases dP hv with ⟨i,t,rfl,rfl⟩|⟨x,t,rfl,rfl⟩
  exact wpAny_pyHash_int h;exact wpAny_pyHash_str h
 eqBool:=λhu hv h=>by
  rcases dP hu with ⟨i,t,rfl,rfl⟩|⟨x,t,rfl,rfl⟩
  ·rcases dP hv with ⟨j,u,rfl,rfl⟩|⟨y,u,rfl,rfl⟩
   rw[HU] at h;exact wpAny_eqBool_int h;rw[HW] at h;exact SeqAt.EqAt.int_str i t y u _ _ _ _ h
  ·rcases dP hv with ⟨j,u,rfl,rfl⟩|⟨y,u,rfl,rfl⟩
   rw[HY] at h;exact SeqAt.EqAt.str_int x t j u _ _ _ _ h;rw[HV] at h;exact wpAny_eqBool_str h
 «strs»:=λk x t v h=>by
  rcases dP h with ⟨i,u,rfl,e⟩|⟨y,u,rfl,e⟩
  exact nomatch e
  ·injection e with e1 _
   subst e1;cases v<;>rfl
theorem tM (prog:Td) (w:Tz) (i:Int) (t:Tok):(dB prog w).is (.inl i) (.int i t)=ah:=zC i t
theorem fF (prog:Td) (w:Tz) (x:az) (t:Tok):(dB prog w).is (.inr x) (.str x t)=ah:=zD x t
end L2
namespace L2
open PySem PySem.Spec PyProof.Rows
inductive V where
 | non|bl (b:Bool)|int (i:Int)|str (x:az)|byt (b:Array UInt8)|flt (b:UInt64)|ref (a:S6)|ty (n:String)
 deriving DecidableEq
noncomputable def RelV:V->aA->Prop
 | .non,u=>u=UW| .bl b,u=>u=Wy b| .int i,u=>∃ t,u=Xs i t| .str x,u=>∃ t,u=Ww x t| .byt b,u=>∃ t,u=Value.bytes b t| .flt b,u=>∃ t,u=Value.float b t| .ref a,u=>u=U5 a| .ty n,u=>u=Value.type n
abbrev dD:List V->List aA->Prop:=Paired RelV
theorem dD.length (r:dD xs us):xs.length=us.length:=Paired.length r
theorem dD.get:∀ {xs:List V}{us:List aA}{i:Nat}{x:V},dD xs us->xs[i]?=aa x->∃ u,us[i]?=aa u/\RelV x u
 | _,_,_,_,.nil,e=>by simp at e
 | _,_,0,_,.cons r _,e=>by simp at e;subst e;exact ⟨_,rfl,r⟩
 | _,_,i+1,x,.cons _ t,e=>by obtain ⟨u,h1,h2⟩:=dD.get (i:=i) (x:=x) t (by simpa using e);exact ⟨u,by simpa using h1,h2⟩
theorem dD.set (r:RelV x u):∀ {xs:List V}{us:List aA} (i:Nat),dD xs us->dD (xs.set i x) (us.set i u)
 | _,_,_,.nil=>.nil| _,_,0,.cons _ t=>.cons r t| _,_,i+1,.cons q t=>.cons q (dD.set r i t)
theorem dD.append:∀ {xs ys:List V}{us ws:List aA},dD xs us->dD ys ws->dD (xs++ys) (us++ws)
 | _,_,_,_,.nil,s=>s| _,_,_,_,.cons r t,s=>.cons r (dD.append t s)
theorem dD.take:∀ {xs:List V}{us:List aA} (n:Nat),dD xs us->dD (xs.take n) (us.take n)
 | _,_,0,_=>.nil| _,_,_+1,.nil=>.nil| _,_,n+1,.cons r t=>.cons r (dD.take n t)
theorem dD.drop:∀ {xs:List V}{us:List aA} (n:Nat),dD xs us->dD (xs.drop n) (us.drop n)
 | _,_,0,r=>r| _,_,_+1,.nil=>.nil| _,_,n+1,.cons _ t=>dD.drop n t
noncomputable def HZ:Option V->Option aA->Prop
 | some v,aa u=>RelV v u| none,af=>True| _,_=>False
noncomputable def KV {κ:Type}:List (κ×V)->List (κ×aA)->Prop:=Paired λ(p:κ×V) (q:κ×aA)=>p.1=q.1/\RelV p.2 q.2
noncomputable def kV:Key->V
 | .inl i=>.int i| .inr x=>.str x
inductive HO where
 | lst (xs:List V)
 | tup (xs:List V)
 | dK (kvs:List (Key×V))|dT (kvs:List (List Key×V))
 | set (S:Int->Bool) (n:Nat)
 | ins (C dx:S6) (fs:List (az×V))
 | own (x:S6)
 | xd (fs:List (az×V))
 | met (f x:S6)
 | rng (lo hi:Int)
 | frz (o:aq) (u:HO)
 | tbl (ps:Array aA)
 | ext (φ:au->Prop)
noncomputable abbrev Hp:=S6->Option HO
noncomputable def upd (H:Hp) (a:S6) (o:HO):Hp:=λb=>if b=a then aa o else H b
theorem fc:upd H a o a=aa o:=by unfold upd;rw[if_pos rfl]
theorem dw (h:b≠a):upd H a o b=H b:=by unfold upd;rw[if_neg h]
theorem dZ {H:Hp}{a b:S6}{o:HO} (h:H a=aa o) (h':H b=af):a≠b:=by intro e;subst e;rw[h] at h';cases h'
section
variable (P:Td) (w:Tz)
noncomputable def gn (H:Hp) (h:au) (a:S6):HO->Prop
 | .lst xs=>xs.length<=ak/\∃ (its:List aA) (n:Nat),dD xs its/\h.get? a=aa { cls:=.type "list",data:=.seq its.toArray n }| .tup xs=>xs.length<=ak/\∃ its:List aA,dD xs its/\IsTup h a its.toArray| .dK kvs=>kvs.length<=ak/\(a==UV)=ai/\∃ vs,KV kvs vs/\h.DictOf (dB P w) a vs
 | .dT kvs=>kvs.length<=ak/\(a==UV)=ai/\∃ xs:List (List Key×S6×aA),
  Paired (λ(p:List Key×V) (q:List Key×S6×aA)=>p.1=q.1/\H q.2.1=aa (.tup (p.1.map kV))/\RelV p.2 q.2.2) kvs xs ∧
  ∃ o es ep,h.get? a=aa o/\o.ExactDict/\o.data=.dict es ep/\es.toList=xs.map (entryOfKey (tupleKind (dB P w)))/\(xs.map (·.1)).Nodup
 | .set S n=>h.SetOf (intKind P w) a S n| .ins C dx fs=>H dx=aa (.own a)/\fs.length<=1000/\dx≠a/\h.get? a=aa (PySem.W.instObj C dx) ∧
  ∃ mA,h.Ns1 dx mA/\(∀ f,HZ (fs.lookup f) (mA f))/\PySem.Within mA (fs.map (·.1))
 | .own _=>∃ o,h.get? a=aa o| .xd fs=>∃ mA,h.Ns1 a mA/\∀ f,HZ (fs.lookup f) (mA f)| .rng lo hi=>∃ t u v,h.get? a=aa { cls:=.type "range",data:=.fields #[.int lo t,.int hi u,.int 1 v] }| .frz o u=>h.get? a=aa o/\gn H h a u| .tbl ps=>h.get? a=aa { cls:=.none,data:=.fields ps }| .met f x=>h.get? a=aa (W1 (.ref f) (.ref x))| .ext φ=>φ h/\(∃ o,h.get? a=aa o)/\∀ h1 h2:au,φ h1->(∀ o,h1.get? a=aa o->h2.get? a=aa o)->φ h2
def HOk (H:Hp) (h:au):Prop:=∀ a o,H a=aa o->gn P w H h a o
end
section
variable {P:Td}{w:Tz}{H H':Hp}{h h':au}{a:S6}{o:HO}
theorem gn.lt (x:gn P w H h a o):a < h.objs.size:=by
 cases o with
 | lst xs=>obtain ⟨_,_,_,_,e⟩:=x;exact SW e| tup xs=>obtain ⟨_,_,_,p⟩:=x;exact p.lt| set S n=>obtain ⟨o,_,_,_,e,_⟩:=x;exact SW e| ins C dx fs=>obtain ⟨_,_,_,e,_⟩:=x;exact SW e| own y=>obtain ⟨_,e⟩:=x;exact SW e| xd fs=>obtain ⟨_,⟨_,_,_,e,_⟩,_⟩:=x;exact SW e| rng lo hi=>obtain ⟨_,_,_,e⟩:=x;exact SW e| frz ob u=>obtain ⟨e,_⟩:=x;exact SW e| tbl ps=>exact SW (show h.get? a=aa _ from x)| met f y=>exact SW (show h.get? a=aa _ from x)| ext φ=>obtain ⟨_,⟨_,e⟩,_⟩:=x;exact SW e| _=>obtain ⟨_,_,_,_,o,_,_,e,_⟩:=x;exact SW e
theorem Paired.Lr:∀ {l₁:List α}{l₂:List β},Paired F l₁ l₂->(∀ a b,F a b->G a b)->Paired G l₁ l₂
 | _,_,.nil,_=>.nil| _,_,.cons r t,f=>.cons (f _ _ r) (Paired.Lr t f)
theorem gn.stay (x:gn P w H h a o) (k:∀ b u,(b=a\/H b=aa (.own a))->h.get? b=aa u->h'.get? b=aa u)
 (ho:∀ b,H b=aa (.own a)->H' b=aa (.own a)) (ht:∀ b xs,H b=aa (.tup xs)->H' b=aa (.tup xs)):gn P w H' h' a o:=by
 induction o with
 | lst xs=>obtain ⟨z,its,n,r,e⟩:=x;exact ⟨z,its,n,r,k _ _ (.inl rfl) e⟩| tup xs=>obtain ⟨z,its,r,ob,e,c⟩:=x;exact ⟨z,its,r,ob,k _ _ (.inl rfl) e,c⟩| dK kvs=>obtain ⟨z,y,vs,r,ob,es,ep,e,c⟩:=x;exact ⟨z,y,vs,r,ob,es,ep,k _ _ (.inl rfl) e,c⟩
 | dT kvs =>
  obtain ⟨z,y,xs,r,ob,es,ep,e,c⟩:=x;exact ⟨z,y,xs,Paired.Lr r λp q z=>⟨z.1,ht _ _ z.2.1,z.2.2⟩,ob,es,ep,k _ _ (.inl rfl) e,c⟩
 | set S n=>obtain ⟨ob,es,ep,t,e,c⟩:=x;exact ⟨ob,es,ep,t,k _ _ (.inl rfl) e,c⟩
 | ins C dx fs =>
  obtain ⟨d,z,ne,e,mA,⟨od,es,ep,e2,c⟩,r⟩:=x;exact ⟨ho _ d,z,ne,k _ _ (.inl rfl) e,mA,⟨od,es,ep,k _ _ (.inr d) e2,c⟩,r⟩
 | own y=>obtain ⟨ob,e⟩:=x;exact ⟨ob,k _ _ (.inl rfl) e⟩| xd fs=>obtain ⟨mA,⟨od,es,ep,e,c⟩,r⟩:=x;exact ⟨mA,⟨od,es,ep,k _ _ (.inl rfl) e,c⟩,r⟩| rng lo hi=>obtain ⟨t,u,v,e⟩:=x;exact ⟨t,u,v,k _ _ (.inl rfl) e⟩| frz ob u ih=>obtain ⟨e,q⟩:=x;exact ⟨k _ _ (.inl rfl) e,ih q⟩
 | tbl ps =>
  have e:h.get? a=aa { cls:=.none,data:=.fields ps }:=x;show h'.get? a=aa { cls:=.none,data:=.fields ps };exact k a _ (.inl rfl) e
 | met f y =>
  have e:h.get? a=aa (W1 (.ref f) (.ref y)):=x;show h'.get? a=aa (W1 (.ref f) (.ref y));exact k a _ (.inl rfl) e
 | ext φ=>obtain ⟨p,⟨o,e⟩,st⟩:=x;exact ⟨st _ _ p λo q=>k _ _ (.inl rfl) q,⟨o,k _ _ (.inl rfl) e⟩,st⟩
theorem HOk.lt (x:HOk P w H h) (e:H a=aa o):a < h.objs.size:=(x a o e).lt
theorem HOk.fresh (x:HOk P w H h) (e:h.objs.size<=a):H a=af:=by
 cases q:H a with
 | none=>rfl| some u=>exact absurd (Tu (x.lt q) e) (UR _)
theorem HOk.kept (x:HOk P w H h) (k:∀ b u,h.get? b=aa u->h'.get? b=aa u):HOk P w H h':=λa o e =>
 (x a o e).stay (λb u _ q=>k b u q) (λ_ q=>q) λ_ _ q=>q
theorem HOk.laid (x:HOk P w H h) (k:∀ b u,h.get? b=aa u->h'.get? b=aa u) (hp:h.objs.size<=a) (new:gn P w (upd H a o) h' a o):HOk P w (upd H a o) h':=λb u e=>by
 have hn:=x.fresh hp
 by_cases hb:b=a
 subst hb;rw[fc] at e;cases e;exact new
 ·rw[dw hb] at e;exact (x b u e).stay (λc v _ q=>k c v q) (λc q=>by rw[dw (dZ q hn)];exact q) λc xs q=>by rw[dw (dZ q hn)];exact q
end
def Rd (H:Hp) (a:S6) (u:HO):Prop:=H a=aa u\/∃ o,H a=aa (.frz o u)
theorem Rd.ok (r:Rd H a u) (x:HOk P w H h):gn P w H h a u:=by
 rcases r with r|⟨o,r⟩
 exact x a u r
 ·obtain ⟨_,q⟩:=x a _ r;exact q
noncomputable def Mut:Option HO->Prop
 | some (.lst _)=>True| some (.dK _)=>True| some (.dT _)=>True| some (.set _ _)=>True| some (.ins _ _ _)=>True| some (.ext _)=>True| _=>False
section
variable {P:Td}{w:Tz}{H:Hp}{h h':au}{x e:S6}{o':HO}
theorem HOk.write (ok:HOk P w H h) (mu:Mut (H x)) (he:e=x\/H e=aa (.own x)) (k:∀ b u,b≠e->h.get? b=aa u->h'.get? b=aa u) (heo:∃ u,h'.get? e=aa u)
 (new:gn P w (upd H x o') h' x o'):HOk P w (upd H x o') h':=λb u q=>by
 have nown:∀ c y,H c=aa (.own y)->c≠x:=λc y r z=>by subst z;rw[r] at mu;exact mu
 have ntup:∀ c xs,H c=aa (.tup xs)->c≠x:=λc xs r z=>by subst z;rw[r] at mu;exact mu
 by_cases hb:b=x
 subst hb;rw[fc] at q;cases q;exact new
 ·rw[dw hb] at q
  by_cases hbe:b=e
  ·have q':H b=aa (.own x):=by
    rcases he with z|z
    exact absurd (hbe.trans z) hb;rw[hbe];exact z
   rw[q] at q';cases q';obtain ⟨v,hv⟩:=heo;exact ⟨v,by rw[hbe];exact hv⟩
  ·refine (ok b u q).stay (λc v hc r=>k c v ?_ r) (λc r=>by rw[dw (nown c b r)];exact r) λc xs r=>by rw[dw (ntup c xs r)];exact r
   rcases hc with rfl|hc
   exact hbe
   ·rintro rfl
    rcases he with z|z
    exact nown c b hc z;rw[hc] at z;cases z;exact hb rfl
end
structure Un (fs ex:List S6) (H H':Hp) (h h':au):Prop where
 keep:∀ b o,h.get? b=aa o->H b=af->b∉fs->b∉ex->h'.get? b=aa o
 slot:∀ b o,h.get? b=aa o->H b=af->b∈fs->b∉ex->∃ sl,h'.get? b=aa { o with slots:=sl }
 free:∀ b o,h.get? b=aa o->H b=af->b∉ex->H' b=af
 there:∀ b o,h.get? b=aa o->b∉ex->∃ o',h'.get? b=aa o'
 tups:∀ b xs,H b=aa (.tup xs)->H' b=aa (.tup xs)
 frzs:∀ b o u,H b=aa (.frz o u)->H' b=aa (.frz o u)
 tbls:∀ b ps,H b=aa (.tbl ps)->∃ more,H' b=aa (.tbl (ps++more))
section
variable {fs fs' ex ex':List S6}{H H1 H2:Hp}{h h1 h2 h':au}{a x e:S6}{o:HO}
theorem Un.any (u:Un fs ex H H1 h h1) (q:h.get? b=aa ob) (n:H b=af) (hx:b∉ex):∃ sl,h1.get? b=aa { ob with slots:=sl }:=by
 by_cases hb:b∈fs
 exact u.slot b ob q n hb hx;exact ⟨ob.slots,u.keep b ob q n hb hx⟩
theorem Un.kept (k:∀ b u,h.get? b=aa u->h'.get? b=aa u):Un fs ex H H h h' :=
 ⟨λb ob q _ _ _=>k b ob q,λb ob q _ _ _=>⟨ob.slots,k b ob q⟩,λ_ _ _ n _=>n,λb ob q _=>⟨ob,k b ob q⟩,λ_ _ q=>q,λ_ _ _ q=>q,λ_ ps q=>⟨#[],by rw[q];simp⟩⟩
theorem Un.refl:Un fs ex H H h h:=Un.kept λ_ _ q=>q
theorem Un.laid (k:∀ b u,h.get? b=aa u->h'.get? b=aa u) (hp:h.objs.size<=a) (hn:H a=af):Un fs ex H (upd H a o) h h' where
 keep:=λb u q _ _ _=>k b u q
 slot:=λb u q _ _ _=>⟨u.slots,k b u q⟩
 free:=λb u q n _=>by rw[dw (Tn (Tu (SW q) hp))];exact n
 there:=λb u q _=>⟨u,k b u q⟩
 tups:=λb xs q=>by rw[dw (dZ q hn)];exact q
 frzs:=λb u xs q=>by rw[dw (dZ q hn)];exact q
 tbls:=λb ps q=>⟨#[],by rw[dw (dZ q hn),q];simp⟩
theorem Un.write (mu:Mut (H x)) (he:e=x\/H e=aa (.own x)) (k:∀ b u,b≠e->h.get? b=aa u->h'.get? b=aa u) (heo:∃ u,h'.get? e=aa u):Un fs ex H (upd H x o) h h':=by
 have hx:∀ b,H b=af->b≠x:=λb n z=>by subst z;rw[n] at mu;exact mu
 have hb:∀ b,H b=af->b≠e:=λb n z=>by
  subst z;rcases he with r|r
  exact hx b n r;rw[n] at r;cases r
 have hm:∀ b u,H b=aa u->¬ Mut (aa u)->b≠x:=λb u q nm z=>by subst z;rw[q] at mu;exact nm mu
 refine ⟨λb u q n _ _=>k b u (hb b n) q,λb u q n _ _=>⟨u.slots,k b u (hb b n) q⟩,λb u q n _=>by rw[dw (hx b n)];exact n,λb u q _=>?_,
  λb xs q=>by rw[dw (hm b _ q λz=>z)];exact q,λb u xs q=>by rw[dw (hm b _ q λz=>z)];exact q,λb ps q=>⟨#[],by rw[dw (hm b _ q λz=>z),q];simp⟩⟩
 by_cases hbe:b=e
 subst hbe;exact heo;exact ⟨u,k b u hbe q⟩
end
noncomputable def trk (h:au) (H:Hp):List S6:=(U0 h.objs.size).filter λa=>(H a).isSome
noncomputable def tN (h:au) (H:Hp):au:=Uw h (trk h H)
theorem zE (h:au) (H:Hp):(tN h H).objs.size=h.objs.size:=PySem.W.hideAll_size _ _
theorem tO (e:h.get? b=aa o) (n:H b=af):(tN h H).get? b=aa o :=
 Vh _ e λhm=>by have q:(H b).isSome=ah:=(List.mem_filter.mp hm).2;rw[n] at q;simp at q
theorem El (e:(tN h H).get? b=aa o):h.get? b=aa o/\H b=af:=by
 have e':h.get? b=aa o:=VU (trk h H) e;refine ⟨e',?_⟩;cases q:H b with
 | none=>rfl
 | some x =>
  have hm:b∈trk h H:=List.mem_filter.mpr ⟨List.mem_range.mpr (SW e'),by simp[q]⟩;have z:(tN h H).get? b=af:=Ys (trk h H) hm;rw[z] at e;cases e
noncomputable def Em (g h:au) (L:S6):List (S6×aq):=(U0 h.objs.size).filterMap λa=>if a=L\/(g.get? a).isSome=ah then af else (h.get? a).map λo=>(a,o)
noncomputable def rest (g h:au) (L d:S6):List (S6×aq):=(Em g h L).filter λp=>decide (p.1≠d)
end L2
namespace L2
open PySem PySem.Spec PyProof.Rows
structure Mod (K:SA) (mg:az->Option aA) (base:au):Prop where
 kin:K.In base
 glob:base.Ns S7 mg
 blt:∃ mb,base.Ns Vy mb/\∀ x:az,x≠"__name__"->mb x=VR x
 nolimit:base.NoLimit
structure Cx where
 prog:Td
 w:Tz
 K:SA
 mg:az->Option aA
 base:au
 A:Ub
 N:List az
 s₀:SL
 H₀:Hp
 env:Env
 outer:List Env
 stack:List Env
 ex:List S6
 fn:az->Bool
 calm:Bool
 pn:List (S6×aq)
 xe:aA->SL->Prop
noncomputable def frs (l:List Env):List S6:=l.filterMap (·.frame)
noncomputable abbrev Cx.fs (X:Cx):List S6:=frs X.outer
def Vis (sc:Um) (x:az):Prop:=sc.names.lookup x=aa .local\/sc.names.lookup x=aa .cell\/sc.names.lookup x=aa .free
def Loc (sc:Um) (x:az):Prop:=sc.names.lookup x=aa .local\/sc.names.lookup x=aa .cell
def Look (env:Env) (h:au) (m:az->Option aA) (x:az) (u:aA):Prop :=
 (env.kindOf x=aa .local/\m x=aa u)\/((env.kindOf x=aa .cell\/env.kindOf x=aa .free)/\∃ c,env.cells.lookup x=aa c/\h.IsCell c (aa u))
structure Cx.Ok (X:Cx):Prop where
 mod:Mod X.K X.mg X.base
 kind:X.env.scope.kind=.function
 glob:X.env.globals=S7
 blt:X.env.builtins=Vy
 above:X.s₀.heap.objs.size<=X.env.locals
 inj:∀ x y c,X.env.cells.lookup x=aa c->X.env.cells.lookup y=aa c->x=y
 has:∀ x,(X.env.kindOf x=aa .cell\/X.env.kindOf x=aa .free)->∃ c,X.env.cells.lookup x=aa c
 cab:∀ x c,X.fn x=ah->X.env.cells.lookup x=aa c->X.s₀.heap.objs.size<=c
 hd:X.calm=ah->X.A.handled=af
 frames:X.A.frames=aa X.stack
 stk:X.stack=X.outer\/(X.stack=X.env::X.outer/\X.env.frame=aa X.env.locals)
 exf:∀ b∈X.ex,b≠X.env.locals/\∀ x c,X.env.cells.lookup x=aa c->c≠b
 bs:∀ b o,X.base.get? b=aa o->X.s₀.heap.get? b=aa o/\X.H₀ b=af
 bsz:X.base.objs.size<=X.s₀.heap.objs.size
 noex:∀ b o,X.base.get? b=aa o->b∉X.ex
 exfs:∀ b∈X.ex,b∉X.fs
 jc:X.s₀.heap.FunFrames X.base X.outer
 frf:∀ b∈X.fs,X.H₀ b=af
structure Inv (X:Cx) (zt:List (S6×aq)) (σ:List (Option V)) (H:Hp) (s:SL):Prop where
 ok:X.Ok
 os:s.os=X.s₀.os
 bare:Xi s.gens
 base:Un X.fs X.ex X.H₀ H X.s₀.heap s.heap
 loc:∃ m,s.heap.Ns X.env.locals m/\∀ (i:Nat) (x:az) (v:V),X.N[i]?=aa x->σ[i]?=aa (aa v)->Vis X.env.scope x->∃ u,RelV v u/\Look X.env s.heap m x u
 cell:∀ x c,X.env.cells.lookup x=aa c->∃ v,s.heap.IsCell c v
 free:H X.env.locals=af
 freeC:∀ x c,X.env.cells.lookup x=aa c->H c=af
 pin:∀ p∈X.pn++zt,s.heap.get? p.1=aa p.2/\H p.1=af/\p.1≠X.env.locals/\p.1∉X.fs/\∀ v,p.2.data≠.cell v
 hok:HOk X.prog X.w H s.heap
 len:σ.length=X.N.length
section
variable {X:Cx}{zt:List (S6×aq)}{σ:List (Option V)}{H H':Hp}{s:SL}{h':au}
theorem Cx.Ok.Pi (ok:X.Ok) (e:X.base.get? b=aa o):b∉X.fs:=λhb=>by have:=(ok.jc.mem hb).1;rw[e] at this;cases this
theorem Inv.bs (I:Inv X zt σ H s):∀ b o,X.base.get? b=aa o->s.heap.get? b=aa o/\H b=af:=λb o e =>
 ⟨I.base.keep b o (I.ok.bs b o e).1 (I.ok.bs b o e).2 (I.ok.Pi e) (I.ok.noex b o e),I.base.free b o (I.ok.bs b o e).1 (I.ok.bs b o e).2 (I.ok.noex b o e)⟩
theorem Inv.bk (I:Inv X zt σ H s):∀ b o,X.base.get? b=aa o->s.heap.get? b=aa o:=λb o e=>(I.bs b o e).1
theorem Inv.mod (I:Inv X zt σ H s):Mod X.K X.mg X.base:=I.ok.mod
theorem Inv.kIn (I:Inv X zt σ H s):X.K.In s.heap:=I.ok.mod.kin.keeps I.bk
theorem Inv.lt (I:Inv X zt σ H s):X.env.locals < s.heap.objs.size:=let ⟨_,hn,_⟩:=I.loc;hn.lt
theorem Inv.sz (I:Inv X zt σ H s):X.s₀.heap.objs.size<=s.heap.objs.size:=SZ I.ok.above (Vr I.lt)
theorem Inv.Pj (I:Inv X zt σ H s) (h:s.heap.objs.size<=a):a∉X.fs:=λhb=>by obtain ⟨_,o,ho,_⟩:=I.ok.jc.mem hb;exact absurd (Tu (SW ho) (SZ I.sz h)) (UR _)
theorem Inv.cne (I:Inv X zt σ H s):∀ x c,X.env.cells.lookup x=aa c->c≠X.env.locals:=λx c e z=>by obtain ⟨v,o,ho,hd⟩:=I.cell x c e;obtain ⟨m,⟨o',es,ep,ho',hd',_⟩,_⟩:=I.loc;rw[z,ho'] at ho;cases ho;rw[hd'] at hd;cases hd
theorem Inv.jc (I:Inv X zt σ H s):s.heap.FunFrames X.base X.outer:=by
 have all:∀ (l:List Env),(∀ b∈frs l,b∈X.fs)->X.s₀.heap.FunFrames X.base l->s.heap.FunFrames X.base l:=by
  intro l
  induction l with
  | nil=>intro _ _;trivial
  | cons env r ih =>
   intro hs hl;obtain ⟨hk,⟨L,o,hf,hn,ho,hd⟩,hr⟩:=hl;have hL:L∈X.fs:=hs L (by unfold frs;rw[VW,hf];exact SG);obtain ⟨sl,e⟩:=I.base.slot L o ho (I.ok.frf L hL) hL λz=>I.ok.exfs L z hL;exact ⟨hk,⟨L,_,hf,hn,e,hd⟩,ih (λb hb=>hs b (by unfold frs;rw[VW,hf];exact SI _ hb)) hr⟩
 exact all X.outer (λ_ hb=>hb) I.ok.jc
theorem Inv.stack (I:Inv X zt σ H s):s.heap.FunFrames X.base X.stack:=by
 rcases I.ok.stk with e|⟨e,hf⟩
 rw[e];exact I.jc
 ·rw[e];obtain ⟨m,hn,_⟩:=I.loc;refine .cons (by rw[I.ok.kind];decide) hf hn ?_ I.jc;exact Heap.get?_none_of_le (SZ I.ok.bsz I.ok.above)
theorem Inv.jA (I:Inv X zt σ H s):∀ b∈frs X.stack,b∈X.env.locals::X.fs:=λb hb=>by
 rcases I.ok.stk with e|⟨e,hf⟩
 rw[e] at hb;exact SI _ hb
 ·rw[e] at hb;unfold frs at hb;rw[VW,hf] at hb;exact hb
theorem Inv.qR (I:Inv X zt σ H s):∀ b∈frs X.stack,H b=af:=λb hb=>by
 rcases List.mem_cons.mp (I.jA b hb) with e|hb
 rw[e];exact I.free
 ·obtain ⟨_,o,ho,_⟩:=I.ok.jc.mem hb;exact I.base.free b o ho (I.ok.frf b hb) λz=>I.ok.exfs b z hb
theorem Inv.step {g':Array GenState}{t':Nat}{d':Drawn}{ch:List S6} (I:Inv X zt σ H s)
 (hch:∀ b∈ch,(b∈X.ex\/X.s₀.heap.objs.size<=b)/\b≠X.env.locals/\(∀ x c,X.env.cells.lookup x=aa c->c≠b)/\∀ p∈X.pn++zt,p.1≠b)
 (keep:∀ b o,b≠X.env.locals->b∉X.fs->b∉ch->s.heap.get? b=aa o->H b=af->h'.get? b=aa o)
 (slot:∀ b o,b≠X.env.locals->b∈X.fs->b∉ch->s.heap.get? b=aa o->H b=af->∃ sl,h'.get? b=aa { o with slots:=sl }) (free:∀ b o,b∉ch->s.heap.get? b=aa o->H b=af->H' b=af)
 (there:∀ b o,b∉ch->s.heap.get? b=aa o->∃ o',h'.get? b=aa o')
 (tups:∀ b xs,H b=aa (.tup xs)->H' b=aa (.tup xs)) (frzs:∀ b o u,H b=aa (.frz o u)->H' b=aa (.frz o u)) (tbls:∀ b ps,H b=aa (.tbl ps)->∃ more,H' b=aa (.tbl (ps++more)))
 (ns:∀ m,s.heap.Ns X.env.locals m->h'.Ns X.env.locals m) (hok:HOk X.prog X.w H' h') (hg:Xi g') :
 Inv X zt σ H' { s with heap:=h',gens:=g',drawn:=d',toks:=t' }:=by
 have neL:∀ b o,X.s₀.heap.get? b=aa o->b≠X.env.locals:=λb o e=>Tn (Tu (SW e) I.ok.above);have neC:∀ b o,X.s₀.heap.get? b=aa o->b∉X.ex->b∉ch:=λb o e hx hb=>by
  rcases (hch b hb).1 with z|z
  exact hx z;exact absurd (Tu (SW e) z) (UR _)
 have cellK:∀ x c,X.env.cells.lookup x=aa c->∀ v,s.heap.IsCell c v->h'.IsCell c v:=λx c e v ⟨o,ho,hd⟩=>by
  have nch:c∉ch:=λz=>(hch c z).2.2.1 x c e rfl
  by_cases hc:c∈X.fs
  ·obtain ⟨sl,q⟩:=slot c o (I.cne x c e) hc nch ho (I.freeC x c e);exact ⟨_,q,hd⟩
  exact ⟨o,keep c o (I.cne x c e) hc nch ho (I.freeC x c e),hd⟩
 refine ⟨I.ok,I.os,hg,⟨λb o e n hb hx=>?_,λb o e n hb hx=>?_,λb o e n hx=>?_,λb o e hx=>?_,λb xs e=>tups b xs (I.base.tups b xs e),λb o xs e=>frzs b o xs (I.base.frzs b o xs e),λb ps e=>?_⟩,?_,λx c e=>?_,?_,λx c e=>?_,λp hp=>?_,hok,I.len⟩;exact keep b o (neL b o e) hb (neC b o e hx) (I.base.keep b o e n hb hx) (I.base.free b o e n hx)
 ·obtain ⟨sl,e1⟩:=I.base.slot b o e n hb hx;obtain ⟨sl',e2⟩:=slot b _ (neL b o e) hb (neC b o e hx) e1 (I.base.free b o e n hx);exact ⟨sl',e2⟩
 ·obtain ⟨o',e1⟩:=I.base.there b o e hx;exact free b o' (neC b o e hx) e1 (I.base.free b o e n hx)
 ·obtain ⟨o',e1⟩:=I.base.there b o e hx;exact there b o' (neC b o e hx) e1
 ·obtain ⟨m1,e1⟩:=I.base.tbls b ps e;obtain ⟨m2,e2⟩:=tbls b _ e1;exact ⟨m1++m2,by rw[e2,Array.append_assoc]⟩
 ·obtain ⟨m,hn,hl⟩:=I.loc;refine ⟨m,ns m hn,λi x v e1 e2 e3=>?_⟩;obtain ⟨u,r,l⟩:=hl i x v e1 e2 e3;refine ⟨u,r,?_⟩;rcases l with l|⟨k,c,e,z⟩
  exact .inl l;exact .inr ⟨k,c,e,cellK x c e _ z⟩
 ·obtain ⟨v,z⟩:=I.cell x c e;exact ⟨v,cellK x c e v z⟩
 ·obtain ⟨m,⟨o,_,_,ho,_⟩,_⟩:=I.loc;exact free _ o (λz=>(hch _ z).2.1 rfl) ho I.free
 ·obtain ⟨v,o,ho,hd⟩:=I.cell x c e;exact free c o (λz=>(hch c z).2.2.1 x c e rfl) ho (I.freeC x c e)
 ·obtain ⟨e,n,ne,nf,d⟩:=I.pin p hp;have nch:p.1∉ch:=λz=>(hch p.1 z).2.2.2 p hp rfl;exact ⟨keep p.1 p.2 ne nf nch e n,free p.1 p.2 nch e n,ne,nf,d⟩
theorem Inv.un {t':Nat} (I:Inv X zt σ H s) (u:Un X.fs [] H H' s.heap h') (hok:HOk X.prog X.w H' h'):Inv X zt σ H' { s with heap:=h',toks:=t' }:=by
 obtain ⟨m,⟨o,es,ep,ho,r⟩,_⟩:=id I.loc;obtain ⟨sl,hL⟩:=u.any ho I.free (by simp);exact I.step (g':=s.gens) (d':=s.drawn) (ch:=[]) (λ_ z=>nomatch z) (λb o _ hb _ e n=>u.keep b o e n hb (by simp)) (λb o _ hb _ e n=>u.slot b o e n hb (by simp)) (λb o _ e n=>u.free b o e n (by simp)) (λb o _ e=>u.there b o e (by simp)) u.tups u.frzs u.tbls (λm' hm=>by obtain ⟨o',es',ep',ho',r'⟩:=hm;rw[ho] at ho';cases ho';exact ⟨_,es',ep',hL,r'⟩) hok I.bare
theorem Inv.call {g':Array GenState}{t':Nat}{d':Drawn}{ch:List S6} (I:Inv X zt σ H s) (u:Un (frs X.stack) ch H H' s.heap h') (hok:HOk X.prog X.w H' h') (hg:Xi g')
 (hch:∀ b∈ch,(b∈X.ex\/X.s₀.heap.objs.size<=b)/\b≠X.env.locals/\(∀ x c,X.env.cells.lookup x=aa c->c≠b)/\∀ p∈X.pn++zt,p.1≠b) :
 Inv X zt σ H' { s with heap:=h',gens:=g',drawn:=d',toks:=t' }:=by
 obtain ⟨m,⟨o,es,ep,ho,r⟩,_⟩:=id I.loc;obtain ⟨sl,hL⟩:=u.any ho I.free λz=>(hch _ z).2.1 rfl;exact I.step (ch:=ch) hch (λb o hL hb hc e n=>u.keep b o e n (λz=>(List.mem_cons.mp (I.jA b z)).elim hL hb) hc) (λb o _ _ hc e n=>u.any e n hc) (λb o hc e n=>u.free b o e n hc) (λb o hc e=>u.there b o e hc) u.tups u.frzs u.tbls (λm' hm=>by obtain ⟨o',es',ep',ho',r'⟩:=hm;rw[ho] at ho';cases ho';exact ⟨_,es',ep',hL,r'⟩) hok hg
theorem Inv.turned {t':Nat}{it:S6} (I:Inv X zt σ H s) (k:∀ b o,b≠it->s.heap.get? b=aa o->h'.get? b=aa o) (hn:H it=af) (hL:it≠X.env.locals)
 (h1:it∈X.ex\/X.s₀.heap.objs.size<=it) (h2:∀ x c,X.env.cells.lookup x=aa c->c≠it) (h3:∀ p∈X.pn++zt,p.1≠it):Inv X zt σ H { s with heap:=h',toks:=t' }:=by
 have nit:∀ b u,H b=aa u->b≠it:=λb u e z=>by rw[z,hn] at e;cases e
 refine I.step (g':=s.gens) (d':=s.drawn) (ch:=[it]) (λb hb=>?_) (λb o _ _ hc e _=>k b o (λz=>hc (by simp[z])) e) (λb o _ _ hc e _=>⟨o.slots,k b o (λz=>hc (by simp[z])) e⟩) (λ_ _ _ _ n=>n)
  (λb o hc e=>⟨o,k b o (λz=>hc (by simp[z])) e⟩) (λ_ _ e=>e) (λ_ _ _ e=>e) (λb ps e=>⟨#[],by rw[e];simp⟩) (λm hm=>?_) (λb u e=>?_) I.bare
 ·have e:b=it:=by simpa using hb
  subst e;exact ⟨h1,hL,h2,h3⟩
 ·obtain ⟨o,es,ep,ho,r⟩:=hm;exact ⟨o,es,ep,k _ o (UM hL) ho,r⟩
 ·refine (I.hok b u e).stay (λc v hc q=>k c v ?_ q) (λ_ q=>q) λ_ _ q=>q;rcases hc with z|z
  rw[z];exact nit b u e;exact nit c _ z
theorem Inv.tok (I:Inv X zt σ H s) (t:Nat):Inv X zt σ H { s with toks:=t }:=I.un (h':=s.heap) (t':=t) Un.refl I.hok
theorem Inv.kept (I:Inv X zt σ H s) (k:∀ b u,s.heap.get? b=aa u->h'.get? b=aa u):Inv X zt σ H { s with heap:=h',toks:=t' }:=I.un (Un.kept k) (I.hok.kept k)
theorem Inv.laid (I:Inv X zt σ H s) (k:∀ b u,s.heap.get? b=aa u->h'.get? b=aa u) (hp:s.heap.objs.size<=a) (new:gn X.prog X.w (upd H a o) h' a o) :
 Inv X zt σ (upd H a o) { s with heap:=h',toks:=t' }:=I.un (Un.laid k hp (I.hok.fresh hp)) (I.hok.laid k hp new)
theorem Inv.write (I:Inv X zt σ H s) (mu:Mut (H x)) (he:e=x\/H e=aa (.own x)) (k:∀ b u,b≠e->s.heap.get? b=aa u->h'.get? b=aa u) (heo:∃ u,h'.get? e=aa u)
 (new:gn X.prog X.w (upd H x o) h' x o):Inv X zt σ (upd H x o) { s with heap:=h',toks:=t' }:=I.un (Un.write mu he k heo) (I.hok.write mu he k heo new)
theorem Inv.jT (I:Inv X zt σ H s) (h:∀ p∈pins',s.heap.get? p.1=aa p.2/\H p.1=af/\p.1≠X.env.locals/\p.1∉X.fs/\∀ v,p.2.data≠.cell v):Inv X pins' σ H s :=
 ⟨I.ok,I.os,I.bare,I.base,I.loc,I.cell,I.free,I.freeC,λp hp=>(List.mem_append.mp hp).elim (λz=>I.pin p (T4 _ z)) (h p),I.hok,I.len⟩
theorem tP {N:List az} (hN:N.Nodup) {i j:Nat}{x:az} (a:N[i]?=aa x) (b:N[j]?=aa x):i=j:=by obtain ⟨h1,e1⟩:=List.getElem?_eq_some_iff.mp a;obtain ⟨h2,e2⟩:=List.getElem?_eq_some_iff.mp b;exact (List.getElem_inj hN).mp (e1.trans e2.symm)
theorem mJ {M:Model}{A:Ub}{E:aA->SL->Prop}{i:Nat}{x:az}{v:V}{u:aA}{Q:Unit->SL->Prop} (I:Inv X zt σ H s) (hN:X.N.Nodup) (hi:X.N[i]?=aa x) (hx:Loc X.env.scope x) (r:RelV v u)
 (h:∀ s',Inv X zt (σ.set i (aa v)) H s'->(∃ a,TN a s.heap s'.heap/\(a=X.env.locals\/X.env.cells.lookup x=aa a))->Q () s') (hf:X.fn x=ah\/X.env.scope.names.lookup x=aa .local:=by first|exact .inl rfl|exact .inr rfl|assumption):ay M A (storeName X.env x u) Q E s:=by
 obtain ⟨m,hn,hl⟩:=id I.loc;have hcls:(X.env.scope.kind==.class||(X.env.scope.kind==.module&&X.env.locals != X.env.globals))=ai:=by rw[I.ok.kind];rfl
 have hiσ:i < σ.length:=by rw[I.len];exact (List.getElem?_eq_some_iff.mp hi).1
 have cne:=I.cne;have tracked:∀ {a:S6}{h':au},(∃ o,s.heap.get? a=aa o/\H a=af)->TN a s.heap h'->HOk X.prog X.w H h':=λ{a h'} ha hs b ob e=>by
  obtain ⟨_,_,hfree⟩:=ha;refine (I.hok b ob e).stay (λc w' hc q=>(hs.2 c ?_).trans q) (λ_ q=>q) λ_ _ q=>q
  rintro rfl
  rcases hc with rfl|hc
  rw[hfree] at e;cases e;rw[hfree] at hc;cases hc
 rcases hx with hk|hk
 ·refine wpAny_storeName_local hk hn (λh' hn' hs=>?_) hcls;obtain ⟨oL,_,_,hoL,_⟩:=id hn;refine h _ ⟨I.ok,I.os,I.bare,⟨λb o e n hb hx=>?_,λb o e n hb hx=>?_,I.base.free,λb o e hx=>?_,I.base.tups,I.base.frzs,I.base.tbls⟩,⟨_,hn',λj y v' e1 e2 e3=>?_⟩,λy c e=>?_,I.free,I.freeC,λp hp=>?_,tracked ⟨oL,hoL,I.free⟩ hs,by simpa using I.len⟩ ⟨_,hs,.inl rfl⟩;exact (hs.2 b (Tn (Tu (SW e) I.ok.above))).trans (I.base.keep b o e n hb hx)
  ·obtain ⟨sl,e1⟩:=I.base.slot b o e n hb hx;exact ⟨sl,(hs.2 b (Tn (Tu (SW e) I.ok.above))).trans e1⟩
  ·obtain ⟨o',e1⟩:=I.base.there b o e hx;exact ⟨o',(hs.2 b (Tn (Tu (SW e) I.ok.above))).trans e1⟩
  ·by_cases hj:j=i
   ·subst hj;rw[hi] at e1;cases e1;rw[UL hiσ] at e2;cases e2;exact ⟨u,r,.inl ⟨hk,by simp⟩⟩
   ·rw[Ve (UM hj)] at e2;obtain ⟨u',r',q⟩:=hl j y v' e1 e2 e3;refine ⟨u',r',?_⟩;rcases q with ⟨k,e⟩|⟨k,c,e,z⟩
    ·refine .inl ⟨k,?_⟩;have:y≠x:=λe=>hj (tP hN e1 (e ▸ hi));simp[this,e]
    exact .inr ⟨k,c,e,z.sameBut hs (cne y c e)⟩
  ·obtain ⟨w',z⟩:=I.cell y c e;exact ⟨w',z.sameBut hs (cne y c e)⟩
  ·obtain ⟨e,n,ne,nf,d⟩:=I.pin p hp;exact ⟨(hs.2 p.1 ne).trans e,n,ne,nf,d⟩
 ·have hfn:X.fn x=ah:=by
   rcases hf with z|z
   exact z;rw[z] at hk;cases hk
  obtain ⟨c,hc⟩:=I.ok.has x (.inl hk);obtain ⟨w',z⟩:=I.cell x c hc;refine wpAny_storeName_cell I.ok.kind hk hc z (λh' hc' hs=>?_);obtain ⟨oc,hoc,hocd⟩:=id z;refine h { s with heap:=h' } ⟨I.ok,I.os,I.bare,⟨λb o e n hb hx=>?_,λb o e n hb hx=>?_,I.base.free,λb o e hx=>?_,I.base.tups,I.base.frzs,I.base.tbls⟩,⟨m,hn.sameBut hs (UM (cne x c hc)),λj y v' e1 e2 e3=>?_⟩,λy c' e=>?_,I.free,I.freeC,λp hp=>?_,tracked ⟨oc,hoc,I.freeC x c hc⟩ hs,by simpa using I.len⟩ ⟨c,hs,.inr hc⟩;exact (hs.2 b (Tn (Tu (SW e) (I.ok.cab x c hfn hc)))).trans (I.base.keep b o e n hb hx)
  ·obtain ⟨sl,e1⟩:=I.base.slot b o e n hb hx;exact ⟨sl,(hs.2 b (Tn (Tu (SW e) (I.ok.cab x c hfn hc)))).trans e1⟩
  ·obtain ⟨o',e1⟩:=I.base.there b o e hx;exact ⟨o',(hs.2 b (Tn (Tu (SW e) (I.ok.cab x c hfn hc)))).trans e1⟩
  ·by_cases hj:j=i
   ·subst hj;rw[hi] at e1;cases e1;rw[UL hiσ] at e2;cases e2;exact ⟨u,r,.inr ⟨.inl hk,c,hc,hc'⟩⟩
   ·rw[Ve (UM hj)] at e2;obtain ⟨u',r',q⟩:=hl j y v' e1 e2 e3;refine ⟨u',r',?_⟩;rcases q with q|⟨k,c',e,z'⟩
    exact .inl q
    ·refine .inr ⟨k,c',e,z'.sameBut hs ?_⟩
     rintro rfl
     exact hj (tP hN e1 (I.ok.inj _ _ _ e hc ▸ hi))
  ·by_cases hcc:c'=c
   subst hcc;exact ⟨_,hc'⟩
   ·obtain ⟨w2,z2⟩:=I.cell y c' e;exact ⟨w2,z2.sameBut hs hcc⟩
  ·obtain ⟨e,n,ne,nf,d⟩:=I.pin p hp;refine ⟨(hs.2 p.1 ?_).trans e,n,ne,nf,d⟩;intro q;rw[q,hoc] at e;have q':oc=p.2:=S9 e;exact d w' (by rw[← q'];exact hocd)
theorem n9 {E:aA->SL->Prop} (I:Inv X zt σ H s) (hN:X.N.Nodup) (hi:X.N[i]?=aa x) (hx:Loc X.env.scope x) (r:RelV v u)
 (h:∀ s',Inv X zt (σ.set i (aa v)) H s'->Q () s') (hf:X.fn x=ah\/X.env.scope.names.lookup x=aa .local:=by first|exact .inl rfl|exact .inr rfl|assumption):ay M A (storeName X.env x u) Q E s :=
 mJ I hN hi hx r (λs' I' _=>h s' I') hf
theorem Inv.wX (I:Inv X zt σ H s) (ho:s'.os=s.os) (u:Un (frs X.stack) ch H H' s.heap s'.heap) (hok:HOk X.prog X.w H' s'.heap) (hg:Xi s'.gens)
 (hch:∀ b∈ch,(b∈X.ex\/X.s₀.heap.objs.size<=b)/\b≠X.env.locals/\(∀ x c,X.env.cells.lookup x=aa c->c≠b)/\∀ p∈X.pn++zt,p.1≠b):Inv X zt σ H' s':=by
 obtain ⟨h',g',d',t',o'⟩:=s';have e:o'=s.os:=ho;subst e;exact I.call (g':=g') (t':=t') (d':=d') u hok hg hch
end
abbrev XK:=aA->Option S6->Hp->Prop
noncomputable abbrev St:=List (Option V)
abbrev VK:=V->Hp->Prop
abbrev TE:=St->Hp->VK->Prop
abbrev TT:=St->Hp->(Bool->Hp->Prop)->Prop
abbrev TA:=St->Hp->(List V->Hp->Prop)->Prop
structure Ends where
 nx:St->Hp->Prop
 rt:VK
 bk:St->Hp->Prop:=λ_ _=>False
 ct:St->Hp->Prop:=λ_ _=>False
abbrev TS:=Ends->St->Hp->Prop
inductive EP (X:Cx) (zt:List (S6×aq)) (σ:St) (Q:VK) (u:aA) (s':SL):Prop where
 | mk (v:V) (H':Hp) (I:Inv X zt σ H' s') (r:RelV v u) (q:Q v H'):EP X zt σ Q u s'
inductive TP (X:Cx) (zt:List (S6×aq)) (σ:St) (Q:Bool->Hp->Prop) (b:Bool) (s':SL):Prop where
 | mk (H':Hp) (I:Inv X zt σ H' s') (q:Q b H'):TP X zt σ Q b s'
inductive AP (X:Cx) (zt:List (S6×aq)) (σ:St) (Q:List V->Hp->Prop) (us:List aA) (s':SL):Prop where
 | mk (vs:List V) (H':Hp) (I:Inv X zt σ H' s') (r:dD vs us) (q:Q vs H'):AP X zt σ Q us s'
def SP (X:Cx) (zt:List (S6×aq)) (D:Ends) (f:Flow) (s':SL):Prop :=
 match f with
 | .next=>∃ σ' H',Inv X zt σ' H' s'/\D.nx σ' H'| .brk=>∃ σ' H',Inv X zt σ' H' s'/\D.bk σ' H'| .cont=>∃ σ' H',Inv X zt σ' H' s'/\D.ct σ' H'| .ret u=>∃ v σ' H',Inv X zt σ' H' s'/\RelV v u/\D.rt v H'
def PE (X:Cx) (e:Xc) (t:TE):Prop :=
 ∀ (zt:List (S6×aq)) (s:SL) (σ:St) (H:Hp) (Q:VK),Inv X zt σ H s->t σ H Q->ay (Ti X.prog X.w) X.A (eval e X.env) (EP X zt σ Q) X.xe s
def PT (X:Cx) (e:Xc) (t:TT):Prop :=
 ∀ (zt:List (S6×aq)) (s:SL) (σ:St) (H:Hp) (Q:Bool->Hp->Prop),Inv X zt σ H s->t σ H Q->ay (Ti X.prog X.w) X.A (isTrue e X.env (eval e X.env)) (TP X zt σ Q) X.xe s
def PW (X:Cx) (e:Xc) (t:TT):Prop :=
 ∀ (whole:Sem aA) (zt:List (S6×aq)) (s:SL) (σ:St) (H:Hp) (Q:Bool->Hp->Prop),Inv X zt σ H s->t σ H Q->ay (Ti X.prog X.w) X.A (isTrue e X.env whole) (TP X zt σ Q) X.xe s
theorem PW.pt (h:PW X e t):PT X e t:=h _
def PA (X:Cx) (es:List Xc) (t:TA):Prop :=
 ∀ (pos:Pos) (zt:List (S6×aq)) (s:SL) (σ:St) (H:Hp) (Q:List V->Hp->Prop),Inv X zt σ H s->t σ H Q->ay (Ti X.prog X.w) X.A (Y6 (VS pos (T5 es X.env))) (AP X zt σ Q) X.xe s
def PS (X:Cx) (st:Xj) (t:TS):Prop :=
 ∀ (zt:List (S6×aq)) (s:SL) (σ:St) (H:Hp) (D:Ends),Inv X zt σ H s->t D σ H->ay (Ti X.prog X.w) X.A (exec st X.env) (SP X zt D) X.xe s
def PSs (X:Cx) (st:List Xj) (t:TS):Prop :=
 ∀ (zt:List (S6×aq)) (s:SL) (σ:St) (H:Hp) (D:Ends),Inv X zt σ H s->t D σ H->ay (Ti X.prog X.w) X.A (execs st X.env) (SP X zt D) X.xe s
theorem thn {α:Type}{t:Sem α}{Q Q':α->SL->Prop}{E:aA->SL->Prop} (h:ay M A t Q E s) (hQ:∀ a s,Q a s->Q' a s):ay M A t Q' E s:=UA h hQ λ_ _ x=>x
end L2
namespace L2
open PySem PySem.Spec PyProof.Rows
section
variable {X:Cx}
theorem bin {a b:Xc}{ta tb:TE} (ha:PE X a ta) (hb:PE X b tb) {zt:List (S6×aq)}{s:SL}{σ:St}{H:Hp}{R:V->V->Hp->Prop} (I:Inv X zt σ H s) (h:ta σ H λx H1=>tb σ H1 λy H2=>R x y H2)
 {α:Type}{Q:α->SL->Prop}{f:aA->aA->Sem α}
 (hf:∀ v u s2 x y H2,Inv X zt σ H2 s2->RelV x v->RelV y u->R x y H2->ay (Ti X.prog X.w) X.A (f v u) Q X.xe s2) :
 ay (Ti X.prog X.w) X.A (eval a X.env) (λv s₁=>ay (Ti X.prog X.w) X.A (eval b X.env) (λu s₂=>ay (Ti X.prog X.w) X.A (f v u) Q X.xe s₂) X.xe s₁) X.xe s:=by
 refine thn (ha zt s σ H _ I h) λv s1 zq=>?_;obtain ⟨x,H1,I1,r1,q1⟩:=zq;refine thn (hb zt s1 σ H1 _ I1 q1) λu s2 zq=>?_;obtain ⟨y,H2,I2,r2,q2⟩:=zq;exact hf v u s2 x y H2 I2 r1 r2 q2
def Pk (i:Nat):TE:=fun σ H Q=>∃ v,σ[i]?=aa (aa v)/\Q v H
def tC (v:V):TE:=λ_ H Q=>Q v H
theorem Ia (hN:X.N[i]?=aa x) (hv:Vis X.env.scope x) (hd:(x==("__debug__":az))=ai:=by decide) (hcd:(x==("__classdict__":az))=ai:=by decide):PE X (.Name x pos) (Pk i):=by
 intro zt s σ H Q I h;obtain ⟨v,e,h⟩:=h;obtain ⟨m,hn,hl⟩:=I.loc;obtain ⟨u,r,l⟩:=hl i x v hN e hv;have fin:EP X zt σ Q u s:=⟨v,H,I,r,h⟩;rcases l with ⟨hk,hm⟩|⟨hk,c,hc,hcell⟩
 exact wpAny_Name (wpAny_loadName_local I.ok.kind hk hn hm fin) hd
 ·rcases hk with hk|hk
  exact wpAny_Name (wpAny_loadName_cell I.ok.kind hk hc hcell fin) hd;exact wpAny_Name (wpAny_loadName_free I.ok.kind hk hc hcell fin hcd) hd
theorem AH {i j pos}:PE X (.Constant (.int i) j pos) (tC (.int i)):=λ_ _ _ H _ I h=>wpAny_Constant_int ⟨.int i,H,I.tok _,⟨_,rfl⟩,h⟩
theorem Ls {b j pos}:PE X (.Constant (.bool b) j pos) (tC (.bl b)):=λ_ _ _ H _ I h=>Constant_bool ⟨.bl b,H,I,rfl,h⟩
theorem Ib {j pos}:PE X (.Constant .none j pos) (tC .non):=λ_ _ _ H _ I h=>Constant_none ⟨.non,H,I,rfl,h⟩
theorem Ic {x j pos}:PE X (.Constant (.str x) j pos) (tC (.str x)):=λ_ _ _ H _ I h=>Y0 ⟨.str x,H,I.tok _,⟨_,rfl⟩,h⟩
def Gl (X:Cx) (x:az):Prop:=X.env.kindOf x=aa .globalImplicit
theorem lD {E:aA->SL->Prop} (I:Inv X zt σ H s) (hg:Gl X x) (hm:X.mg x=aa u) (h:Q u s)
 (hd:(x==("__debug__":az))=ai:=by decide):ay (Ti X.prog X.w) X.A (eval (.Name x pos) X.env) Q E s :=
 VX I.ok.kind hg (Yp (by rw[I.ok.glob];exact I.mod.glob.keeps I.bk) hm h) hd
theorem kM {E:aA->SL->Prop} (I:Inv X zt σ H s) (hg:Gl X x) (hm:X.mg x=af) (hv:VR x=aa u) (h:Q u s)
 (hn:x≠"__name__":=by decide) (hd:(x==("__debug__":az))=ai:=by decide):ay (Ti X.prog X.w) X.A (eval (.Name x pos) X.env) Q E s:=by
 obtain ⟨mb,h1,h2⟩:=I.mod.blt;exact VX I.ok.kind hg (Calls.loadGlobal_builtin (by rw[I.ok.glob];exact I.mod.glob.keeps I.bk) hm (by rw[I.ok.blt];exact h1.keeps I.bk) ((h2 x hn).trans hv) h) hd
theorem wY (hg:Gl X x) (hm:X.mg x=aa u) (r:RelV v u) (hd:(x==("__debug__":az))=ai:=by decide):PE X (.Name x pos) (tC v) :=
 λ_ _ _ H _ I h=>lD I hg hm ⟨v,H,I,r,h⟩ hd
theorem lE (hg:Gl X x) (hm:X.mg x=af) (hv:VR x=aa u) (r:RelV v u) (hn:x≠"__name__":=by decide) (hd:(x==("__debug__":az))=ai:=by decide):PE X (.Name x pos) (tC v) :=
 λ_ _ _ H _ I h=>kM I hg hm hv ⟨v,H,I,r,h⟩ hn hd
variable {a b:Xc}{ta tb:TE}{pos:Pos}
def tB (t:TE):TT:=fun σ H Q=>t σ H λx H1=>∃ c,x=.bl c/\Q c H1
theorem Ie (h:PE X e t) (he:∀ whole,isTrue e X.env whole=(do let v ← whole;standAt e.pos;XR [v] (truthy v)):=by intro _;rfl):PT X e (tB t):=by intro zt s σ H Q I hw;refine isTrue_plain (thn (h zt s σ H _ I hw) λv s1 ⟨x,H1,I1,r1,q1⟩=>?_) (he _);obtain ⟨d,rfl,q⟩:=q1;cases r1;exact Uz ⟨H1,I1,q⟩
variable {tA tB':TT}{rest:List Xc}
def Lu (t u:TT):TT:=fun σ H Q=>t σ H λc H1=>if c=ah then u σ H1 Q else Q ai H1
def tOr (t u:TT):TT:=fun σ H Q=>t σ H λc H1=>if c=ah then Q ah H1 else u σ H1 Q
def Lv (t:TT):TT:=fun σ H Q=>t σ H λc H1=>Q (!c) H1
theorem En (ha:PT X a tA):PW X (.BoolOp .And [a] pos) tA:=by
 intro wh zt s σ H Q I h;refine isTrue_and (thn (ha zt s σ H Q I h) λc s1 e=>?_);cases c with
 | true=>exact isTrue_and_nil e| false=>exact e
theorem Ig (ha:PT X a tA):PW X (.BoolOp .Or [a] pos) tA:=by
 intro wh zt s σ H Q I h;refine isTrue_or (thn (ha zt s σ H Q I h) λc s1 e=>?_);cases c with
 | false=>exact isTrue_or_nil e| true=>exact e
theorem AI (ha:PT X a tA) (hb:PW X (.BoolOp .And (b::rest) pos) tB'):PW X (.BoolOp .And (a::b::rest) pos) (Lu tA tB'):=by
 intro wh zt s σ H Q I h;refine isTrue_and (thn (ha zt s σ H _ I h) λc s1 zq=>?_);obtain ⟨H1,I1,q1⟩:=zq;cases c with
 | true=>exact hb wh zt s1 σ H1 Q I1 q1| false=>exact ⟨H1,I1,q1⟩
theorem G2 (ha:PT X a tA) (hb:PW X (.BoolOp .Or (b::rest) pos) tB'):PW X (.BoolOp .Or (a::b::rest) pos) (tOr tA tB'):=by
 intro wh zt s σ H Q I h;refine isTrue_or (thn (ha zt s σ H _ I h) λc s1 zq=>?_);obtain ⟨H1,I1,q1⟩:=zq;cases c with
 | true=>exact ⟨H1,I1,q1⟩| false=>exact hb wh zt s1 σ H1 Q I1 q1
theorem Ih (ha:PT X a tA):PT X (.UnaryOp .Not a pos) (Lv tA):=by intro zt s σ H Q I h;exact isTrue_not (thn (ha zt s σ H (λc H1=>Q (!c) H1) I h) λc s' z=>by obtain ⟨H1,I1,q⟩:=z;exact ⟨H1,I1,q⟩)
def G3 (ta tb:TE):TE:=fun σ H Q=>ta σ H λx H1=>∃ c,x=.bl c/\if c=ah then tb σ H1 Q else Q (.bl ai) H1
def Lx (ta tb:TE):TE:=fun σ H Q=>ta σ H λx H1=>∃ c,x=.bl c/\if c=ah then Q (.bl ah) H1 else tb σ H1 Q
def G4 (ta:TE):TE:=fun σ H Q=>ta σ H λx H1=>∃ c,x=.bl c/\Q (.bl (!c)) H1
theorem AJ {op} (h:PE X a t):PE X (.BoolOp op [a] pos) t:=λzt s σ H Q I hw=>BoolOp_one (h zt s σ H Q I hw)
theorem AK (ha:PE X a ta) (hb:PE X (.BoolOp .And (b::rest) pos) tb):PE X (.BoolOp .And (a::b::rest) pos) (G3 ta tb):=by
 intro zt s σ H Q I h;refine BoolOp_and (thn (ha zt s σ H _ I h) λv s1 zq=>?_);obtain ⟨x,H1,I1,r1,q1⟩:=zq;obtain ⟨c,rfl,q1⟩:=q1;cases r1;refine Uz ?_;cases c with
 | true=>exact hb zt s1 σ H1 Q I1 q1| false=>exact ⟨.bl ai,H1,I1,rfl,q1⟩
theorem G5 (ha:PE X a ta) (hb:PE X (.BoolOp .Or (b::rest) pos) tb):PE X (.BoolOp .Or (a::b::rest) pos) (Lx ta tb):=by
 intro zt s σ H Q I h;refine BoolOp_or (thn (ha zt s σ H _ I h) λv s1 zq=>?_);obtain ⟨x,H1,I1,r1,q1⟩:=zq;obtain ⟨c,rfl,q1⟩:=q1;cases r1;refine Uz ?_;cases c with
 | false=>exact hb zt s1 σ H1 Q I1 q1| true=>exact ⟨.bl ah,H1,I1,rfl,q1⟩
theorem Ii (ha:PE X a ta):PE X (.UnaryOp .Not a pos) (G4 ta):=by intro zt s σ H Q I h;refine UnaryOp_ (thn (ha zt s σ H _ I h) λv s1 zq=>?_);obtain ⟨x,H1,I1,r1,q1⟩:=zq;obtain ⟨c,rfl,q1⟩:=q1;cases r1;exact not_of (Uz ⟨.bl (!c),H1,I1,rfl,q1⟩)
def tIf (t:TT) (ta tb:TE):TE:=fun σ H Q=>t σ H λc H1=>if c=ah then ta σ H1 Q else tb σ H1 Q
theorem AM (hc:PT X c tA) (ha:PE X a ta) (hb:PE X b tb):PE X (.IfExp c a b pos) (tIf tA ta tb):=by
 intro zt s σ H Q I h;refine wpAny_IfExp (thn (hc zt s σ H _ I h) λd s1 zq=>?_);obtain ⟨H1,I1,q1⟩:=zq;cases d with
 | true=>exact ha zt s1 σ H1 Q I1 q1| false=>exact hb zt s1 σ H1 Q I1 q1
end
end L2
namespace L2
open PySem PySem.Spec PyProof.Rows
def SqL (K:SA) (H:Hp) (a:S6) (xs:List V):Prop :=
 Rd H a (.lst xs) ∨
  ∃ (o:aq) (its:Array aA) (n:Nat),K.lookup a=aa o/\o.cls=.type "list"/\o.dict=af/\o.data=.seq its n/\its.size<=ak/\dD xs its.toList
def SqT (K:SA) (H:Hp) (a:S6) (xs:List V):Prop :=
 Rd H a (.tup xs) ∨
  ∃ (o:aq) (its:Array aA) (n:Nat),K.lookup a=aa o/\o.cls=.type "tuple"/\o.data=.seq its n/\its.size<=ak/\dD xs its.toList
noncomputable def Pn:aA->Option V
 | .none=>aa .non| .bool b=>aa (.bl b)| .int i _=>aa (.int i)| .str x _=>aa (.str x)| .bytes b _=>aa (.byt b)| .float b _=>aa (.flt b)| .ref a=>aa (.ref a)| .type n=>aa (.ty n)| _=>af
theorem RelV.abs (r:RelV x u):Pn u=aa x:=by
 cases x with
 | non=>cases r;rfl| bl _=>cases r;rfl| ref _=>cases r;rfl| ty _=>cases r;rfl| _=>obtain ⟨t,rfl⟩:=r;rfl
theorem RelV.inj (r:RelV x u) (q:RelV y u):x=y:=S9 (r.abs.symm.trans q.abs)
theorem dD.inj:∀ {xs ys:List V}{us:List aA},dD xs us->dD ys us->xs=ys
 | _,_,_,.nil,.nil=>rfl
 | _,_,_,.cons r t,.cons r' t'=>by rw[r.inj r',dD.inj t t']
section
variable {X:Cx}{zt:List (S6×aq)}{σ:St}{H:Hp}{s:SL}{a:S6}{xs ys:List V}
theorem Inv.list (I:Inv X zt σ H s) (h:SqL X.K H a xs):∃ its:List aA,dD xs its/\PlainL s.heap a its.toArray/\xs.length<=ak:=by
 rcases h with h|⟨o,its,n,hk,hc,hd,hs,hz,r⟩
 ·obtain ⟨z,its,n,r,e⟩:=h.ok I.hok;exact ⟨its,r,⟨_,n,e,rfl,rfl,rfl⟩,z⟩
 ·refine ⟨its.toList,r,⟨o,n,I.kIn a o hk,hc,hd,by simpa using hs⟩,?_⟩;have e:=r.length;simp only[Vn] at e;lia
theorem Inv.tuple (I:Inv X zt σ H s) (h:SqT X.K H a xs):∃ its:List aA,dD xs its/\IsTup s.heap a its.toArray/\xs.length<=ak:=by
 rcases h with h|⟨o,its,n,hk,hc,hs,hz,r⟩
 ·obtain ⟨z,its,r,p⟩:=h.ok I.hok;exact ⟨its,r,p,z⟩
 ·refine ⟨its.toList,r,⟨o,I.kIn a o hk,hc,n,by simpa using hs⟩,?_⟩;have e:=r.length;simp only[Vn] at e;lia
theorem Inv.oi (I:Inv X zt σ H s) (h:SqL X.K H a xs) (h':SqL X.K H a ys):xs=ys:=by
 obtain ⟨its,r,⟨o,n,e,_,_,d⟩,_⟩:=I.list h;obtain ⟨its',r',⟨o',n',e',_,_,d'⟩,_⟩:=I.list h';rw[e] at e';cases e';rw[d] at d'
 injection d' with d1 _
 have:its=its':=by simpa using congrArg Array.toList d1
 subst this;exact r.inj r'
theorem Inv.qk (I:Inv X zt σ H s) (h:SqT X.K H a xs) (h':SqT X.K H a ys):xs=ys:=by
 obtain ⟨its,r,⟨o,e,_,n,d⟩,_⟩:=I.tuple h;obtain ⟨its',r',⟨o',e',_,n',d'⟩,_⟩:=I.tuple h';rw[e] at e';cases e';rw[d] at d'
 injection d' with d1 _
 have:its=its':=by simpa using congrArg Array.toList d1
 subst this;exact r.inj r'
end
noncomputable abbrev Cx.pW (X:Cx) (E:aA->SL->Prop):Cx:={ X with xe:=E }
noncomputable abbrev Cx.nox (X:Cx):Cx:=X.pW λ_ _=>False
theorem Cx.Ok.pW {X:Cx} (ok:X.Ok) (E:aA->SL->Prop):(X.pW E).Ok :=
 ⟨ok.mod,ok.kind,ok.glob,ok.blt,ok.above,ok.inj,ok.has,ok.cab,ok.hd,ok.frames,ok.stk,ok.exf,ok.bs,ok.bsz,ok.noex,ok.exfs,ok.jc,ok.frf⟩
theorem Cx.Ok.jB {X:Cx}{E:aA->SL->Prop} (ok:(X.pW E).Ok):X.Ok :=
 ⟨ok.mod,ok.kind,ok.glob,ok.blt,ok.above,ok.inj,ok.has,ok.cab,ok.hd,ok.frames,ok.stk,ok.exf,ok.bs,ok.bsz,ok.noex,ok.exfs,ok.jc,ok.frf⟩
section
variable {X:Cx}{zt:List (S6×aq)}{σ:St}{H:Hp}{s:SL}{E:aA->SL->Prop}
theorem Inv.pW (I:Inv X zt σ H s) (E:aA->SL->Prop):Inv (X.pW E) zt σ H s:=⟨I.ok.pW E,I.os,I.bare,I.base,I.loc,I.cell,I.free,I.freeC,I.pin,I.hok,I.len⟩
theorem Inv.jB (I:Inv (X.pW E) zt σ H s):Inv X zt σ H s:=⟨I.ok.jB,I.os,I.bare,I.base,I.loc,I.cell,I.free,I.freeC,I.pin,I.hok,I.len⟩
theorem SP.jB {D:Ends} (h:SP (X.pW E) zt D f s'):SP X zt D f s':=by
 cases f with
 | ret u=>obtain ⟨v,σ',H',I,r,q⟩:=h;exact ⟨v,σ',H',I.jB,r,q⟩| _=>obtain ⟨σ',H',I,q⟩:=h;exact ⟨σ',H',I.jB,q⟩
theorem PSs.nox {st:List Xj} (h:PSs X.nox st t):PSs X st t:=λzt s σ H D I hw =>
 UA (h zt s σ H D (I.pW _) hw) (λ_ _ q=>q.jB) λ_ _ z=>U9 z
end
section
variable {X:Cx}{st:Xj}{rest:List Xj}{t u:TS}{e:Xc}{te:TE}{pos:Pos}
def Ly:TS:=λD σ H=>D.nx σ H
def Lz (t u:TS):TS:=λD σ H=>t { D with nx:=u D } σ H
theorem Eo:PSs X [] Ly:=λ_ _ σ H _ I h=>WZ ⟨σ,H,I,h⟩
theorem tQ (h1:PS X st t) (h2:PSs X rest u):PSs X (st::rest) (Lz t u):=by
 intro zt s σ H D I h;refine Vv (thn (h1 zt s σ H { D with nx:=u D } I h) λf s1 q=>?_);cases f with
 | next =>
  obtain ⟨σ',H',I',q⟩:=q;exact h2 zt s1 σ' H' D I' q
 | _=>exact q
theorem wZ (h1:PS X st t):PSs X [st] t:=by
 intro zt s σ H D I h;refine Vv (thn (h1 zt s σ H D I h) λf s1 q=>?_);cases f with
 | next=>exact WZ q| _=>exact q
def Po:TS:=λD σ H=>D.bk σ H
def RV:TS:=λD σ H=>D.ct σ H
theorem Inv.quiet (I:Inv X zt σ H s):interactive X.env=ai:=by simp[interactive,I.ok.kind]
def LC (te:TE):TS:=λD σ H=>te σ H λ_ H1=>D.nx σ H1
theorem Ep (he:PE X e te) (hs:Wv e af pos.line X.env=pure ai:=by rfl):PS X (.Expr e pos) (LC te):=by intro zt s σ H D I h;exact wpAny_Expr_any (thn (he zt s σ H _ I h) λv s1 ⟨x,H1,I1,r1,q1⟩=>⟨σ,H1,I1,q1⟩) I.quiet hs
def Pp (te:TE):TS:=λD σ H=>te σ H D.rt
theorem Ij (he:PE X e te):PS X (.Return (aa e) pos) (Pp te):=by intro zt s σ H D I h;exact wpAny_Return_some (thn (he zt s σ H _ I h) λv s1 ⟨x,H1,I1,r1,q1⟩=>⟨x,σ,H1,I1,r1,q1⟩)
def Pq (c:TT) (t u:TS):TS:=λD σ H=>c σ H λb H1=>if b=ah then t D σ H1 else u D σ H1
theorem LD (hc:PT X c tc) (ha:PSs X a t) (hb:PSs X b u):PS X (.If c a b pos) (Pq tc t u):=by
 intro zt s σ H D I h;refine wpAny_If (thn (hc zt s σ H _ I h) λd s1 zq=>?_);obtain ⟨H1,I1,q1⟩:=zq;cases d with
 | true=>exact ha zt s1 σ H1 D I1 q1| false=>exact hb zt s1 σ H1 D I1 q1
end
abbrev TG:=V->St->Hp->(St->Hp->Prop)->Prop
abbrev TGs:=List V->St->Hp->(St->Hp->Prop)->Prop
def PG (X:Cx) (target:Xc) (t:TG):Prop :=
 ∀ (zt:List (S6×aq)) (s:SL) (σ:St) (H:Hp) (v:V) (u:aA) (Q:St->Hp->Prop),Inv X zt σ H s->RelV v u->t v σ H Q →
  ay (Ti X.prog X.w) X.A (Xq target X.env u) (λ_ s'=>∃ σ' H',Inv X zt σ' H' s'/\Q σ' H') X.xe s
def PGs (X:Cx) (ts:List Xc) (t:TGs):Prop :=
 ∀ (zt:List (S6×aq)) (s:SL) (σ:St) (H:Hp) (vs:List V) (us:List aA) (Q:St->Hp->Prop),Inv X zt σ H s->dD vs us->t vs σ H Q →
  ay (Ti X.prog X.w) X.A (assignInOrder ((Vl ts X.env).map (·.2)) us) (λ_ s'=>∃ σ' H',Inv X zt σ' H' s'/\Q σ' H') X.xe s
abbrev LF:=V->V->V->Hp->(Hp->Prop)->Prop
def LG (X:Cx) (t:LF):Prop :=
 ∀ (zt:List (S6×aq)) (s:SL) (σ:St) (H:Hp) (o i v:V) (ov iv u:aA) (Q:Hp->Prop),Inv X zt σ H s->RelV o ov->RelV i iv->RelV v u->t o i v H Q →
  ay (Ti X.prog X.w) X.A (setItem ov iv u) (λ_ s'=>∃ H',Inv X zt σ H' s'/\Q H') X.xe s
abbrev TIp:=V->V->Hp->VK->Prop
def PIp (X:Cx) (op:Yt) (t:TIp):Prop :=
 ∀ (zt:List (S6×aq)) (s:SL) (σ:St) (H:Hp) (x y:V) (v u:aA) (Q:VK),Inv X zt σ H s->RelV x v->RelV y u->t x y H Q →
  ay (Ti X.prog X.w) X.A (inplaceOp op v u) (EP X zt σ Q) X.xe s
section
variable {X:Cx}{pos:Pos}
def xg (i:Nat):TG:=λv σ H Q=>Q (σ.set i (aa v)) H
theorem xj (hN:X.N.Nodup) (hi:X.N[i]?=aa x) (hx:Loc X.env.scope x) (hf:X.fn x=ah\/X.env.scope.names.lookup x=aa .local:=by first|exact .inl rfl|exact .inr rfl|assumption):PG X (.Name x pos) (xg i):=by intro zt s σ H v u Q I r h;exact wpAny_assign_Name (n9 I hN hi hx r (λs' I'=>⟨_,H,I',h⟩) hf)
def LH:TGs:=λvs σ H Q=>vs=[]/\Q σ H
def LJ (t:TG) (u:TGs):TGs:=λvs σ H Q=>∃ v r,vs=v::r/\t v σ H fun σ' H'=>u r σ' H' Q
theorem Er:PGs X [] LH:=by intro zt s σ H vs us Q I r h;obtain ⟨e,h⟩:=h;subst e;cases r;exact assignInOrder_nil ⟨σ,H,I,h⟩
theorem AN (h1:PG X e t) (h2:PGs X es u)
 (hs:(Vl (e::es) X.env).map (·.2)=Xq e X.env::(Vl es X.env).map (·.2):=by rfl):PGs X (e::es) (LJ t u):=by
 intro zt s σ H vs us Q I r h;obtain ⟨v,vr,e1,h⟩:=h;subst e1;cases r with
 | cons r rr =>
  rw[hs];refine assignInOrder_cons (thn (h1 zt s σ H _ _ _ I r h) λ_ s1 zq=>?_);obtain ⟨σ1,H1,I1,q1⟩:=zq;exact h2 zt s1 σ1 H1 _ _ Q I1 rr q1
def Pr (K:SA) (n:Nat) (t:TGs):TG:=λv σ H Q=>∃ a xs,v=.ref a/\SqT K H a xs/\xs.length=n/\t xs σ H Q
theorem Ik (hc:X.calm=ah) (h:PGs X es t)
 (hn:(Vl es X.env).length=n:=by rfl) (hst:(Vl es X.env).findIdx? (·.1)=af:=by rfl):PG X (.Tuple es k pos) (Pr X.K n t):=by
 intro zt s σ H v u Q I r hw;obtain ⟨a,xs,e1,hq,hl,hw⟩:=hw;subst e1;cases r;obtain ⟨its,rv,ht,hz⟩:=I.tuple hq;refine assign_Tuple_tuple (I.ok.hd hc) ht (by simp[hn,← hl,rv.length]) hst λh' hx=>?_;have I1:Inv X zt σ H { s with heap:=h' }:=I.kept (t':=s.toks) λb o e=>hx b o (Tn (SW e)) e;exact h zt _ σ H xs _ Q I1 (by simpa using rv) hw
def Pu (to ti:TE) (t:LF):TG:=λv σ H Q=>to σ H λo H1=>ti σ H1 λi H2=>t o i v H2 λH3=>Q σ H3
theorem Pv (ho:PE X o to) (hi:PE X i ti) (hs:LG X t)
 (ha:∀ v,Xq (.Subscript o i pos) X.env v=(do
  let ov ← XR [v] (eval o X.env)
  let iv ← XR [v,ov] (eval i X.env)
  standAt pos
  XR [v,ov,iv] (setItem ov iv v)
  release [v,ov,iv] []):=by intro _;rfl):PG X (.Subscript o i pos) (Pu to ti t):=by
 intro zt s σ H v u Q I r h;rw[ha];refine SD (Ul (thn (ho zt s σ H _ I h) λov s1 zq=>?_));obtain ⟨x,H1,I1,r1,q1⟩:=zq;refine SD (Ul (thn (hi zt s1 σ H1 _ I1 q1) λiv s2 zq=>?_));obtain ⟨y,H2,I2,r2,q2⟩:=zq;refine SD (VZ (SD (Ul (thn (hs zt s2 σ H2 x y v ov iv u _ I2 r1 r2 r q2) λ_ s3 zq=>?_))));obtain ⟨H3,I3,q3⟩:=zq;exact wpAny_release ⟨σ,H3,I3,q3⟩
def Et (te:TE) (g:TG):TS:=λD σ H=>te σ H λx H1=>g x σ H1 D.nx
theorem Pw (he:PE X e te) (hg:PG X tg g) (hs:swapsWithSole [tg] e pos.line X.env=pure ai:=by rfl) (hw:swappedStores [tg] e X.env=pure af:=by rfl)
 (h1:(Vl [tg] X.env).map (·.2)=[Xq tg X.env]:=by rfl):PS X (.Assign [tg] e pos) (Et te g):=by
 intro zt s σ H D I h;refine wpAny_Assign_stores (thn (he zt s σ H _ I h) λv s1 ⟨x,H1,I1,r1,q1⟩=>?_) hs hw;rw[h1];exact thn (hg zt s1 σ H1 x v _ I1 r1 q1) λ_ s2 q=>q
theorem AO (hN:X.N.Nodup) (hi:X.N[i]?=aa x) (hx:Loc X.env.scope x) (he:PE X e te) (hs:Wv e (aa (.Name x pos')) pos.line X.env=pure ai:=by rfl) (hf:X.fn x=ah\/X.env.scope.names.lookup x=aa .local:=by first|exact .inl rfl|exact .inr rfl|assumption) :
 PS X (.Assign [.Name x pos'] e pos) (Et te (xg i)):=by
 intro zt s σ H D I h;refine XQ (thn (he zt s σ H _ I h) λv s1 ⟨y,H1,I1,r1,q1⟩=>?_) hs;exact n9 I1 hN hi hx r1 (λs2 I2=>⟨_,H1,I2,q1⟩) hf
def LK (i:Nat) (te:TE) (ti:TIp):TS:=λD σ H=>∃ x,σ[i]?=aa (aa x)/\te σ H λy H1=>ti x y H1 λz H2=>D.nx (σ.set i (aa z)) H2
theorem Il (hN:X.N.Nodup) (hi:X.N[i]?=aa x) (hx:Loc X.env.scope x) (he:PE X e te) (ho:PIp X op ti) (hf:X.fn x=ah\/X.env.scope.names.lookup x=aa .local:=by first|exact .inl rfl|exact .inr rfl|assumption) :
 PS X (.AugAssign (.Name x pos') op e pos) (LK i te ti):=by
 intro zt s σ H D I h;obtain ⟨v,e1,h⟩:=h;obtain ⟨m,hn,hl⟩:=I.loc;have vis:Vis X.env.scope x:=by rcases hx with k|k;exact .inl k;exact .inr (.inl k)
 obtain ⟨u,r,l⟩:=hl i x v hi e1 vis;refine wpAny_AugAssign_Name ?_;have go:ay (Ti X.prog X.w) X.A (eval e X.env) (λw s₂=>ay (Ti X.prog X.w) X.A (inplaceOp op u w) (λr s₃=>ay (Ti X.prog X.w) X.A (storeName X.env x r) (λ_=>SP X zt D .next) X.xe s₃) X.xe s₂) X.xe s:=by refine thn (he zt s σ H _ I h) λw s1 zq=>?_;obtain ⟨y,H1,I1,r1,q1⟩:=zq;refine thn (ho zt s1 σ H1 v y u w _ I1 r r1 q1) λz s2 zq=>?_;obtain ⟨zv,H2,I2,r2,q2⟩:=zq;exact n9 I2 hN hi hx r2 (λs3 I3=>⟨_,H2,I3,q2⟩) hf
 rcases l with ⟨hk,hm⟩|⟨hk,c,hc,hcell⟩
 exact wpAny_loadName_local I.ok.kind hk hn hm go
 ·rcases hk with hk|hk
  exact wpAny_loadName_cell I.ok.kind hk hc hcell go
  ·rcases hx with k|k
   ·have:X.env.scope.names.lookup x=aa .free:=hk;rw[k] at this;cases this
   ·have:X.env.scope.names.lookup x=aa .free:=hk;rw[k] at this;cases this
end
section
variable {X:Cx}{pos:Pos}
def AQ (c:TT) (tb:TS):TS:=λD σ H=>∃ W:Nat->St->Hp->Prop,(∃ m,W m σ H)/\∀ m σ H,W m σ H →
 c σ H λb H1=>if b=ah then ∃ N:St->Hp->Prop,(∀ σ' H',N σ' H'->∃ m',m' < m/\W m' σ' H')/\tb { D with nx:=N,ct:=N,bk:=D.nx } σ H1 else D.nx σ H1
theorem AR (hp:Xw (Ti X.prog X.w) X.A X.env X.xe) (hc:PT X c tc) (hb:PSs X body tb):PS X (.While c body [] pos) (AQ tc tb):=by
 intro zt s σ H D I h;obtain ⟨W,⟨m0,w0⟩,turn⟩:=h;refine wpAny_While (codeAny_whileLoop (λn s'=>∃ σ' H',Inv X zt σ' H' s'/\W n σ' H') ?_ m0 ⟨σ,H,I,w0⟩)
 rintro n s1 ⟨σ1,H1,I1,w1⟩
 refine Vf hp (thn (hc zt s1 σ1 H1 _ I1 (turn n σ1 H1 w1)) λb s2 zq=>?_);obtain ⟨H2,I2,q2⟩:=zq;cases b with
 | true =>
  obtain ⟨N,hN,q2⟩:=q2;rw[if_pos rfl];refine Vf hp (thn (hb zt s2 σ1 H2 _ I2 q2) λf s3 q3=>?_);cases f with
  | next =>
   obtain ⟨σ3,H3,I3,n3⟩:=q3;obtain ⟨m',hm,w3⟩:=hN σ3 H3 n3;exact ⟨m',hm,σ3,H3,I3,w3⟩
  | cont =>
   obtain ⟨σ3,H3,I3,n3⟩:=q3;obtain ⟨m',hm,w3⟩:=hN σ3 H3 n3;exact ⟨m',hm,σ3,H3,I3,w3⟩
  | _=>exact q3
 | false =>
  rw[if_neg TJ];exact WZ ⟨σ1,H2,I2,q2⟩
end
structure It where
 go:Nat->Hp->Prop
 yld:Nat->Hp->V->Hp->Prop
 stop:Nat->Hp->Prop
def oj (X:Cx) (zt:List (S6×aq)) (H:Hp) (b:S6):Prop :=
 H b=af/\b≠X.env.locals/\b∉X.fs/\(b∈X.ex\/X.s₀.heap.objs.size<=b)/\(∀ x c,X.env.cells.lookup x=aa c->c≠b)/\∀ p∈X.pn++zt,p.1≠b
theorem Inv.zF (I:Inv X zt σ H s) (hb:s.heap.objs.size<=b) (hn:H' b=af):oj X zt H' b:=by
 refine ⟨hn,VI (Tu I.lt hb),I.Pj hb,.inr (SZ I.sz hb),λx c e z=>?_,λp hp z=>?_⟩
 ·obtain ⟨v,q⟩:=I.cell x c e;exact absurd (Tu q.lt (by rw[z];exact hb)) (UR _)
 exact absurd (Tu (SW (I.pin p hp).1) (by rw[z];exact hb)) (UR _)
structure Turn (P:Td) (w:Tz) (K:SA) (tg:Xc) (J:It) (fp:List S6) (it:S6) (tn:Nat->au->Prop):Prop where
 mem:it∈fp
 obj:∀ i h,tn i h->∀ b∈fp,∃ o,h.get? b=aa o/\∀ v,o.data≠.cell v
 keep:∀ i h h',tn i h->(∀ b∈fp,∀ o,h.get? b=aa o->h'.get? b=aa o)->tn i h'
 item:∀ (X:Cx),X.prog=P->X.w=w->X.K=K->X.calm=ah->∀ (i:Nat) (zt:List (S6×aq)) (s:SL) (σ:St) (H:Hp) (E:aA->SL->Prop),Inv X zt σ H s->(∀ b∈fp,oj X zt H b)->tn i s.heap->J.go i H →
  ay (Ti P w) X.A (YR (.ref it)) (λr s1=>∃ u,r=aa u ∧
   ay (Ti P w) X.A (VB tg (.ref it) u) (λ_ s2=>∃ x H',Inv X zt σ H' s2/\RelV x u/\J.yld i H x H'/\tn (i+1) s2.heap/\∀ b∈fp,H' b=af) E s1) E s
 done:∀ (X:Cx),X.prog=P->X.w=w->X.K=K->X.calm=ah->∀ (i:Nat) (zt:List (S6×aq)) (s:SL) (σ:St) (H:Hp) (E:aA->SL->Prop),Inv X zt σ H s->(∀ b∈fp,oj X zt H b)->tn i s.heap->J.stop i H →
  ay (Ti P w) X.A (YR (.ref it)) (λr s1=>r=af/\Inv X zt σ H s1) E s
 self:∀ (A:Ub) (i:Nat) (s:SL) (Q:aA->SL->Prop) (E:aA->SL->Prop),tn i s.heap->Q (.ref it) s->ay (Ti P w) A (pyIter (.ref it)) Q E s
abbrev TI:=St->Hp->(It->Hp->Prop)->Prop
def PIE (X:Cx) (zt:List (S6×aq)) (σ:St) (tg:Xc) (R:It->Hp->Prop) (itv:aA) (s2:SL):Prop :=
 ∃ (it:S6) (fp:List S6) (tn:Nat->au->Prop) (J:It) (H':Hp),itv=.ref it/\Inv X zt σ H' s2/\Turn X.prog X.w X.K tg J fp it tn/\tn 0 s2.heap/\(∀ b∈fp,oj X zt H' b)/\R J H'
def PI (X:Cx) (tg iter:Xc) (wi:TI):Prop :=
 ∀ (zt:List (S6×aq)) (s:SL) (σ:St) (H:Hp) (R:It->Hp->Prop),Inv X zt σ H s->wi σ H R →
  ay (Ti X.prog X.w) X.A (eval iter X.env) (λv s1=>ay (Ti X.prog X.w) X.A (pyIter v) (PIE X zt σ tg R) X.xe s1) X.xe s
theorem tR {E:aA->SL->Prop} (ho:s.heap.get? it=aa o) (hc:o.cls=.type n) (hd:o.data=.fields vs)
 (hn:["enumerate","zip","dict_itemiterator","dict_reverseitemiterator","odict_iterator","itertools.zip_longest","itertools.pairwise"].contains n=ai) (hQ:Q () s):ay M A (VB tg (.ref it) u) Q E s:=by
 unfold VB;cases tg<;>first
  | exact av hQ
  | (cases u<;>first
   | exact av hQ
   | (refine SD (wpAny_load ho ?_)
      rw[hc,hd];show ay M A (if (["enumerate","zip","dict_itemiterator","dict_reverseitemiterator","odict_iterator","itertools.zip_longest","itertools.pairwise"].contains n&&vs[0]?==aa (YQ _))=ah then _ else _) Q E s;rw[if_neg (by intro h;rw[hn,Bool.false_and] at h;cases h)];exact av hQ))
noncomputable def Itl (K:SA) (a:S6):It :=
 ⟨λi H=>∃ xs x,SqL K H a xs/\xs[i]?=aa x,λi H x H'=>H'=H/\∀ xs,SqL K H a xs->xs[i]?=aa x,λi H=>∃ xs,SqL K H a xs/\xs.length<=i⟩
noncomputable def Itt (K:SA) (a:S6):It :=
 ⟨λi H=>∃ xs x,SqT K H a xs/\xs[i]?=aa x,λi H x H'=>H'=H/\∀ xs,SqT K H a xs->xs[i]?=aa x,λi H=>∃ xs,SqT K H a xs/\xs.length<=i⟩
noncomputable def Itr (lo:Int) (n:Nat):It:=⟨λi _=>i < n,λi H x H'=>H'=H/\x=.int (lo+i),λi _=>n<=i⟩
theorem zG {K:SA} (a it:S6):Turn P w K tg (Itl K a) [it] it (λi h=>h.IsListIter it a i) where
 mem:=by simp
 obj:=λi h st b hb=>by
  have e:b=it:=by simpa using hb
  subst e;obtain ⟨o,e,c,d⟩:=st;exact ⟨o,e,λv z=>by rw[d] at z;cases z⟩
 keep:=λi h h' st k=>st.at λo e=>k it (by simp) o e
 item:=by intro X hP hw hK hc i zt s σ H E I hf st hg;subst hP hw hK;obtain ⟨xs,x,hq,hx⟩:=hg;obtain ⟨its,rv,p,hz⟩:=I.list hq;obtain ⟨u,hu,ru⟩:=rv.get hx;obtain ⟨f0,f1,f2,f3,f4,f5⟩:=hf it (by simp);refine wpAny_pyNext_list_item st p.isList (x:=u) (by simpa using hu) λh' st' sb=>?_;have I1:Inv X zt σ H { s with heap:=h' }:=I.turned (t':=s.toks) (λb o hb e=>(sb.2 b hb).trans e) f0 f1 f3 f4 f5;obtain ⟨o,e,c,d⟩:=id st';exact ⟨u,rfl,tR (s:={ s with heap:=h' }) e c d (by decide) ⟨x,H,I1,ru,⟨rfl,λys hy=>by rw[I.oi hy hq];exact hx⟩,st',λb hb=>(hf b hb).1⟩⟩
 done:=by intro X hP hw hK hc i zt s σ H E I hf st hg;subst hP hw hK;obtain ⟨xs,hq,hx⟩:=hg;obtain ⟨its,rv,p,hz⟩:=I.list hq;obtain ⟨f0,f1,f2,f3,f4,f5⟩:=hf it (by simp);have hl:=rv.length;exact wpAny_pyNext_list_end (I.ok.hd hc) st p.isList (by simp;lia) λh' eb=>⟨rfl,I.turned (t':=s.toks) (λb o hb e=>eb b o hb e) f0 f1 f3 f4 f5⟩
 self:=λ_ _ _ _ _ st h=>wpAny_pyIter_listiter st h
theorem vo {K:SA} (a it:S6):Turn P w K tg (Itt K a) [it] it (λi h=>h.IsTupleIter it a i) where
 mem:=by simp
 obj:=λi h st b hb=>by
  have e:b=it:=by simpa using hb
  subst e;obtain ⟨o,e,c,d⟩:=st;exact ⟨o,e,λv z=>by rw[d] at z;cases z⟩
 keep:=λi h h' st k=>st.at λo e=>k it (by simp) o e
 item:=by intro X hP hw hK hc i zt s σ H E I hf st hg;subst hP hw hK;obtain ⟨xs,x,hq,hx⟩:=hg;obtain ⟨its,rv,p,hz⟩:=I.tuple hq;obtain ⟨u,hu,ru⟩:=rv.get hx;obtain ⟨f0,f1,f2,f3,f4,f5⟩:=hf it (by simp);refine wpAny_pyNext_tuple_item st (show s.heap.IsTuple a its.toArray from p) (x:=u) (by simpa using hu) λh' st' sb=>?_;have I1:Inv X zt σ H { s with heap:=h' }:=I.turned (t':=s.toks) (λb o hb e=>(sb.2 b hb).trans e) f0 f1 f3 f4 f5;obtain ⟨o,e,c,d⟩:=id st';exact ⟨u,rfl,tR (s:={ s with heap:=h' }) e c d (by decide) ⟨x,H,I1,ru,⟨rfl,λys hy=>by rw[I.qk hy hq];exact hx⟩,st',λb hb=>(hf b hb).1⟩⟩
 done:=by intro X hP hw hK hc i zt s σ H E I hf st hg;subst hP hw hK;obtain ⟨xs,hq,hx⟩:=hg;obtain ⟨its,rv,p,hz⟩:=I.tuple hq;obtain ⟨f0,f1,f2,f3,f4,f5⟩:=hf it (by simp);have hl:=rv.length;exact wpAny_pyNext_tuple_end (I.ok.hd hc) st (show s.heap.IsTuple a its.toArray from p) (by simp;lia) λh' eb=>⟨rfl,I.turned (t':=s.toks) (λb o hb e=>eb b o hb e) f0 f1 f3 f4 f5⟩
 self:=λ_ _ _ _ _ st h=>wpAny_pyIter_tupleiter st h
theorem vp {K:SA} (it:S6) (lo:Int) (n:Nat):Turn P w K tg (Itr lo n) [it] it (λi h=>IsRangeIter h it (lo+(i:Nat)*1) ((n:Int) - (i:Nat)) 1) where
 mem:=by simp
 obj:=λi h st b hb=>by
  have e:b=it:=by simpa using hb
  subst e;exact ⟨_,st,λv z=>by have z':Data.fields _=Data.cell v:=z;cases z'⟩
 keep:=λi h h' st k=>k it (by simp) _ st
 item:=by intro X hP hw hK hc i zt s σ H E I hf st hg;subst hP hw hK;obtain ⟨f0,f1,f2,f3,f4,f5⟩:=hf it (by simp);have W:=Walks.range (prog:=X.prog) (w:=X.w) (I.ok.hd hc) it lo 1 n;refine W.item i s _ _ hg st λv h' tk hv st' kk=>?_;obtain ⟨t,rfl⟩:=hv;have I1:Inv X zt σ H { s with heap:=h',toks:=tk }:=I.turned (λb o hb e=>kk b o (by simpa using hb) e) f0 f1 f3 f4 f5;refine ⟨_,rfl,tR (s:={ s with heap:=h',toks:=tk }) (n:="range_iterator") st' rfl rfl (by decide) ⟨.int (lo+i),H,I1,⟨t,?_⟩,⟨rfl,rfl⟩,st',λb hb=>(hf b hb).1⟩⟩;rw[Int.mul_one]
 done:=by intro X hP hw hK hc i zt s σ H E I hf st hg;subst hP hw hK;obtain ⟨f0,f1,f2,f3,f4,f5⟩:=hf it (by simp);exact wpAny_pyNext_range_end (I.ok.hd hc) st (by have:n<=i:=hg;lia) λh' eb=>⟨rfl,I.turned (t':=s.toks) (λb o hb e=>eb b o hb e) f0 f1 f3 f4 f5⟩
 self:=λ_ _ _ _ _ st h=>wpAny_pyIter_rangeiter st h
end L2
namespace L2
open PySem PySem.Spec PyProof.Rows
section
variable {X:Cx}{tg:Xc}
def LM (K:SA) (tl:TE):TI:=fun σ H R=>tl σ H λx H1=>∃ a,x=.ref a/\(∃ xs,SqL K H1 a xs)/\R (Itl K a) H1
def Px (K:SA) (tl:TE):TI:=fun σ H R=>tl σ H λx H1=>∃ a,x=.ref a/\(∃ xs,SqT K H1 a xs)/\R (Itt K a) H1
theorem xm (hl:PE X l tl):PI X tg l (LM X.K tl):=by
 intro zt s σ H R I h;refine thn (hl zt s σ H _ I h) λv s1 zq=>?_;obtain ⟨x,H1,I1,r1,q1⟩:=zq;obtain ⟨a,e,⟨xs,hq⟩,q⟩:=q1;subst e;cases r1;obtain ⟨its,rv,p,hz⟩:=I1.list hq;refine XM p.isList ?_;refine ⟨s1.heap.objs.size,[s1.heap.objs.size],_,_,H1,rfl,I1.kept (t':=s1.toks) λb o e=>SH _ e,zG a _,⟨_,Th _ rfl,rfl,rfl⟩,λb hb=>?_,q⟩;have e:b=s1.heap.objs.size:=by simpa using hb
 subst e;exact I1.zF (SY _) (I1.hok.fresh (SY _))
theorem Im (hl:PE X l tl):PI X tg l (Px X.K tl):=by
 intro zt s σ H R I h;refine thn (hl zt s σ H _ I h) λv s1 zq=>?_;obtain ⟨x,H1,I1,r1,q1⟩:=zq;obtain ⟨a,e,⟨xs,hq⟩,q⟩:=q1;subst e;cases r1;obtain ⟨its,rv,p,hz⟩:=I1.tuple hq;refine wpAny_pyIter_tuple (show s1.heap.IsTuple a its.toArray from p) ?_;refine ⟨s1.heap.objs.size,[s1.heap.objs.size],_,_,H1,rfl,I1.kept (t':=s1.toks) λb o e=>SH _ e,vo a _,⟨_,Th _ rfl,rfl,rfl⟩,λb hb=>?_,q⟩;have e:b=s1.heap.objs.size:=by simpa using hb
 subst e;exact I1.zF (SY _) (I1.hok.fresh (SY _))
theorem AS {E:aA->SL->Prop}{lo:Int} (I:Inv X zt σ H s) (h1:-(2 ^ 62)<=lo) (h2:lo < 2 ^ 62) (h3:-(2 ^ 62)<=hi) (h4:hi < 2 ^ 62)
 (q:R (Itr lo (hi - lo).toNat) H):ay (Ti X.prog X.w) X.A (pyIter (.ref s.heap.objs.size)) (PIE X zt σ tg R) E { s with heap:=s.heap.push { cls:=.type "range",data:=.fields #[.int lo t,.int hi u,.int 1 v] },toks:=tk }:=by
 refine wpAny_pyIter_range (IsRange.new ..) (small_one h1 h2 h3 h4) ?_;have I1:Inv X zt σ H { s with heap:=s.heap.push { cls:=.type "range",data:=.fields #[.int lo t,.int hi u,.int 1 v] },toks:=tk }:=I.kept λb o e=>SH _ e;refine ⟨(s.heap.push { cls:=.type "range",data:=.fields #[.int lo t,.int hi u,.int 1 v] }).objs.size,[(s.heap.push { cls:=.type "range",data:=.fields #[.int lo t,.int hi u,.int 1 v] }).objs.size],_,_,H,rfl,
  I1.kept (t':=tk) λb o e=>SH _ e,vp _ lo (hi - lo).toNat,?_,λb hb=>?_,q⟩
 ·have e1:lo+((0:Nat):Int)*1=lo:=by simp
  have e2:(((hi - lo).toNat:Nat):Int) - ((0:Nat):Int)=Builtin.Range.rangeSize lo hi 1:=by rw[rangeSize_one];split<;>lia
  show IsRangeIter _ _ (lo+((0:Nat):Int)*1) ((((hi - lo).toNat:Nat):Int) - ((0:Nat):Int)) 1;rw[e1,e2];exact Th _ rfl
 ·have e:b=(s.heap.push { cls:=.type "range",data:=.fields #[.int lo t,.int hi u,.int 1 v] }).objs.size:=by simpa using hb
  subst e;exact I1.zF (SY _) (I1.hok.fresh (SY _))
def LN (ta:TA):TI:=fun σ H R=>ta σ H λvs H1=>∃ j:Int,vs=[.int j]/\-(2 ^ 62)<=j/\j < 2 ^ 62/\R (Itr 0 j.toNat) H1
theorem zH (hg:Gl X "range") (hm:X.mg "range"=af) (ha:PA X [a] ta) (hs:T5 [a] X.env=[(ai,eval a X.env)]:=by rfl):PI X tg (.Call (.Name "range" p) [a] [] pos) (LN ta):=by
 intro zt s σ H R I h;refine Call_ (kM I hg hm boot_range (UB (thn (ha pos zt s σ H _ I h) λus s1 ⟨vs,H1,I1,r1,q1⟩=>?_) hs rfl));obtain ⟨j,e,q1,q2,q⟩:=q1;subst e;cases r1 with
 | cons r rr =>
  cases rr;obtain ⟨t,rfl⟩:=r;exact call_range_1 (AS I1 (by lia) (by lia) q1 q2 (by simpa using q))
def Io (wi:TI) (g:TG) (tb:TS):TS:=λD σ H=>wi σ H λJ H1=>∃ W:Nat->Nat->St->Hp->Prop,(∃ m,W 0 m σ H1)/\∀ i m σ H,W i m σ H →
 (J.stop i H/\D.nx σ H)\/(J.go i H/\∃ N:St->Hp->Prop,(∀ σ' H',N σ' H'->∃ m',m' < m/\W (i+1) m' σ' H')/\∀ x H',J.yld i H x H'->g x σ H' fun σ2 H2=>tb { D with nx:=N,ct:=N,bk:=D.nx } σ2 H2)
noncomputable def kN (fp:List S6) (h:au):List (S6×aq):=fp.filterMap λb=>(h.get? b).map λo=>(b,o)
theorem gr (hb:b∈fp) (e:h.get? b=aa o):(b,o)∈kN fp h:=List.mem_filterMap.mpr ⟨b,hb,by rw[e];rfl⟩
theorem zI (hp:p∈kN fp h):p.1∈fp/\h.get? p.1=aa p.2:=by
 obtain ⟨b,hb,e⟩:=List.mem_filterMap.mp hp;cases q:h.get? b with
 | none=>rw[q] at e;cases e
 | some o =>
  rw[q] at e;have e':(b,o)=p:=S9 e;subst e';exact ⟨hb,q⟩
theorem Inv.pinned (I:Inv X zt σ H s) (hf:∀ b∈fp,oj X zt H b) (ho:∀ b∈fp,∃ o,s.heap.get? b=aa o/\∀ v,o.data≠.cell v):Inv X (zt++kN fp s.heap) σ H s :=
 I.jT λp hp=>(List.mem_append.mp hp).elim (λz=>I.pin p (Tj _ z)) λz=>by obtain ⟨hb,e⟩:=zI z;obtain ⟨f0,f1,f2,_⟩:=hf p.1 hb;obtain ⟨o,e',d⟩:=ho p.1 hb;rw[e] at e';cases e';exact ⟨e,f0,f1,f2,d⟩
theorem Inv.lF (I:Inv X (zt++pl) σ H s):Inv X zt σ H s:=I.jT λp hp=>I.pin p (Tj _ (T4 _ hp))
theorem AU {wi:TI} (hp:Xw (Ti X.prog X.w) X.A X.env X.xe) (hc:X.calm=ah) (hi:PI X tg iter wi) (hg:PG X tg g) (hb:PSs X body tb)
 (hs:∀ x,XS iter X.env x=pure x:=by intro _;rfl):PS X (.For tg iter body [] pos) (Io wi g tb):=by
 intro zt s σ H D I h;refine wpAny_For (thn (hi zt s σ H _ I h) λv s1 h1=>thn h1 λitv s2 h2=>?_) hs;obtain ⟨it,fp,tn,J,H2,e,I2,T,st2,f2,W,⟨m0,w0⟩,turn⟩:=h2;subst e;have stat:∀ {H':Hp},(∀ b∈fp,H' b=af)->∀ b∈fp,oj X zt H' b:=λhn b hb=>⟨hn b hb,(f2 b hb).2⟩;refine codeAny_forLoop_any (λn s'=>∃ i σ' H',Inv X zt σ' H' s'/\tn i s'.heap/\(∀ b∈fp,H' b=af)/\W i n σ' H') ?_ m0 ⟨0,σ,H2,I2,st2,λb hb=>(f2 b hb).1,w0⟩
 rintro n s3 ⟨i,σ3,H3,I3,st3,fr3,w3⟩
 rcases turn i n σ3 H3 w3 with ⟨stop,qn⟩|⟨go,N,hN,step⟩
 ·refine Vf hp (thn (T.done X rfl rfl rfl hc i zt s3 σ3 H3 X.xe I3 (stat fr3) st3 stop) λr s4 zq=>?_);obtain ⟨hr,I4⟩:=zq;subst hr;exact WZ ⟨σ3,H3,I4,qn⟩
 ·refine Vf hp (thn (T.item X rfl rfl rfl hc i zt s3 σ3 H3 X.xe I3 (stat fr3) st3 go) λr s4 zq=>?_);obtain ⟨u,hr,h4⟩:=zq;subst hr;refine Vf hp (thn h4 λ_ s5 zq=>?_);obtain ⟨x,H5,I5,r5,y5,st5,fr5⟩:=zq;have I5':=I5.pinned (stat fr5) (T.obj _ _ st5);refine Vf hp (thn (hg _ s5 σ3 H5 x u _ I5' r5 (step x H5 y5)) λ_ s6 zq=>?_);obtain ⟨σ6,H6,I6,q6⟩:=zq;refine Vf hp (thn (hb _ s6 σ6 H6 _ I6 q6) λf s7 q7=>?_);have again:∀ {σ7:St}{H7:Hp},Inv X (zt++kN fp s5.heap) σ7 H7 s7->N σ7 H7->∃ m,m < n/\∃ i σ' H',Inv X zt σ' H' s7/\tn i s7.heap/\(∀ b∈fp,H' b=af)/\W i m σ' H':=λ{σ7 H7} I7 n7=>by obtain ⟨m',hm,w7⟩:=hN σ7 H7 n7;refine ⟨m',hm,i+1,σ7,H7,I7.lF,T.keep _ _ _ st5 λb hb o e=>(I7.pin (b,o) (Tj _ (Tj _ (gr hb e)))).1,λb hb=>?_,w7⟩;obtain ⟨o,e,d⟩:=T.obj _ _ st5 b hb;exact (I7.pin (b,o) (Tj _ (Tj _ (gr hb e)))).2.1
  cases f with
  | brk=>obtain ⟨σ7,H7,I7,q7⟩:=q7;exact ⟨σ7,H7,I7.lF,q7⟩| ret v=>obtain ⟨x7,σ7,H7,I7,r7,q7⟩:=q7;exact ⟨x7,σ7,H7,I7.lF,r7,q7⟩| _=>obtain ⟨σ7,H7,I7,n7⟩:=q7;exact again I7 n7
end
end L2
namespace L2
open PySem PySem.Spec PyProof.Rows
abbrev R2:=V->V->Hp->VK->Prop
def OpR (X:Cx) (f:aA->aA->Sem aA) (r:R2):Prop :=
 ∀ (zt:List (S6×aq)) (s:SL) (σ:St) (H:Hp) (x y:V) (v u:aA) (Q:VK),Inv X zt σ H s->RelV x v->RelV y u->r x y H Q →
  ay (Ti X.prog X.w) X.A (f v u) (EP X zt σ Q) X.xe s
def UnR (X:Cx) (f:aA->Sem aA) (r:V->Hp->VK->Prop):Prop :=
 ∀ (zt:List (S6×aq)) (s:SL) (σ:St) (H:Hp) (x:V) (v:aA) (Q:VK),Inv X zt σ H s->RelV x v->r x H Q →
  ay (Ti X.prog X.w) X.A (f v) (EP X zt σ Q) X.xe s
def gp (X:Cx) (f:aA) (r:List V->Hp->VK->Prop):Prop :=
 ∀ (zt:List (S6×aq)) (s:SL) (σ:St) (H:Hp) (xs:List V) (us:List aA) (Q:VK),Inv X zt σ H s->dD xs us->r xs H Q →
  ay (Ti X.prog X.w) X.A (call f us) (EP X zt σ Q) X.xe s
def tOp (r:R2) (ta tb:TE):TE:=fun σ H Q=>ta σ H λx H1=>tb σ H1 λy H2=>r x y H2 Q
def tUn (r:V->Hp->VK->Prop) (ta:TE):TE:=fun σ H Q=>ta σ H λx H1=>r x H1 Q
def rI (C:Int->Int->Prop) (g:Int->Int->V):R2:=λx y H Q=>∃ i j,x=.int i/\y=.int j/\C i j/\Q (g i j) H
def rI0 (g:Int->Int->V):R2:=λx y H Q=>∃ i j,x=.int i/\y=.int j/\Q (g i j) H
def rU (g:Int->V):V->Hp->VK->Prop:=λx H Q=>∃ i,x=.int i/\Q (g i) H
section
variable {X:Cx}{a b c:Xc}{ta tb tc:TE}{pos:Pos}
theorem Ip (ha:PE X a ta) (hb:PE X b tb) {zt:List (S6×aq)}{s:SL}{σ:St}{H:Hp}{R:V->V->Hp->Prop} (I:Inv X zt σ H s)
 (h:ta σ H λx H1=>tb σ H1 λy H2=>R x y H2) {Q:aA->SL->Prop}{f:aA->aA->Sem aA}
 (hf:∀ v u s2 x y H2,Inv X zt σ H2 s2->RelV x v->RelV y u->R x y H2->ay (Ti X.prog X.w) X.A (f v u) Q X.xe s2) :
 ay (Ti X.prog X.w) X.A (eval a X.env) (λv s₁=>ay (Ti X.prog X.w) X.A (eval b X.env) (λu s₂=>ay (Ti X.prog X.w) X.A (f v u) Q X.xe s₂) X.xe s₁) X.xe s:=by
 refine thn (ha zt s σ H _ I h) λv s1 zq=>?_;obtain ⟨x,H1,I1,r1,q1⟩:=zq;refine thn (hb zt s1 σ H1 _ I1 q1) λu s2 zq=>?_;obtain ⟨y,H2,I2,r2,q2⟩:=zq;exact hf v u s2 x y H2 I2 r1 r2 q2
theorem LP {op:Yt}{r:R2} (ho:OpR X (US op) r) (ha:PE X a ta) (hb:PE X b tb):PE X (.BinOp a op b pos) (tOp r ta tb):=by intro zt s σ H Q I h;exact wpAny_BinOp (Ip ha hb I h λv u s2 x y H2 I2 rx ry q=>ho zt s2 σ H2 x y v u Q I2 rx ry q)
theorem G6 (ho:UnR X (unaryOp op) r) (ha:PE X a ta):PE X (.UnaryOp op a pos) (tUn r ta):=by intro zt s σ H Q I h;exact UnaryOp_ (thn (ha zt s σ H _ I h) λv s1 ⟨x,H1,I1,r1,q1⟩=>ho zt s1 σ H1 x v Q I1 r1 q1)
theorem opI {f:aA->aA->Sem aA}{C:Int->Int->Prop}{g:Int->Int->Int}
 (rule:∀ (i j:Int) (t u:Tok) (s:SL) (Q:aA->SL->Prop) (E:aA->SL->Prop),C i j->Q (.int (g i j) s.toks) { s with toks:=s.toks+1 }->ay (Ti X.prog X.w) X.A (f (.int i t) (.int j u)) Q E s) :
 OpR X f (rI C λi j=>.int (g i j)):=by
 intro zt s σ H x y v u Q I rx ry h;obtain ⟨i,j,rfl,rfl,hc,q⟩:=h;obtain ⟨t,rfl⟩:=rx;obtain ⟨t',rfl⟩:=ry;exact rule i j t t' s _ _ hc ⟨.int (g i j),H,I.tok _,⟨_,rfl⟩,q⟩
theorem LQ {f:aA->aA->Sem aA}{g:Int->Int->Int}
 (rule:∀ (i j:Int) (t u:Tok) (s:SL) (Q:aA->SL->Prop) (E:aA->SL->Prop),Q (.int (g i j) s.toks) { s with toks:=s.toks+1 }->ay (Ti X.prog X.w) X.A (f (.int i t) (.int j u)) Q E s) :
 OpR X f (rI0 λi j=>.int (g i j)):=by
 intro zt s σ H x y v u Q I rx ry h;obtain ⟨i,j,rfl,rfl,q⟩:=h;obtain ⟨t,rfl⟩:=rx;obtain ⟨t',rfl⟩:=ry;exact rule i j t t' s _ _ ⟨.int (g i j),H,I.tok _,⟨_,rfl⟩,q⟩
theorem Eu {f:aA->aA->Sem aA}{g:Int->Int->Bool}
 (rule:∀ (i j:Int) (t u:Tok) (s:SL) (Q:aA->SL->Prop) (E:aA->SL->Prop),Q (.bool (g i j)) s->ay (Ti X.prog X.w) X.A (f (.int i t) (.int j u)) Q E s) :
 OpR X f (rI0 λi j=>.bl (g i j)):=by
 intro zt s σ H x y v u Q I rx ry h;obtain ⟨i,j,rfl,rfl,q⟩:=h;obtain ⟨t,rfl⟩:=rx;obtain ⟨t',rfl⟩:=ry;exact rule i j t t' s _ _ ⟨.bl (g i j),H,I,rfl,q⟩
def Py (i j:Int):Prop:=0 < j/\j < 1073741824
def Ew (i j:Int):Prop:=(-(2 ^ 64) < i/\i < 2 ^ 64)\/(-(2 ^ 64) < j/\j < 2 ^ 64)
theorem Ew.ok (h:Ew i j):IntMulOk i j:=by
 rcases h with ⟨h1,h2⟩|⟨h1,h2⟩
 exact .of_left (intBits_le_64 h1 h2);exact .of_right (intBits_le_64 h1 h2)
theorem Iq:OpR X (US .Add) (rI0 λi j=>.int (i+j)):=LQ λ_ _ _ _ _ _ _ q=>add_int q
theorem Ir:OpR X (US .Sub) (rI0 λi j=>.int (i - j)):=LQ λ_ _ _ _ _ _ _ q=>sub_int q
theorem Iu:OpR X (US .Mult) (rI Ew λi j=>.int (i*j)):=opI λ_ _ _ _ _ _ _ hc q=>mul_int q hc.ok
theorem Ex:OpR X (US .FloorDiv) (rI Py λi j=>.int (i / j)):=opI λi j _ _ _ _ _ hc q=>by have h1:(0:Int) < j:=hc.1;have h2:j < 1073741824:=hc.2;exact floordiv_int (by lia) (by rw[Int.fdiv_eq_ediv_of_nonneg i (by lia)];exact q) (.inl (PyProof.noPylong_small (by lia)))
theorem Iv:OpR X (US .Mod) (rI (λ_ j=>0 < j) λi j=>.int (i % j)):=opI λi j _ _ _ _ _ hc q=>by have h1:(0:Int) < j:=hc;exact mod_int' (by lia) (by rw[Int.fmod_eq_emod_of_nonneg i (by lia)];exact q)
theorem unI {f:aA->Sem aA}{g:Int->Int}
 (rule:∀ (i:Int) (t:Tok) (s:SL) (Q:aA->SL->Prop) (E:aA->SL->Prop),Q (.int (g i) s.toks) { s with toks:=s.toks+1 }->ay (Ti X.prog X.w) X.A (f (.int i t)) Q E s) :
 UnR X f (rU λi=>.int (g i)):=by
 intro zt s σ H x v Q I rx h;obtain ⟨i,rfl,q⟩:=h;obtain ⟨t,rfl⟩:=rx;exact rule i t s _ _ ⟨.int (g i),H,I.tok _,⟨_,rfl⟩,q⟩
theorem AV:UnR X (unaryOp .USub) (rU λi=>.int (-i)):=unI λ_ _ _ _ _ q=>neg_int q
end
section
variable {X:Cx}{a b c:Xc}{ta tb tc:TE}{pos:Pos}
theorem AW (I:Inv X zt σ H s) (q:Q (.bl k) H) (e:k=k'):EP X zt σ Q (.bool k') s:=by subst e;exact ⟨.bl k,H,I,rfl,q⟩
theorem LR:OpR X (Uj .Lt) (rI0 λi j=>.bl (decide (i < j))):=Eu λ_ _ _ _ _ _ _ q=>lt_int q
theorem LS:OpR X (Uj .LtE) (rI0 λi j=>.bl (decide (i<=j))):=Eu λ_ _ _ _ _ _ _ q=>le_int q
theorem LU:OpR X (Uj .Gt) (rI0 λi j=>.bl (decide (j < i))):=Eu λ_ _ _ _ _ _ _ q=>gt_int q
theorem LV:OpR X (Uj .GtE) (rI0 λi j=>.bl (decide (j<=i))):=Eu λ_ _ _ _ _ _ _ q=>ge_int q
theorem Iw:OpR X (Uj .Is) (λx y H Q=>y=.non/\Q (.bl (decide (x=.non))) H):=by
 intro zt s σ H x y v u Q I rx ry h;obtain ⟨rfl,q⟩:=h;cases ry;refine is_none_gen (AW I q ?_);cases x<;>first
  | (cases rx;rfl)
  | (obtain ⟨t,rfl⟩:=rx;rfl)
theorem Ey:OpR X (Uj .IsNot) (λx y H Q=>y=.non/\Q (.bl (!decide (x=.non))) H):=by
 intro zt s σ H x y v u Q I rx ry h;obtain ⟨rfl,q⟩:=h;cases ry;refine isnot_none_gen (AW I q ?_);cases x<;>first
  | (cases rx;rfl)
  | (obtain ⟨t,rfl⟩:=rx;rfl)
theorem qS {op:CmpOp}{r:R2} (ho:OpR X (Uj op) r) (ha:PE X a ta) (hb:PE X b tb) (hm:WI op b=ai):PE X (.Compare a [op] [b] pos) (tOp r ta tb):=by intro zt s σ H Q I h;exact wpAny_Compare1 (Ip ha hb I h λv u s2 x y H2 I2 rx ry q=>ho zt s2 σ H2 x y v u Q I2 rx ry q) hm
def AX (t:TE):TT:=fun σ H Q=>t σ H λx H'=>∃ k,x=.bl k/\Q k H'
theorem qT (ho:OpR X (Uj op) r) (ha:PE X a ta) (hb:PE X b tb) (hm:WI op b=ai):PT X (.Compare a [op] [b] pos) (AX (tOp r ta tb)):=by
 intro zt s σ H Q I h;refine wpAny_isTrue_Compare1 (thn (ha zt s σ H _ I h) λv s1 ⟨x,H1,I1,r1,q1⟩=>thn (hb zt s1 σ H1 _ I1 q1) λu s2 ⟨y,H2,I2,r2,q2⟩ =>
  thn (ho zt s2 σ H2 x y v u _ I2 r1 r2 q2) λc s3 ⟨z,H3,I3,r3,k,e,q3⟩=>?_) hm
 subst e;cases r3;exact Uz ⟨H3,I3,q3⟩
def vq (r r':R2) (ta tb tc:TE):TE:=fun σ H Q=>ta σ H λx H1=>tb σ H1 λy H2=>r x y H2 λz H3=>∃ k,z=.bl k ∧
 (if k=ah then tc σ H3 λw' H4=>r' y w' H4 Q else Q (.bl ai) H3)
theorem AY (ho:OpR X (Uj op) r) (ho':OpR X (Uj op') r') (ha:PE X a ta) (hb:PE X b tb) (hc:PE X c tc)
 (hm:lastMarks [op,op'] [b,c]=ai:=by with_unfolding_all rfl):PE X (.Compare a [op,op'] [b,c] pos) (vq r r' ta tb tc):=by
 intro zt s σ H Q I h;refine Compare_chain (thn (ha zt s σ H _ I h) λv s1 ⟨x,H1,I1,r1,q1⟩=>chain_link (thn (hb zt s1 σ H1 _ I1 q1) λu s2 ⟨y,H2,I2,r2,q2⟩ =>
  thn (ho zt s2 σ H2 x y v u _ I2 r1 r2 q2) λd s3 ⟨z,H3,I3,r3,k,e,q3⟩=>?_)) hm
 subst e;cases r3;refine Uz ?_;cases k with
 | false=>exact ite_ff ⟨.bl ai,H3,I3,rfl,q3⟩| true=>exact ite_tt (chain_last (thn (hc zt s3 σ H3 _ I3 q3) λw' s4 ⟨z',H4,I4,r4,q4⟩=>ho' zt s4 σ H4 y z' u w' Q I4 r2 r4 q4))
theorem AZ (ho:OpR X (Uj op) r) (ho':OpR X (Uj op') r') (ha:PE X a ta) (hb:PE X b tb) (hc:PE X c tc)
 (hm:lastMarks [op,op'] [b,c]=ai:=by with_unfolding_all rfl):PT X (.Compare a [op,op'] [b,c] pos) (AX (vq r r' ta tb tc)):=by
 intro zt s σ H Q I h;refine isTrue_chain (thn (ha zt s σ H _ I h) λv s1 ⟨x,H1,I1,r1,q1⟩=>test_link (thn (hb zt s1 σ H1 _ I1 q1) λu s2 ⟨y,H2,I2,r2,q2⟩ =>
  thn (ho zt s2 σ H2 x y v u _ I2 r1 r2 q2) λd s3 ⟨z,H3,I3,r3,k,e,q3⟩=>?_)) hm
 subst e;cases r3;refine Uz ?_;cases k with
 | false =>
  obtain ⟨k',e',q'⟩:=q3;cases e';exact ite_ff ⟨H3,I3,q'⟩
 | true =>
  refine ite_tt (test_last (thn (hc zt s3 σ H3 _ I3 q3) λw' s4 ⟨z',H4,I4,r4,q4⟩=>thn (ho' zt s4 σ H4 y z' u w' _ I4 r2 r4 q4) λd' s5 zq=>?_));obtain ⟨z2,H5,I5,r5,k2,e2,q5⟩:=zq;subst e2;cases r5;exact Uz ⟨H5,I5,q5⟩
theorem mK:(ak:Nat) < 2 ^ 63:=by rw[sizeLine_eq];decide
theorem vv:OpR X (US .Add) (λx y H Q=>∃ i j,x=.str i/\y=.str j/\i.length+j.length<=ak/\Q (.str (i++j)) H):=by intro zt s σ H x y v u Q I rx ry h;obtain ⟨i,j,rfl,rfl,hz,q⟩:=h;obtain ⟨t,rfl⟩:=rx;obtain ⟨t',rfl⟩:=ry;exact add_str (λt' tk=>⟨.str (i++j),H,I.tok _,⟨_,rfl⟩,q⟩) hz
theorem vals1 (r:dD [x] us):∃ u,us=[u]/\RelV x u:=by
 cases r with
 | cons r1 r2=>cases r2;exact ⟨_,rfl,r1⟩
theorem qm:gp X (.type "int") (λxs H Q=>(∃ i,xs=[.int i]/\Q (.int i) H)\/∃ k,xs=[.bl k]/\Q (.int (if k then 1 else 0)) H):=by
 intro zt s σ H xs us Q I r h;rcases h with ⟨i,rfl,q⟩|⟨k,rfl,q⟩
 ·obtain ⟨u,rfl,t,rfl⟩:=vals1 r;exact call_int_int ⟨.int i,H,I,⟨_,rfl⟩,q⟩
 ·obtain ⟨u,rfl,r1⟩:=vals1 r;cases r1;exact call_int_bool ⟨.int (if k then 1 else 0),H,I.tok _,⟨_,rfl⟩,q⟩
theorem qU:gp X (.type "str") (λxs H Q=>∃ i,xs=[.int i]/\i.natAbs.log2 < 1920/\Q (.str (toString i)) H):=by intro zt s σ H xs us Q I r h;obtain ⟨i,rfl,hz,q⟩:=h;obtain ⟨u,rfl,t,rfl⟩:=vals1 r;exact PySem.P.str_of_int hz ⟨.str _,H,I.tok _,⟨_,rfl⟩,q⟩
end
end L2
namespace L2
open PySem PySem.Spec PyProof.Rows
section
variable {prog:Td}{w:Tz}{A:Ub}{E:aA->SL->Prop}{s:SL}{K:SA}{x dx C f:S6}{mA:az->Option aA}{name:az}{v:aA}
end
noncomputable def nC (f:az) (v:V):List (az×V)->List (az×V)
 | []=>[(f,v)]
 | (g,x)::r=>if g=f then (g,v)::r else (g,x)::nC f v r
section
variable {P:Td}{w:Tz}{H H':Hp}{h h':au}{a C dx:S6}{fs fs':List (az×V)}
end
structure Cls (K:SA) (C:S6):Prop where
 pg:YU K C WJ=ah
 hd:V0 K C=ah
 po:YJ K C=ah
 sa:Ud K (.ref C) "__setattr__"=aa (aa (.builtin "object.__setattr__"))
def vz (K:SA) (C:S6) (f:az):Prop:=Ud K (.ref C) f=aa af
structure Iz (K:SA) (C:S6) (m:az) (f:S6):Prop where
 at_:Ud K (.ref C) m=aa (aa (.ref f))
 fn:Yj K (.ref f)=ah
 kp:TM K (.ref f)=ah
section
variable {X:Cx}{zt:List (S6×aq)}{σ:St}{H:Hp}{s:SL}{a C dx:S6}{fs:List (az×V)}{f:az}{v:V}{A:Ub}{E:aA->SL->Prop}
end
def Sn (K:SA) (ta tv:TE) (f:az):TS:=λD σ H=>tv σ H λy H1=>ta σ H1 λx H2=>∃ a C dx fs,x=.ref a/\H2 a=aa (.ins C dx fs)/\Cls K C/\vz K C f/\fs.length < 1000 ∧
 D.nx σ (upd H2 a (.ins C dx (nC f y fs)))
def On (K:SA) (ta tv:TE) (rd:V->V->Hp->VK->Prop) (f:az):TS:=λD σ H=>ta σ H λx H1=>∃ a C dx fs v,x=.ref a/\H1 a=aa (.ins C dx fs)/\Cls K C/\vz K C f/\fs.lookup f=aa v ∧
 tv σ H1 λy H2=>rd v y H2 λz H3=>∃ dx' fs',H3 a=aa (.ins C dx' fs')/\fs'.length < 1000/\D.nx σ (upd H3 a (.ins C dx' (nC f z fs')))
section
variable {X:Cx}{o e value:Xc}{f:az}{pos pos' tpos:Pos}{ta tv:TE}
end
section
variable {X:Cx}{zt:List (S6×aq)}{σ:St}{H:Hp}{s:SL}{A:Ub}{E:aA->SL->Prop}{Q:aA->SL->Prop}{c:aA}{b:Bool}
end
end L2
namespace L2
open PySem PySem.Spec PyProof.Rows
structure f9 (k:Nat) (A:Ub):Prop where
 hd:A.handled=af
 dp:A.depth+3*k+5 < recursionLimit
 un:A.units+16*k+200 < cLine
theorem f9.mono (r:f9 k A) (h:j<=k):f9 j A:=⟨r.hd,by have:=r.dp;lia,by have:=r.un;lia⟩
theorem f9.deeper (r:f9 (k+1) A) (env:Env):f9 k (A.deeper env) :=
 ⟨r.hd,by have:=r.dp;show A.depth+1+3*k+5 < _;lia,by have:=r.un;show A.units+3+16*k+200 < _;lia⟩
theorem f9.depth (r:f9 k A):A.depth < recursionLimit:=by have:=r.dp;lia
def IA:TA:=λ_ H Q=>Q [] H
def G7 (ta:TE) (tr:TA):TA:=fun σ H Q=>ta σ H λx H1=>tr σ H1 λxs H2=>Q (x::xs) H2
section
variable {X:Cx}{e:Xc}{es:List Xc}{te:TE}{t:TA}{pos:Pos}
theorem mL:PA X [] IA:=λ_ _ _ _ H Q I h=>Zn ⟨[],H,I,.nil,h⟩
theorem gE (ha:PE X e te) (hr:PA X es t) (hs:T5 (e::es) X.env=(ai,eval e X.env)::T5 es X.env:=by rfl):PA X (e::es) (G7 te t):=by intro pos zt s σ H Q I h;rw[hs];show ay _ _ (Y6 ((ai,eval e X.env)::VS pos (T5 es X.env))) _ _ s;refine Vu (thn (ha zt s σ H _ I h) λu s1 zq=>?_);obtain ⟨x,H1,I1,r1,q1⟩:=zq;exact thn (hr pos zt s1 σ H1 _ I1 q1) λus s2 ⟨xs,H2,I2,r2,q2⟩=>⟨x::xs,H2,I2,.cons r1 r2,q2⟩
def LW (t:TA):TE:=fun σ H Q=>t σ H λxs H1=>xs.length<=ak/\∀ p,H1 p=af->Q (.ref p) (upd H1 p (.tup xs))
def LY (t:TA):TE:=fun σ H Q=>t σ H λxs H1=>xs.length<=ak/\∀ p,H1 p=af->Q (.ref p) (upd H1 p (.lst xs))
theorem IB {x1} (h:PA X es t):PE X (.Tuple es x1 pos) (LW t):=by intro zt s σ H Q I hq;refine wpAny_Tuple_spliced (thn (h pos zt s σ H _ I hq) λus s1 ⟨xs,H1,I1,r,z,q⟩=>⟨by rw[← r.length];exact z,?_⟩);have hf:H1 s1.heap.objs.size=af:=I1.hok.fresh (SY _);refine ⟨.ref s1.heap.objs.size,upd H1 s1.heap.objs.size (.tup xs),I1.laid (t':=s1.toks) (λb u e=>SH _ e) (SY _) ?_,rfl,q _ hf⟩;exact ⟨z,us,r,⟨_,Th _ rfl,rfl,_,rfl⟩⟩
theorem IC (h:PA X es t):PE X (.List es pos) (LY t):=by intro zt s σ H Q I hq;refine wpAny_List_spliced (thn (h pos zt s σ H _ I hq) λus s1 ⟨xs,H1,I1,r,z,q⟩=>⟨by rw[← r.length];exact z,?_⟩);have hf:H1 s1.heap.objs.size=af:=I1.hok.fresh (SY _);refine ⟨.ref s1.heap.objs.size,upd H1 s1.heap.objs.size (.lst xs),I1.laid (t':=s1.toks) (λb u e=>SH _ e) (SY _) ?_,rfl,q _ hf⟩;exact ⟨z,us,0,r,Th _ rfl⟩
end
abbrev Sp:=List V->Hp->VK->XK->Prop
abbrev CXT:=List Env->Hp->SL->XK->aA->SL->Prop
structure zJ (P:Td) (w:Tz) (K:SA) (mg:az->Option aA) (base:au) (A:Ub) (outer:List Env) (s:SL) (H:Hp):Prop where
 frames:A.frames=aa outer
 mod:Mod K mg base
 bs:∀ b o,base.get? b=aa o->s.heap.get? b=aa o/\H b=af
 bsz:base.objs.size<=s.heap.objs.size
 jc:s.heap.FunFrames base outer
 frf:∀ b∈frs outer,H b=af
 hok:HOk P w H s.heap
 bare:Xi s.gens
inductive CE (outer:List Env) (P:Td) (w:Tz) (H:Hp) (s:SL) (Q:VK) (u:aA) (s':SL):Prop where
 | mk (v:V) (H':Hp) (os:s'.os=s.os) (b:Xi s'.gens) (un:Un (frs outer) [] H H' s.heap s'.heap) (hk:HOk P w H' s'.heap) (r:RelV v u) (q:Q v H'):CE outer P w H s Q u s'
def CR (CX:CXT) (outer:List Env) (P:Td) (w:Tz) (H:Hp) (s:SL) (Q:VK) (E:XK) (r:Result) (s':SL):Prop :=
 match r with
 | .ok (.ret u)=>CE outer P w H s Q u s'| .ok _=>False| .error e=>CX outer H s E e s'
structure gH (P:Td) (w:Tz) (K:SA) (mg:az->Option aA) (base:au) (CX:CXT) (k:Nat) (f:S6) (fd:UQ) (ps:List az) (sp:Sp):Prop where
 len:∀ vs H Q E,sp vs H Q E->vs.length=ps.length
 run:∀ (A:Ub) (outer:List Env) (s:SL) (H:Hp) (args:Args) (us:List aA) (vs:List V) (Q:VK) (E:XK),f9 k A->zJ P w K mg base A outer s H->BindsTo s fd args (ps.zip us)->dD vs us->sp vs H Q E →
  ao (Ti P w) A (.call (.ref f) args) (CR CX outer P w H s Q E) s
section
variable {X:Cx}{zt:List (S6×aq)}{σ:St}{H:Hp}{s s':SL}
theorem Inv.Pz (I:Inv X zt σ H s):zJ X.prog X.w X.K X.mg X.base X.A X.stack s H :=
 ⟨I.ok.frames,I.ok.mod,I.bs,SZ I.ok.bsz I.sz,I.stack,I.qR,I.hok,I.bare⟩
theorem Inv.after (I:Inv X zt σ H s) (h:CE X.stack X.prog X.w H s Q u s'):EP X zt σ Q u s':=by obtain ⟨v,H',os,bare,un,hok,r,q⟩:=h;obtain ⟨hh,g,d,t,os'⟩:=s';obtain rfl:os'=s.os:=os;exact ⟨v,H',I.call (h':=hh) (g':=g) (d':=d) (t':=t) (ch:=[]) un hok bare (λb z=>absurd z (by simp)),r,q⟩
end
def A0 (sp:Sp) (dvs:List V) (E:XK) (t:TA):TE:=fun σ H Q=>t σ H λvs H1=>sp (vs++dvs) H1 Q E
def Binds (K:SA) (fd:UQ) (ps:List az) (ds:List aA):Prop :=
 ∀ (s:SL) (us:List aA),K.In s.heap->(us++ds).length=ps.length->BindsTo s fd ⟨us,[]⟩ (ps.zip (us++ds))
theorem Binds.all {K:SA} (h:∀ us:List aA,us.length=ps.length->bindArgs fd ⟨us,[]⟩=pure (ps.zip us)):Binds K fd ps []:=λs us _ hl=>by rw[Ug] at hl ⊢;exact .of_eq (h us hl)
def kO (CX:CXT) (X:Cx) (E:XK):Prop:=∀ (zt:List (S6×aq)) (σ:St) (H:Hp) (s:SL) (e:aA) (s':SL),Inv X zt σ H s->CX X.stack H s E e s'->X.xe e s'
section
variable {X:Cx}{CX:CXT}{k:Nat}{f C:S6}{fd:UQ}{ps:List az}{sp:Sp}{dvs:List V}{ds:List aA}{E:XK}{x m:az}{p pos apos:Pos}{e o:Xc}{es:List Xc}{ta:TE}{t:TA}
theorem A1 (F:gH X.prog X.w X.K X.mg X.base CX k f fd ps sp) (hr:f9 k X.A) (hb:Binds X.K fd ps ds) (hd:dD dvs ds) (hx:kO CX X E)
 (I:Inv X zt σ H s) (r:dD vs us) (h:sp (vs++dvs) H Q E):ay (Ti X.prog X.w) X.A (call (.ref f) us) (EP X zt σ Q) X.xe s:=by
 have r2:dD (vs++dvs) (us++ds):=r.append hd;have hl:(us++ds).length=ps.length:=by rw[← r2.length];exact F.len _ _ _ _ h
 refine wpAny_call (Yb (F.run X.A X.stack s H ⟨us,[]⟩ (us++ds) (vs++dvs) Q E hr I.Pz (hb s us I.kIn hl) r2 h) λr s' hq=>?_);cases r with
 | error e=>exact hx zt σ H s e s' I hq
 | ok fl =>
  cases fl with
  | ret u=>exact I.after hq| _=>exact U9 hq
theorem xo (F:gH X.prog X.w X.K X.mg X.base CX k f fd ps sp) (hr:f9 k X.A) (hg:Gl X x) (hm:X.mg x=aa (.ref f)) (hk:TM X.K (.ref f)=ah) (hb:Binds X.K fd ps ds) (hd:dD dvs ds) (hx:kO CX X E)
 (ha:PA X (e::es) t) (hdb:(x==("__debug__":az))=ai:=by decide) (he:T5 (e::es) X.env=(ai,eval e X.env)::T5 es X.env:=by rfl) (hpl:(VS pos (T5 es X.env)).any (·.1)=ai:=by rfl) :
 PE X (.Call (.Name x p) (e::es) [] pos) (A0 sp dvs E t):=by
 intro zt s σ H Q I h;refine Vb (lD I hg hm ?_ hdb);refine YB (h₀:=X.base) I.ok.mod.kin hk (thn (ha pos zt s σ H _ I h) λus s1 ⟨vs,H1,I1,r,q⟩=>⟨I1.kIn,?_⟩) he hpl;exact A1 F hr hb hd hx I1 r q
theorem tS (F:gH X.prog X.w X.K X.mg X.base CX k f fd ps sp) (hr:f9 k X.A) (hg:Gl X x) (hm:X.mg x=aa (.ref f)) (hk:TM X.K (.ref f)=ah) (hb:Binds X.K fd ps ds) (hd:dD dvs ds) (hx:kO CX X E)
 (hdb:(x==("__debug__":az))=ai:=by decide):PE X (.Call (.Name x p) [] [] pos) (A0 sp dvs E IA):=by
 intro zt s σ H Q I h;refine Vb (lD I hg hm ?_ hdb);exact PySem.W.callWith_K0 I.kIn hk (A1 (us:=[]) F hr hb hd hx I .nil h)
structure Mk (K:SA) (C f:S6):Prop where
 makes:Zf K C=ah
 init:Ud K (.ref C) "__init__"=aa (aa (.ref f))
 fn:Yj K (.ref f)=ah
 kp:TM K (.ref C)=ah
end
section
variable {X:Cx}{CX:CXT}{k:Nat}{f C:S6}{fd:UQ}{ps ks:List az}{sp:Sp}{E:XK}{x m:az}{p pos apos kpos:Pos}{e o:Xc}{es:List Xc}{kws:List WL}{te ta:TE}{t tk:TA}{nm:Option az}
variable {g:List aA->List aA->List aA}{gV:List V->List V->List V}
end
structure eV (N P:List az) (sc:Um):Prop where
 kind:sc.kind=.function
 co:sc.isCoroutine=ai
 gen:sc.isGenerator=ai
 nd:N.Nodup
 pre:N.take P.length=P
 par:∀ x∈P,sc.names.lookup x=aa .local\/sc.names.lookup x=aa .cell
 nofree:∀ y∈sc.names,y.2≠.free
theorem qo {kindOf:az->Option VC}:∀ {binds:List (az×aA)}{m:az->Option aA},(∀ v,(x,v)∉binds)->bindL kindOf binds m x=m x
 | [],_,_=>rfl
 | (n,v)::r,m,h=>by
  unfold bindL;rw[qo λw hw=>h w (SI _ hw)];split
  ·have:x≠n:=by rintro rfl;exact h v SG
   simp[this]
  rfl
theorem qp {kindOf:az->Option VC}:∀ {binds:List (az×aA)}{m:az->Option aA},(∀ v,(x,v)∉binds)->bindC kindOf binds m x=m x
 | [],_,_=>rfl
 | (n,v)::r,m,h=>by
  unfold bindC;rw[qp λw hw=>h w (SI _ hw)];split;rfl
  ·have:x≠n:=by rintro rfl;exact h v SG
   simp[this]
theorem qq {kindOf:az->Option VC}:∀ {P:List az}{vs:List aA}{i:Nat}{m:az->Option aA},P.Nodup->P[i]?=aa x->vs[i]?=aa v->kindOf x=aa .local →
 bindL kindOf (P.zip vs) m x=aa v
 | [],_,_,_,_,h,_,_=>by simp at h
 | _::_,[],_,_,_,_,h,_=>by simp at h
 | p::P,w::vs,0,m,nd,h1,h2,hk=>by simp at h1 h2;subst h1;subst h2;show bindL kindOf ((p,w)::P.zip vs) m p=_;unfold bindL;rw[qo λv hv=>(List.nodup_cons.mp nd).1 (XD hv).1,if_pos hk];simp
 | p::P,w::vs,i+1,m,nd,h1,h2,hk=>by show bindL kindOf ((p,w)::P.zip vs) m x=_;unfold bindL;exact qq (i:=i) (List.nodup_cons.mp nd).2 (by simpa using h1) (by simpa using h2) hk
theorem qt {kindOf:az->Option VC}:∀ {P:List az}{vs:List aA}{i:Nat}{m:az->Option aA},P.Nodup->P[i]?=aa x->vs[i]?=aa v->kindOf x≠aa .local →
 bindC kindOf (P.zip vs) m x=aa v
 | [],_,_,_,_,h,_,_=>by simp at h
 | _::_,[],_,_,_,_,h,_=>by simp at h
 | p::P,w::vs,0,m,nd,h1,h2,hk=>by simp at h1 h2;subst h1;subst h2;show bindC kindOf ((p,w)::P.zip vs) m p=_;unfold bindC;rw[qp λv hv=>(List.nodup_cons.mp nd).1 (XD hv).1,if_neg hk];simp
 | p::P,w::vs,i+1,m,nd,h1,h2,hk=>by show bindC kindOf ((p,w)::P.zip vs) m x=_;unfold bindC;exact qt (i:=i) (List.nodup_cons.mp nd).2 (by simpa using h1) (by simpa using h2) hk
noncomputable def start (N:List az) (vs:List V):St:=vs.map aa++Te (N.length - vs.length) af
noncomputable def dM (CX:CXT) (P:Td) (w:Tz) (K:SA) (mg:az->Option aA) (base:au) (N:List az) (qual:az) (scope:Um) (f:S6) (cd:aA) (A:Ub) (outer:List Env) (s:SL) (H:Hp) (E:XK):Cx where
 prog:=P
 w:=w
 K:=K
 mg:=mg
 base:=base
 A:=A.deeper (Vs qual scope s.heap.objs.size f cd)
 N:=N
 s₀:=s
 H₀:=H
 env:=Vs qual scope s.heap.objs.size f cd
 outer:=outer
 stack:=Vs qual scope s.heap.objs.size f cd::outer
 ex:=[]
 calm:=ah
 fn:=λ_=>ah
 pn:=[]
 xe:=λe s'=>ay (Ti P w) (A.deeper (Vs qual scope s.heap.objs.size f cd)) (Y9 (Vs qual scope s.heap.objs.size f cd) e) (λ_ s''=>CX outer H s E e s'') (λe' s''=>CX outer H s E e' s'') s'
theorem tT {sc:Um}{n:Nat}{x:az} (h:sc.names.lookup x=aa .cell):∃ c,(cellsFrom n sc.names []).lookup x=aa c:=by have q:=Yc sc.names n [] (.inl h);exact Option.isSome_iff_exists.mp q
theorem zK {K:SA}{E:XK}
 (S:eV N ps scope) (hd:A.handled=af) (e0:zJ P w K mg base A outer s H) (hl:vs.length=ps.length) (r:dD vs us)
 (x:InCallC s s.heap.objs.size (bindL (Vs qual scope s.heap.objs.size f cd).kindOf (ps.zip us) λ_=>af) (cellsFrom (s.heap.objs.size+1) scope.names []) (bindC (Vs qual scope s.heap.objs.size f cd).kindOf (ps.zip us) λ_=>af) s1) :
 Inv (dM CX P w K mg base N qual scope f cd A outer s H E) [] (start N vs) H s1:=by
 have hpl:ps.length<=N.length:=by have:=congrArg WW S.pre;rw[Ui] at this;lia
 obtain ⟨h1,tk,rfl,hk⟩:=x.done;have noA:∀ b:S6,b∉(dM CX P w K mg base N qual scope f cd A outer s H E).ex:=λb z=>absurd (show b∈([]:List S6) from z) (by simp);refine ⟨⟨e0.mod,S.kind,rfl,rfl,SY _,λy z c h1 h2=>?_,λy hy=>?_,λy c _ h=>?_,λ_=>hd,Around.frames_deeper e0.frames,.inr ⟨rfl,rfl⟩,λb z=>absurd z (noA b),e0.bs,e0.bsz,λb _ _=>noA b,λb z=>absurd z (noA b),e0.jc,e0.frf⟩,
  rfl,e0.bare,Un.kept hk,⟨_,x.toInCall.ns,λi y v h1 h2 h3=>?_⟩,λy c h=>⟨_,x.cell y c h⟩,e0.hok.fresh (SY _),λy c h=>?_,λp hp=>absurd (show p∈([]:List (S6×aq)) from hp) (by simp),e0.hok.kept hk,?_⟩
 exact name_of_addr x.apart (Vm h1) (Vm h2)
 ·have hy:scope.names.lookup y=aa .cell\/scope.names.lookup y=aa .free:=hy;rcases hy with hy|hy
  exact tT hy;exact absurd rfl (S.nofree _ (Vm hy))
 exact Vr (x.above y c (Vm h))
 ·have hi:i < vs.length:=by
   unfold start at h2
   by_cases hi:i < vs.length
   exact hi
   ·rw[Uc (by simpa using hi)] at h2;rw[UF] at h2;split at h2<;>cases h2
  have ha:vs[i]?=aa v:=by
   unfold start at h2;rw[Tf (by simpa using hi),Uu] at h2;cases e:vs[i]? with
   | none=>rw[e] at h2;cases h2| some a=>rw[e] at h2;cases h2;rfl
  obtain ⟨u,hu,rv⟩:=r.get ha;have hp:ps[i]?=aa y:=by rw[← S.pre,Yl (by lia)];exact h1
  have ndP:ps.Nodup:=by rw[← S.pre];exact S.nd.sublist (List.take_sublist _ _)
  refine ⟨u,rv,?_⟩;rcases S.par y (TQ hp) with k|k
  exact .inl ⟨k,qq ndP hp hu k⟩
  ·obtain ⟨c,e⟩:=tT (n:=s.heap.objs.size+1) k;refine .inr ⟨.inl k,c,e,?_⟩;have q:=x.cell y c e;rw[qt ndP hp hu (by show scope.names.lookup y≠_;rw[k];decide)] at q;exact q
 exact e0.hok.fresh (Vr (x.above y c (Vm h)))
 ·unfold start;show _=N.length;rw[SN,SJ,U7];lia
theorem A4 {K:SA}{kV:aA}
 {osl:Array (Option aA)} (lk:K.lookup f=aa ⟨oc,od,.func (UO name qual params body scope dV kV doc pm an cdv ct),osl⟩) (hcd:WA K cdv qual=ah) (S:eV N ps scope)
 (len:∀ vs H Q E,sp vs H Q E->vs.length=ps.length)
 (hbody:∀ (A:Ub) (outer:List Env) (s:SL) (H:Hp) (vs:List V) (Q:VK) (E:XK),f9 k (A.deeper (Vs qual scope s.heap.objs.size f cdv))->sp vs H Q E →
  ∃ t,PSs (dM CX P w K mg base N qual scope f cdv A outer s H E) body t/\t { nx:=λ_ H'=>Q .non H',rt:=Q } (start N vs) H) :
 gH P w K mg base CX (k+1) f (UO name qual params body scope dV kV doc pm an cdv ct) ps sp:=by
 refine ⟨len,λA outer s H args us vs Q E hr e0 hb r hsp=>?_⟩;have hl:=len _ _ _ _ hsp;have KX:K.In s.heap:=e0.mod.kin.keeps λb o e=>(e0.bs b o e).1;have lim:s.heap.NoLimit:=e0.mod.nolimit.keeps λb o e=>(e0.bs b o e).1;have hkind:∀ y∈ps.zip us,scope.names.lookup y.1=aa .local\/(scope.names.lookup y.1=aa .cell/\((cellsFrom (s.heap.objs.size+1) scope.names []).lookup y.1).isSome=ah):=λ⟨n,v⟩ hy=>by
  rcases S.par n (XD hy).1 with q|q
  exact .inl q;exact .inr ⟨q,Yc _ _ _ (.inl q)⟩
 refine codeAny_call_function hr.depth (KX _ _ lk) rfl S.co S.gen rfl (PySem.W.codeRec_of KX hcd) (hb _ _ _ _ ?_);refine wpAny_newFunctionEnv_cells S.kind hkind λenv he s1 x=>?_;subst he;refine ⟨lim.keeps x.toInCall.keep,codeAny_func ?_⟩;obtain ⟨t,ht,hq⟩:=hbody A outer s H vs Q E (hr.deeper _) hsp;have I:Inv (dM CX P w K mg base N qual scope f cdv A outer s H E) [] (start N vs) H s1:=zK S hr.hd e0 hl r x;refine UA (ht [] s1 (start N vs) H _ I hq) (λfl s' hs=>?_) λe s' hs=>hs;have fin:∀ {σ':St}{H':Hp}{v:V}{u:aA},Inv (dM CX P w K mg base N qual scope f cdv A outer s H E) [] σ' H' s'->RelV v u->Q v H'->CE outer P w H s Q u s' :=
  λ{σ' H' v u} J rv q=>⟨v,H',J.os,J.bare,J.base,J.hok,rv,q⟩
 cases fl with
 | ret u =>
  obtain ⟨v,σ',H',J,rv,q⟩:=hs;exact fin J rv q
 | next =>
  obtain ⟨σ',H',J,q⟩:=hs;exact fin (v:=V.non) (u:=UW) J rfl q
 | brk =>
  obtain ⟨_,_,_,q⟩:=hs;exact U9 q
 | cont =>
  obtain ⟨_,_,_,q⟩:=hs;exact U9 q
end L2
namespace L2
open PySem PySem.Spec PyProof.Rows
section
variable {X:Cx}{x:az}{p pos:Pos}{e:Xc}{es:List Xc}{t:TA}{id T:String}{r:List V->Hp->VK->Prop}
def tCB (r:List V->Hp->VK->Prop) (t:TA):TE:=fun σ H Q=>t σ H λvs H1=>r vs H1 Q
theorem jC (hc:gp X (.builtin id) r) (hg:Gl X x) (hm:X.mg x=af) (hv:VR x=aa (.builtin id)) (ha:PA X (e::es) t) (hn:x≠"__name__":=by decide) (hdb:(x==("__debug__":az))=ai:=by decide)
 (he:T5 (e::es) X.env=(ai,eval e X.env)::T5 es X.env:=by rfl) (hpl:(VS pos (T5 es X.env)).any (·.1)=ai:=by rfl):PE X (.Call (.Name x p) (e::es) [] pos) (tCB r t):=by
 intro zt s σ H Q I h;refine Vb (kM I hg hm hv ?_ hn hdb);exact PyProof.Rows.callWith_builtin1 (thn (ha pos zt s σ H _ I h) λus s1 ⟨vs,H1,I1,r1,q1⟩=>hc zt s1 σ H1 vs us Q I1 r1 q1) he hpl
theorem gZ (hc:gp X (.type T) r) (hg:Gl X x) (hm:X.mg x=af) (hv:VR x=aa (.type T)) (ha:PA X (e::es) t) (hn:x≠"__name__":=by decide) (hdb:(x==("__debug__":az))=ai:=by decide)
 (he:T5 (e::es) X.env=(ai,eval e X.env)::T5 es X.env:=by rfl) (hpl:(VS pos (T5 es X.env)).any (·.1)=ai:=by rfl):PE X (.Call (.Name x p) (e::es) [] pos) (tCB r t):=by
 intro zt s σ H Q I h;refine Vb (kM I hg hm hv ?_ hn hdb);exact UB (thn (ha pos zt s σ H _ I h) λus s1 ⟨vs,H1,I1,r1,q1⟩=>hc zt s1 σ H1 vs us Q I1 r1 q1) he hpl
end
end L2
namespace HT
open PySem PyProof.Rows
section
open PySem.SeqAt
open PySem.AutoSeq1 (wpAny_loadPart')
open PySem.MeetsSeq PySem.MeetsSeq2 PySem.MeetsSeq3
end
section
variable {prog:Td}{w:Tz}{A:Ub}{E:aA->SL->Prop}{s:SL}
theorem Ez (ht:IsTup s.heap t vs.toArray) (hb:IsTup s.heap b ws.toArray) (hv:vs≠[])
 (h1:ws=[]->Q (.ref t) s) (h2:ws≠[]->Q (.ref s.heap.objs.size) { s with heap:=s.heap.push { cls:=.type "tuple",data:=.seq (vs++ws).toArray } })
 (hsz:vs.length+ws.length<=ak):ay (Ti prog w) A (US .Add (.ref t) (.ref b)) Q E s:=by
 obtain ⟨⟨cls,dd,data,sl⟩,ho,hc,n,hd⟩:=id ht;obtain ⟨⟨cls2,dd2,data2,sl2⟩,ho2,hc2,n2,hd2⟩:=id hb;simp only at hc hd hc2 hd2;subst hc hd hc2 hd2;have e:vs.toArray++ws.toArray=(vs++ws).toArray:=by simp
 by_cases hw:ws=[]
 ·exact concat_meets ⟨_,ho,rfl⟩ ⟨_,ho2,rfl⟩ Yh Y7 Wg Wc (V5 _ _)
   (tuple_addW1 t b vs.toArray ws.toArray n n2 dd dd2 sl sl2 (by simpa using hv) (by simp[hw])) ⟨ho,ho2,h1 hw⟩
 ·refine concat_meets ⟨_,ho,rfl⟩ ⟨_,ho2,rfl⟩ Yh Y7 Wg Wc (V5 _ _)
   (tuple_addW2 t b vs.toArray ws.toArray n n2 dd dd2 sl sl2 (by simpa using hv) (by simpa using hw) (by rw[SQ,SQ];exact hsz)) ⟨ho,ho2,?_⟩
  rw[e];exact h2 hw
noncomputable def sIx (n d:Nat):Option Int->Nat
 | none=>d
 | some v=>if v < 0 then (v+(n:Int)).toNat else min v.toNat n
theorem ID (n d:Nat) (hd:d<=n) (o:Option Int):sIx n d o<=n:=by
 cases o with
 | none=>exact hd
 | some v =>
  show (if v < 0 then (v+(n:Int)).toNat else min v.toNat n)<=n
  by_cases hv:v < 0
  rw[if_pos hv];lia;rw[if_neg hv];exact Nat.min_le_right _ _
theorem xq (v:Int) (n d:Nat):(if v < 0 then max (v+(n:Int)) 0 else min v (n:Int))=((sIx n d (aa v):Nat):Int):=by
 show (if v < 0 then max (v+(n:Int)) 0 else min v (n:Int))=(((if v < 0 then (v+(n:Int)).toNat else min v.toNat n):Nat):Int)
 by_cases hv:v < 0
 simp only[if_pos hv];lia;simp only[if_neg hv];lia
theorem vA (lo hi:Option Int) (n:Nat):Up lo hi 1 (n:Int)=(((sIx n 0 lo:Nat):Int),((sIx n n hi:Nat):Int)):=by
 have h1:¬ ((1:Int) < 0):=by lia
 unfold Up;simp only[h1,if_false];refine Prod.ext ?_ ?_
 ·cases lo with
  | none=>rfl| some v=>exact xq v n 0
 ·cases hi with
  | none=>rfl| some v=>exact xq v n n
theorem vB (i j:Nat):TY (i:Int) (j:Int) 1=j - i:=by
 unfold TY;have h1:(1:Int) > 0:=by lia
 simp only[h1,if_true,Int.ediv_one];split<;>lia
theorem om (p:Yg v o) (h:Q o s):ay (Ti prog w) A (Builtin.Slice.slicePartIndex v) Q E s:=by
 cases p with
 | none=>exact W7 h| int i t=>exact slicePart_int h
theorem iV {lo:Option Int}{n:Nat} (hs:s.heap.IsSliceOf sl vl vu .none) (pl:Yg vl lo) (pu:Yg vu hi)
 (h:Q (((sIx n 0 lo:Nat):Int),1,sIx n n hi - sIx n 0 lo) s):ay (Ti prog w) A (UY (.ref sl) (pure (n:Int))) Q E s:=by
 obtain ⟨os,hos,hcs,hds⟩:=id hs;unfold UY W2;refine SD (SD (T9 hos hds (x:=vl) rfl (SD (T9 hos hds (x:=vu) rfl (SD (T9 hos hds (x:=.none) rfl (av ?_)))))));refine SD (W7 ?_);show ay _ _ (if ((1:Int)==0)=ah then _ else _) _ _ s;rw[if_neg (by decide)];refine SD (om pl (SD (om pu (SD (av ?_)))));show ay _ _ (match Up lo hi 1 (n:Int) with|(lo,hi)=>pure (lo,(1:Int),TY lo hi 1)) _ _ s;rw[vA lo hi n];show ay _ _ (pure (((sIx n 0 lo:Nat):Int),(1:Int),TY ((sIx n 0 lo:Nat):Int) ((sIx n n hi:Nat):Int) 1)) _ _ s;rw[vB];exact av h
theorem A5 (xs:Array aA) (i k:Nat):((U0 k).filterMap λ(m:Nat)=>xs[((i:Int)+(m:Int)*1).toNat]?).toArray=((xs.toList.drop i).take k).toArray:=by
 have e:(λ(m:Nat)=>xs[((i:Int)+(m:Int)*1).toNat]?)=λm=>xs[i+m]?:=by
  funext m;have:((i:Int)+(m:Int)*1).toNat=i+m:=by lia
  rw[this]
 rw[e];have:=pick_run xs i k;rw[List.filterMap_map] at this;have e2:((λx=>xs[x]?) ∘ λx=>i+x)=λm=>xs[i+m]?:=rfl;rw[e2] at this;rw[this]
theorem lG {lo:Option Int} (ht:IsTup s.heap t xz) (hs:s.heap.IsSliceOf sl vl vu .none) (pl:Yg vl lo) (pu:Yg vu hi)
 (hw:¬ (sIx xz.size 0 lo=0/\sIx xz.size xz.size hi=xz.size))
 (h:Q (.ref s.heap.objs.size) { s with heap:=s.heap.push { cls:=.type "tuple",data:=.seq ((xz.toList.drop (sIx xz.size 0 lo)).take (sIx xz.size xz.size hi - sIx xz.size 0 lo)).toArray } })
 (hsz:xz.size<=ak):ay (Ti prog w) A (WH (.ref t) (.ref sl)) Q E s:=by
 have htake:sizeOk (.seq ((xz.toList.drop (sIx xz.size 0 lo)).take (sIx xz.size xz.size hi - sIx xz.size 0 lo)).toArray):=by show ((xz.toList.drop (sIx xz.size 0 lo)).take (sIx xz.size xz.size hi - sIx xz.size 0 lo)).toArray.size<=ak;rw[SQ,Ui,UD,Vn];lia
 have hj:sIx xz.size xz.size hi<=xz.size:=ID _ _ (SY _) hi;obtain ⟨os,hos,hcs,hds⟩:=id hs;have hTs:s.TypeIs (.ref sl) "slice":=⟨os,hos,hcs⟩;unfold WH
 try with_reducible refine Ul ?_
 first|refine SD (av ?_)|skip
 refine SD (XJ ht.typeIs (by decide) ?_);refine SD (Ur (name:=SE "__getitem__") ht.typeIs T7
  (U4 T7 ht.typeIs Xe ?_ (Xr _ _)))
 show ay _ _ (VG (.ref t) >>= _) _ _ s;refine SD (Y5 ht ?_);refine SD (X9 hTs ?_);rw[if_pos (by decide)];refine SD (iV hs pl pu ?_);have hno:¬ ((((sIx xz.size 0 lo:Nat):Int)==0&&(1:Int)==1&&(sIx xz.size xz.size hi - sIx xz.size 0 lo)==xz.size)=ah):=by intro q;rw[SM,SM] at q;have q1:((sIx xz.size 0 lo:Nat):Int)=0:=eq_of_beq q.1.1;have q2:sIx xz.size xz.size hi - sIx xz.size 0 lo=xz.size:=eq_of_beq q.2;exact hw ⟨by lia,by lia⟩
 show ay _ _ (if (((sIx xz.size 0 lo:Nat):Int)==0&&(1:Int)==1&&(sIx xz.size xz.size hi - sIx xz.size 0 lo)==xz.size)=ah then _ else _) _ _ s;rw[if_neg hno,A5]
 first
  | exact SD (m:=T3 _) (T6 (av ⟨_,rfl,av h⟩) htake)
  | exact SD (m:=T3 _) (T6 (SD (av (av ⟨_,rfl,av h⟩))) htake)
  | exact SD (SD (m:=T3 _) (T6 (av (av ⟨_,rfl,av h⟩)) htake))
  | exact SD (SD (m:=T3 _) (T6 (av ⟨_,rfl,av h⟩) htake))
end
end HT
namespace L2
open PySem PySem.Spec PyProof.Rows
abbrev TO:=St->Hp->(Option Int->Hp->Prop)->Prop
def PO (X:Cx) (e:Option Xc) (t:TO):Prop :=
 ∀ (zt:List (S6×aq)) (s:SL) (σ:St) (H:Hp) (Q:Option Int->Hp->Prop),Inv X zt σ H s->t σ H Q →
  ay (Ti X.prog X.w) X.A (evalPart e X.env) (λu s'=>∃ o H',Inv X zt σ H' s'/\Yg u o/\Q o H') X.xe s
def EA:TO:=λ_ H Q=>Q af H
def LZ (t:TE):TO:=fun σ H Q=>t σ H λx H1=>∃ i,x=.int i/\Q (aa i) H1
section
variable {X:Cx}{e:Xc}{te:TE}{lo hi:Option Xc}{tl th:TO}{pos p2:Pos}
theorem EB:PO X af EA:=by intro zt s σ H Q I h;rw[Xo];exact av ⟨af,H,I,.none,h⟩
theorem EC (h:PE X e te):PO X (aa e) (LZ te):=by intro zt s σ H Q I hw;rw[Za];refine thn (h zt s σ H _ I hw) λu s1 zq=>?_;obtain ⟨x,H1,I1,r1,q1⟩:=zq;obtain ⟨i,rfl,q⟩:=q1;obtain ⟨t,rfl⟩:=r1;exact ⟨aa i,H1,I1,.int i t,q⟩
def SlR (X:Cx) (r:V->Option Int->Option Int->Hp->VK->Prop):Prop :=
 ∀ (zt:List (S6×aq)) (s:SL) (σ:St) (H:Hp) (x:V) (v vl vu:aA) (lo hi:Option Int) (sl:S6) (Q:VK),Inv X zt σ H s->RelV x v->s.heap.IsSliceOf sl vl vu .none->Yg vl lo->Yg vu hi->r x lo hi H Q →
  ∃ T id,typeLookup (.type T) "__getitem__"=pure (aa (.builtin id))/\s.TypeIs v T/\ay (Ti X.prog X.w) X.A (WH v (.ref sl)) (EP X zt σ Q) X.xe s
def tSl (r:V->Option Int->Option Int->Hp->VK->Prop) (te:TE) (tl th:TO):TE:=fun σ H Q=>te σ H λx H1=>tl σ H1 λl H2=>th σ H2 λu H3=>r x l u H3 Q
theorem A6 (hr:SlR X r) (he:PE X e te) (hl:PO X lo tl) (hu:PO X hi th):PE X (.Subscript e (.Slice lo hi af p2) pos) (tSl r te tl th):=by intro zt s σ H Q I h;refine XX (thn (he zt s σ H _ I h) λv s1 zq=>?_);obtain ⟨x,H1,I1,r1,q1⟩:=zq;refine wpAny_Slice (thn (hl zt s1 σ H1 _ I1 q1) λvl s2 ⟨l,H2,I2,pl,q2⟩=>thn (hu zt s2 σ H2 _ I2 q2) λvu s3 zq=>?_);obtain ⟨u,H3,I3,pu,q3⟩:=zq;rw[Xo];refine av ?_;have I4:Inv X zt σ H3 { s3 with heap:=s3.heap.push { cls:=.type "slice",data:=.fields #[vl,vu,.none] } }:=I3.kept (t':=s3.toks) λb ob q=>SH _ q;obtain ⟨T,id,hT,ht,hg⟩:=hr zt { s3 with heap:=s3.heap.push { cls:=.type "slice",data:=.fields #[vl,vu,.none] } } σ H3 x v vl vu l u s3.heap.objs.size Q I4 r1 (Wm ..) pl pu q3;show ay (Ti X.prog X.w) X.A (Xm e (.Slice lo hi af p2) v (.ref s3.heap.objs.size)) (EP X zt σ Q) X.xe { s3 with heap:=s3.heap.push { cls:=.type "slice",data:=.fields #[vl,vu,.none] } };exact Yq (ops:=[.ref s3.heap.objs.size,v]) ht hT hg (by with_unfolding_all rfl)
noncomputable def tU (xs:List V) (lo hi:Option Int):List V:=(xs.drop (HT.sIx xs.length 0 lo)).take (HT.sIx xs.length xs.length hi - HT.sIx xs.length 0 lo)
theorem nj (xs:List V) (lo hi:Option Int):(tU xs lo hi).length<=xs.length:=by unfold tU;rw[Ui,UD];lia
def PJ (K:SA):V->Option Int->Option Int->Hp->VK->Prop:=λx lo hi H Q=>∃ a xs,x=.ref a/\SqT K H a xs ∧
 ¬ (HT.sIx xs.length 0 lo=0/\HT.sIx xs.length xs.length hi=xs.length)/\∀ p,H p=af->Q (.ref p) (upd H p (.tup (tU xs lo hi)))
theorem IE:SlR X (PJ X.K):=by
 intro zt s σ H x v vl vu lo hi sl Q I rx hs pl pu h;obtain ⟨a,xs,rfl,hx,hw,q⟩:=h;cases rx;obtain ⟨its,r,ht,hz⟩:=I.tuple hx;have hlen:its.toArray.size=xs.length:=by rw[SQ];exact r.length.symm
 refine ⟨"tuple",_,PyProof.Rows.slot_tuple_getitem.lookup,ht.typeIs,?_⟩;refine HT.lG ht hs pl pu (by rw[hlen];exact hw) ?_ (by rw[hlen];exact hz);rw[hlen];refine ⟨.ref s.heap.objs.size,_,I.laid (t':=s.toks) (o:=.tup (tU xs lo hi)) (λb ob q=>SH _ q) (SY _) ?_,rfl,q _ (I.hok.fresh (SY _))⟩;exact ⟨SZ (nj xs lo hi) hz,_,(r.drop (HT.sIx xs.length 0 lo)).take (HT.sIx xs.length xs.length hi - HT.sIx xs.length 0 lo),IsTup.new _ _⟩
def L0 (K:SA):R2:=λx y H Q=>∃ a b xs ys,x=.ref a/\y=.ref b/\SqT K H a xs/\SqT K H b ys/\xs≠[]/\xs.length+ys.length<=ak ∧
 (ys=[]->Q (.ref a) H)/\(ys≠[]->∀ p,H p=af->Q (.ref p) (upd H p (.tup (xs++ys))))
theorem dD.lH (r:dD xs us):us=[]↔xs=[]:=by
 cases r with
 | _=>simp
theorem ED:OpR X (US .Add) (L0 X.K):=by intro zt s σ H x y v u Q I rx ry h;obtain ⟨a,b,xs,ys,rfl,rfl,ha,hb,hx,hz,q1,q2⟩:=h;cases rx;cases ry;obtain ⟨its,r1,p1,_⟩:=I.tuple ha;obtain ⟨its2,r2,p2,_⟩:=I.tuple hb;refine HT.Ez p1 p2 (λz=>hx (r1.lH.mp z)) (λz=>⟨.ref a,H,I,rfl,q1 (r2.lH.mp z)⟩) (λz=>?_) (by rw[← r1.length,← r2.length];exact hz);refine ⟨.ref s.heap.objs.size,_,I.laid (t':=s.toks) (o:=.tup (xs++ys)) (λb ob q=>SH _ q) (SY _) ?_,rfl,q2 (λw=>z (r2.lH.mpr w)) _ (I.hok.fresh (SY _))⟩;exact ⟨by rw[SN];exact hz,_,r1.append r2,IsTup.new _ _⟩
end
end L2
namespace L2
open PySem PySem.Spec PyProof.Rows
noncomputable def ixN (n:Nat) (i:Int):Option Nat:=if 0<=i then (if i < n then aa i.toNat else af) else if -(n:Int)<=i then aa (i+n).toNat else af
noncomputable def atI {α:Type} (xs:List α) (i:Int):Option α:=(ixN xs.length i).bind λj=>xs[j]?
theorem xr (h:ixN n i=aa j):seqIndex? i n=aa j/\j < n/\-(n:Int)<=i/\i < n:=by
 unfold ixN at h
 by_cases h0:0<=i
 ·rw[if_pos h0] at h
  by_cases h1:i < n
  ·rw[if_pos h1] at h;have e:i.toNat=j:=S9 h;exact ⟨by rw[seqIndex_of h0 h1,e],by lia,by lia,h1⟩
  rw[if_neg h1] at h;cases h
 ·rw[if_neg h0] at h
  by_cases h1:-(n:Int)<=i
  ·rw[if_pos h1] at h;have e:(i+n).toNat=j:=S9 h;exact ⟨by rw[seqIndex_neg (by lia) h1,e],by lia,h1,by lia⟩
  rw[if_neg h1] at h;cases h
theorem qV {α:Type}{xs:List α}{v:α} (h:atI xs i=aa v):∃ j,seqIndex? i xs.length=aa j/\xs[j]?=aa v/\j < xs.length/\-(xs.length:Int)<=i/\i < xs.length:=by
 unfold atI at h;cases e:ixN xs.length i with
 | none=>rw[e] at h;cases h
 | some j =>
  rw[e] at h;obtain ⟨h1,h2,h3,h4⟩:=xr e;exact ⟨j,h1,h,h2,h3,h4⟩
def xu (b:Xc):Prop:=∀ o i,subscripted b ai o i=operate [o,i] (WH o i)
def IxR (X:Cx) (r:R2):Prop :=
 ∀ (value slice:Xc) (zt:List (S6×aq)) (s:SL) (σ:St) (H:Hp) (x y:V) (v u:aA) (Q:VK),Inv X zt σ H s->RelV x v->RelV y u->r x y H Q →
  subscripted slice ai v u=operate [v,u] (WH v u)->ay (Ti X.prog X.w) X.A (Xm value slice v u) (EP X zt σ Q) X.xe s
def MtR (X:Cx) (id:String) (r:V->List V->Hp->VK->Prop):Prop :=
 ∀ (zt:List (S6×aq)) (s:SL) (σ:St) (H:Hp) (x:V) (xs:List V) (v:aA) (us:List aA) (Q:VK),Inv X zt σ H s->RelV x v->dD xs us->r x xs H Q →
  ay (Ti X.prog X.w) X.A (call (.builtin id) (v::us)) (EP X zt σ Q) X.xe s
section
variable {X:Cx}{a b:Xc}{ta tb:TE}{pos:Pos}
theorem L1 (hr:IxR X r) (ha:PE X a ta) (hb:PE X b tb) (hs:xu b):PE X (.Subscript a b pos) (tOp r ta tb):=by intro zt s σ H Q I h;exact XX (Ip ha hb I h λv u s2 x y H2 I2 rx ry q=>hr a b zt s2 σ H2 x y v u Q I2 rx ry q (hs _ _))
def PK (K:SA):R2:=λx y H Q=>∃ p xs i v,x=.ref p/\y=.int i/\SqL K H p xs/\atI xs i=aa v/\Q v H
def PL (K:SA):R2:=λx y H Q=>∃ p xs i v,x=.ref p/\y=.int i/\SqT K H p xs/\atI xs i=aa v/\Q v H
def PM:R2:=λx y H Q=>∃ z i c,x=.str z/\y=.int i/\z.length<=ak/\atI z.cps.toList i=aa c/\Q (.str ⟨#[c]⟩) H
theorem EF:IxR X (PK X.K):=by
 intro value slice zt s σ H x y v u Q I rx ry h hs;obtain ⟨p,xs,i,z,rfl,rfl,hq,he,q⟩:=h;cases rx;obtain ⟨t,rfl⟩:=ry;obtain ⟨its,r,pl,hz⟩:=I.list hq;obtain ⟨j,h1,h2,h3,h4,h5⟩:=qV he;obtain ⟨w,ew,rw'⟩:=r.get h2;have hl:=r.length;have hn:=mK;have fin:EP X zt σ Q w s:=⟨z,H,I,rw',q⟩
 by_cases h0:0<=i
 ·have hj:i.toNat=j:=by rw[seqIndex_of h0 h5] at h1;exact S9 h1
  exact item_listR pl.isList h0 (by lia) (by rw[hj];simpa using ew) fin hs
 ·have hj:(i+(its.toArray.size:Int)).toNat=j:=by rw[seqIndex_neg (by lia) h4] at h1;rw[SQ,← hl];exact S9 h1
  exact subscriptTail_builtinR (x:=w) pl.isList.typeIs slot_list_getitem.lookup
   (wpAny_getItem_list_neg (Q:=λr s'=>r=w/\EP X zt σ Q r s') pl.isList (by lia) (by rw[SQ]<;>lia) (by lia) (by rw[hj];simpa using ew) ⟨rfl,fin⟩) hs
theorem IF:IxR X (PL X.K):=by
 intro value slice zt s σ H x y v u Q I rx ry h hs;obtain ⟨p,xs,i,z,rfl,rfl,hq,he,q⟩:=h;cases rx;obtain ⟨t,rfl⟩:=ry;obtain ⟨its,r,pl,hz⟩:=I.tuple hq;obtain ⟨j,h1,h2,h3,h4,h5⟩:=qV he;obtain ⟨w,ew,rw'⟩:=r.get h2;have hl:=r.length;have hn:=mK;have fin:EP X zt σ Q w s:=⟨z,H,I,rw',q⟩;exact subscriptTail_builtinR (x:=w) pl.typeIs slot_tuple_getitem.lookup
  (getItem_tuple (j:=j) (Q:=λr s'=>r=w/\EP X zt σ Q r s') pl (by lia) (by lia) (by rw[SQ,← hl];exact h1) (by simpa using ew) ⟨rfl,fin⟩) hs
theorem IG:IxR X PM:=by
 intro value slice zt s σ H x y v u Q I rx ry h hs;obtain ⟨z,i,c,rfl,rfl,hz,he,q⟩:=h;obtain ⟨t,rfl⟩:=rx;obtain ⟨t',rfl⟩:=ry;obtain ⟨j,h1,h2,h3,h4,h5⟩:=qV he;have hl:z.cps.toList.length=z.length:=by simp[VT]
 rw[hl] at h1 h4 h5;have hn:=mK;exact Yq (typeIs_str s z t) slot_str_getitem.lookup (getItem_str (c:=c) (by
  have e1:decide (i < -(2 ^ 63:Int))=ai:=decide_eq_false (by lia);have e2:decide (i ≥ 2 ^ 63)=ai:=decide_eq_false (by lia);rw[e1,e2,Yw]) (by rw[h1];simpa using h2) ⟨.str ⟨#[c]⟩,H,I.tok _,⟨_,rfl⟩,q⟩) hs
theorem vC (its:List aA) (n j:Nat) (u:aA):WM (·.setIfInBounds j u) { cls:=.type "list",data:=.seq its.toArray n }={ cls:=.type "list",data:=.seq (its.set j u).toArray n }:=by simp[WM]
theorem Inv.lst {zt:List (S6×aq)}{σ:St}{H:Hp}{s:SL}{p:S6}{xs:List V} (I:Inv X zt σ H s) (h:H p=aa (.lst xs)) :
 ∃ (its:List aA) (n:Nat),dD xs its/\s.heap.get? p=aa { cls:=.type "list",data:=.seq its.toArray n }/\xs.length<=ak:=by
 obtain ⟨z,its,n,r,e⟩:=I.hok p _ h;exact ⟨its,n,r,e,z⟩
theorem Inv.II {zt:List (S6×aq)}{σ:St}{H:Hp}{s:SL}{p:S6}{xs ys:List V}{its its':List aA}{n n':Nat}{f:aq->aq} (I:Inv X zt σ H s) (h:H p=aa (.lst xs))
 (ho:s.heap.get? p=aa { cls:=.type "list",data:=.seq its.toArray n }) (hf:f { cls:=.type "list",data:=.seq its.toArray n }={ cls:=.type "list",data:=.seq its'.toArray n' }) (r:dD ys its') (hz:ys.length<=ak) (t:Nat) :
 Inv X zt σ (upd H p (.lst ys)) { s with heap:=s.heap.update p f,toks:=t }:=by
 have e:(s.heap.update p f).get? p=aa { cls:=.type "list",data:=.seq its'.toArray n' }:=by rw[WE f ho (by rw[hf]<;>rfl),hf]
 refine I.write (x:=p) (e:=p) (by rw[h];trivial) (.inl rfl) (λb u hb q=>(Wu _ _ (UM hb)).trans q) ⟨_,e⟩ ?_;exact ⟨hz,its',n',r,e⟩
noncomputable def L3:V->V->V->Hp->(Hp->Prop)->Prop:=λo i v H Q=>∃ p xs k j,o=.ref p/\i=.int k/\H p=aa (.lst xs)/\ixN xs.length k=aa j/\Q (upd H p (.lst (xs.set j v)))
theorem set_list:LG X L3:=by
 intro zt s σ H o i v ov iv u Q I ro ri rv h;obtain ⟨p,xs,k,j,rfl,rfl,hp,hj,q⟩:=h;cases ro;obtain ⟨t,rfl⟩:=ri;obtain ⟨its,n,r,ho,hz⟩:=I.lst hp;obtain ⟨h1,h2,h3,h4⟩:=xr hj;have hl:=r.length;have hn:=mK;have I':Inv X zt σ (upd H p (.lst (xs.set j v))) { s with heap:=s.heap.update p (WM (·.setIfInBounds j u)) } :=
  I.II hp ho (vC its n j u) (r.set rv j) (by rw[List.length_set];exact hz) s.toks
 by_cases h0:0<=k
 ·have hk:k.toNat=j:=by rw[seqIndex_of h0 h4] at h1;exact S9 h1
  exact PySem.W.ki_setAt ho h0 (by lia) (by rw[SQ,← hl];exact h4) (by rw[hk];exact ⟨_,I',q⟩)
 ·have hk:(k+(its.toArray.size:Int)).toNat=j:=by rw[seqIndex_neg (by lia) h3] at h1;rw[SQ,← hl];exact S9 h1
  exact PySem.W.ki_setBack ho (by lia) (by rw[SQ,← hl];exact h3) (by lia) (by rw[hk];exact ⟨_,I',q⟩)
theorem qW (lo hi:Option Int) (n:Nat):(Vg lo hi af n).1=((HT.sIx n 0 lo:Nat):Int)/\(Vg lo hi af n).2.1=((HT.sIx n n hi:Nat):Int)/\(Vg lo hi af n).2.2=1:=by
 refine ⟨?_,?_,rfl⟩
 ·cases lo with
  | none=>simp[Vg,HT.sIx]
  | some i =>
   simp only[Vg,HT.sIx,Zi,show (1:Int) > 0 by decide,if_true]
   by_cases h:i < 0
   simp only[h,if_true]<;>lia;simp only[h,if_false]<;>lia
 ·cases hi with
  | none=>simp[Vg,HT.sIx]
  | some i =>
   simp only[Vg,HT.sIx,Zi,show (1:Int) > 0 by decide,if_true]
   by_cases h:i < 0
   simp only[h,if_true]<;>lia;simp only[h,if_false]<;>lia
theorem pX (its:List aA) (lo hi:Option Int):slicePick its.toArray lo hi af=((its.drop (HT.sIx its.length 0 lo)).take (HT.sIx its.length its.length hi - HT.sIx its.length 0 lo)).toArray:=by obtain ⟨h1,h2,h3⟩:=qW lo hi its.toArray.size;unfold slicePick;rw[h1,h2,h3];simp only[sliceRange_one,pick_run,SQ]<;>rfl
def PN (K:SA):V->Option Int->Option Int->Hp->VK->Prop:=λx lo hi H Q=>∃ a xs,x=.ref a/\SqL K H a xs/\∀ p,H p=af->Q (.ref p) (upd H p (.lst (tU xs lo hi)))
theorem EG:SlR X (PN X.K):=by intro zt s σ H x v vl vu lo hi sl Q I rx hs pl pu h;obtain ⟨a,xs,rfl,hx,q⟩:=h;cases rx;obtain ⟨its,r,ht,hz⟩:=I.list hx;have hlen:=r.length;refine ⟨"list",_,slot_list_getitem.lookup,ht.isList.typeIs,?_⟩;refine wpAny_getItem_list_slice ht.isList hs pl pu .none (by simp) ?_ (by rw[SQ]<;>lia);rw[pX,← hlen];refine ⟨.ref s.heap.objs.size,_,I.laid (t':=s.toks) (o:=.lst (tU xs lo hi)) (λb ob q=>SH _ q) (SY _) ?_,rfl,q _ (I.hok.fresh (SY _))⟩;exact ⟨SZ (nj xs lo hi) hz,_,0,(r.drop (HT.sIx xs.length 0 lo)).take (HT.sIx xs.length xs.length hi - HT.sIx xs.length 0 lo),Th _ rfl⟩
theorem lI:gp X (.builtin "len") (λxs H Q=>∃ p ys,xs=[.ref p]/\(SqL X.K H p ys\/SqT X.K H p ys)/\Q (.int ys.length) H):=by
 intro zt s σ H xs us Q I r h;obtain ⟨p,ys,rfl,hq,q⟩:=h;obtain ⟨u,rfl,rx⟩:=vals1 r;cases rx;have hn:=mK;rcases hq with hq|hq
 ·obtain ⟨its,r',pl,hz⟩:=I.list hq;have hlen:=r'.length;exact Calls.call_len_list pl.isList (by simp only[SQ]<;>lia) ⟨.int ys.length,H,I.tok _,⟨s.toks+1,by rw[SQ,hlen]⟩,q⟩
 ·obtain ⟨its,r',pl,hz⟩:=I.tuple hq;have hlen:=r'.length;exact len_tuple pl (by simp only[SQ]<;>lia) ⟨.int ys.length,H,I.tok _,⟨s.toks+1,by rw[SQ,hlen]⟩,q⟩
theorem qX:gp X (.builtin "len") (λxs H Q=>∃ z,xs=[.str z]/\z.length<=ak/\Q (.int z.length) H):=by intro zt s σ H xs us Q I r h;obtain ⟨z,rfl,hz,q⟩:=h;obtain ⟨u,rfl,t,rfl⟩:=vals1 r;have hn:=mK;exact len_str (by lia) ⟨.int z.length,H,I.tok _,⟨_,rfl⟩,q⟩
theorem lJ:gp X (.type "list") (λxs H Q=>∃ p ys,xs=[.ref p]/\(SqL X.K H p ys\/SqT X.K H p ys)/\∀ l,H l=af->Q (.ref l) (upd H l (.lst ys))):=by
 intro zt s σ H xs us Q I r h;obtain ⟨p,ys,rfl,hq,q⟩:=h;obtain ⟨u,rfl,rx⟩:=vals1 r;cases rx;have fin:∀ (its:List aA),dD ys its->ys.length<=ak->∀ (h':au) (c':Nat),(∀ b o',s.heap.get? b=aa o'->h'.get? b=aa o') →
  h'.get? s.heap.objs.size=aa { cls:=.type "list",dict:=af,data:=.seq its.toArray c',slots:=#[] }->EP X zt σ Q (.ref s.heap.objs.size) { s with heap:=h' }:=λits r' hz h' c' kp e =>
  ⟨.ref s.heap.objs.size,_,I.laid (t':=s.toks) kp (SY _) (show gn X.prog X.w _ h' _ (.lst ys) from ⟨hz,its,c',r',e⟩),rfl,q _ (I.hok.fresh (SY _))⟩
 rcases hq with hq|hq
 ·obtain ⟨its,r',pl,hz⟩:=I.list hq;have hlen:=r'.length;obtain ⟨o,ho,hc,n,hd⟩:=pl.isList;exact call_list_seq p (.inl rfl) ho hc hd (λh' c' kp e=>fin its r' hz h' c' kp e) (by simp only[SQ]<;>lia)
 ·obtain ⟨its,r',pl,hz⟩:=I.tuple hq;have hlen:=r'.length;obtain ⟨o,ho,hc,n,hd⟩:=pl;exact call_list_seq p (.inr rfl) ho hc hd (λh' c' kp e=>fin its r' hz h' c' kp e) (by simp only[SQ]<;>lia)
theorem kI:gp X (.type "tuple") (λxs H Q=>∃ p ys,xs=[.ref p]/\((SqL X.K H p ys/\∀ l,H l=af->Q (.ref l) (upd H l (.tup ys)))\/(SqT X.K H p ys/\Q (.ref p) H))):=by
 intro zt s σ H xs us Q I r h;obtain ⟨p,ys,rfl,h⟩:=h;obtain ⟨u,rfl,rx⟩:=vals1 r;cases rx;rcases h with ⟨hq,q⟩|⟨hq,q⟩
 ·obtain ⟨its,r',pl,hz⟩:=I.list hq;have hlen:=r'.length;refine call_tuple_list pl.isList (λh' kp=>?_) (by simp only[SQ]<;>lia);have I1:Inv X zt σ H { s with heap:=h' }:=I.kept (t':=s.toks) kp;have I2:Inv X zt σ (upd H h'.objs.size (.tup ys)) { s with heap:=h'.push { cls:=.type "tuple",data:=.seq its.toArray } } :=
   I1.laid (t':=s.toks) (λb o e=>SH _ e) (SY _) (show gn X.prog X.w _ _ _ (.tup ys) from ⟨hz,its,r',IsTup.new _ _⟩)
  exact ⟨.ref h'.objs.size,_,I2,rfl,q _ (I1.hok.fresh (SY _))⟩
 ·obtain ⟨its,r',pl,hz⟩:=I.tuple hq;exact call_tuple_same pl ⟨.ref p,H,I,rfl,q⟩
def tyV (K:SA) (T:String) (x:V) (H:Hp):Prop:=match x with
 | .str _=>T="str"| .int _=>T="int"| .ref p=>(T="list"/\∃ xs,SqL K H p xs)\/(T="tuple"/\∃ o,K.lookup p=aa o/\o.cls=.type "tuple"/\o.dict=af) ∨
  (T="dict"/\((∃ kvs,H p=aa (.dK kvs))\/∃ kvs,H p=aa (.dT kvs)))\/(T="set"/\∃ S n,H p=aa (.set S n))
 | _=>False
theorem vD (I:Inv X zt σ H s) (r:RelV x v) (ty:tyV X.K T x H) :
 s.TypeIs v T/\∀ a,v=.ref a->∃ ob,s.heap.get? a=aa ob/\ob.dict=af:=by
 cases x with
 | str z =>
  obtain ⟨t,rfl⟩:=r;cases (show T="str" from ty);exact ⟨typeIs_str s z t,λ_ e=>nomatch e⟩
 | int i =>
  obtain ⟨t,rfl⟩:=r;cases (show T="int" from ty);exact ⟨typeIs_int s i t,λ_ e=>nomatch e⟩
 | ref p =>
  cases r;rcases ty with ⟨rfl,xs,hq⟩|⟨rfl,o,hk,hc,hd⟩|⟨rfl,hk⟩|⟨rfl,S,n,hk⟩
  ·obtain ⟨its,_,pl,_⟩:=I.list hq;refine ⟨pl.isList.typeIs,λa e=>?_⟩;cases e;obtain ⟨o,n,e,c,hd,_⟩:=pl;exact ⟨o,e,hd⟩
  ·refine ⟨⟨o,I.kIn p o hk,hc⟩,λa e=>?_⟩;cases e;exact ⟨o,I.kIn _ o hk,hd⟩
  ·have z:∃ o,s.heap.get? p=aa o/\o.ExactDict:=by
    rcases hk with ⟨kvs,hk⟩|⟨kvs,hk⟩
    ·obtain ⟨_,_,_,_,o,_,_,e,ex,_⟩:=I.hok p _ hk;exact ⟨o,e,ex⟩
    ·obtain ⟨_,_,_,_,o,_,_,e,ex,_⟩:=I.hok p _ hk;exact ⟨o,e,ex⟩
   obtain ⟨o,e,ex⟩:=z;refine ⟨⟨o,e,ex.1⟩,λa e2=>?_⟩;cases e2;exact ⟨o,e,ex.2.1⟩
  ·obtain ⟨o,_,_,_,e,ex,_⟩:=I.hok p _ hk;refine ⟨⟨o,e,ex.1⟩,λa e2=>?_⟩;cases e2;exact ⟨o,e,ex.2.1⟩
 | _=>exact U9 ty
def PP (K:SA) (T:String) (r:V->List V->Hp->VK->Prop) (to:TE):TE:=fun σ H Q=>to σ H λx H1=>tyV K T x H1/\r x [] H1 Q
def tBM (K:SA) (T:String) (r:V->List V->Hp->VK->Prop) (to:TE) (t:TA):TE:=fun σ H Q=>to σ H λx H1=>tyV K T x H1/\t σ H1 λxs H2=>r x xs H2 Q
variable {o e:Xc}{es:List Xc}{to:TE}{t:TA}{name:az}{apos cpos:Pos}{T id:String}{r:V->List V->Hp->VK->Prop}
theorem IJ (pa:YX T) (slot:Slot T name id) (hty:typeOf (.builtin id)=pure (.type "method_descriptor")) (hm:MtR X id r) (ho:PE X o to)
 (hbase:Zc o name X.env (eval o X.env)=eval o X.env:=by rfl) (hline:(apos.endLine==cpos.line)=ah:=by rfl):PE X (.Call (.Attribute o name apos) [] [] cpos) (PP X.K T r to):=by
 intro zt s σ H Q I h;refine wpAny_Call_method0_late hbase hline (thn (ho zt s σ H _ I h) λv s1 zq=>?_);obtain ⟨x,H1,I1,r1,ty,q1⟩:=zq;obtain ⟨h1,h2⟩:=vD I1 r1 ty;exact ⟨T,id,pa,slot,hty,h1,h2,Vz rfl (PySem.evalArgs_none (hm zt s1 σ H1 x [] v [] Q I1 r1 .nil q1))⟩
theorem L4 (pa:YX T) (slot:Slot T name id) (hty:typeOf (.builtin id)=pure (.type "method_descriptor")) (hm:MtR X id r) (ho:PE X o to) (ha:PA X (e::es) t)
 (hbase:Zc o name X.env (eval o X.env)=eval o X.env:=by rfl)
 (hfew:((VS cpos (T5 (e::es) X.env)).all (λx=>!x.1)&&(backToKw cpos (keywordEach [] X.env)).all (λx=>x.1.isSome)
 &&decide ((e::es).length+([]:List WL).length+(if ([]:List WL).isEmpty then 0 else 1) < 30))=ah:=by rfl)
 (hline:(apos.endLine==cpos.line)=ah:=by rfl) (hs:T5 (e::es) X.env=(ai,eval e X.env)::T5 es X.env:=by rfl) (hplain:(VS cpos (T5 es X.env)).any (·.1)=ai:=by rfl) :
 PE X (.Call (.Attribute o name apos) (e::es) [] cpos) (tBM X.K T r to t):=by
 intro zt s σ H Q I h;refine WQ hbase hfew hline rfl (thn (ho zt s σ H _ I h) λv s1 zq=>?_);obtain ⟨x,H1,I1,r1,ty,q1⟩:=zq;obtain ⟨h1,h2⟩:=vD I1 r1 ty;refine ⟨T,id,pa,slot,hty,h1,h2,?_⟩;have hA:=ha cpos zt s1 σ H1 _ I1 q1;rw[hs] at hA ⊢;refine Vz (by show (ai||(VS cpos (T5 es X.env)).any (·.1))=ai;rw[hplain]<;>rfl) (VM ?_);exact thn hA λus s2 ⟨vs,H2,I2,r2,q2⟩=>hm zt s2 σ H2 x vs v us Q I2 r1 r2 q2
/- xs.append(e),list.index on a module's tuple .. are MtR facts of 06m -/
end
end L2
namespace L2
open PySem PySem.Spec PyProof.Rows
def MtM (X:Cx) (id:String) (r:V->List V->Hp->VK->Prop):Prop :=
 ∀ (zt:List (S6×aq)) (s:SL) (σ:St) (H:Hp) (x:V) (xs:List V) (v:aA) (us:List aA) (Q:VK),Inv X zt σ H s->RelV x v->dD xs us->r x xs H Q →
  ay (Ti X.prog X.w) X.A (call (.builtin id) (v::us)) (EP X zt σ Q) X.xe s
theorem dD.one {x:V}{us:List aA} (h:dD [x] us):∃ u,us=[u]/\RelV x u:=by cases h with|cons r t=>cases t;exact ⟨_,rfl,r⟩
theorem dD.two {x y:V}{us:List aA} (h:dD [x,y] us):∃ u v,us=[u,v]/\RelV x u/\RelV y v:=by cases h with|cons r t=>obtain ⟨v,rfl,q⟩:=dD.one t;exact ⟨_,v,rfl,r,q⟩
theorem dD.zero:∀ {us:List aA},dD [] us->us=[]
 | _,.nil=>rfl
theorem dD.dropLast (h:dD xs us):dD xs.dropLast us.dropLast:=by
 induction h with
 | nil=>exact .nil
 | cons r t ih =>
  cases t with
  | nil=>exact .nil| cons q t'=>exact .cons r ih
theorem dD.rep (h:dD xs us):∀ k:Nat,dD (Te k xs).flatten (Te k us).flatten
 | 0=>.nil
 | k+1=>by rw[UJ,UJ,UH,UH];exact dD.append h (dD.rep h k)
theorem vE (l:List α):l.eraseIdx (l.length - 1)=l.dropLast:=by
 induction l with
 | nil=>rfl
 | cons a r ih =>
  cases r with
  | nil=>rfl
  | cons b r =>
   have e:(a::b::r).length - 1=((b::r).length - 1)+1:=by have h1:(a::b::r).length=r.length+2:=rfl;have h2:(b::r).length=r.length+1:=rfl;lia
   rw[e,List.eraseIdx_cons_succ,ih]
   all_goals rfl
theorem foldl_rep (its:List aA):∀ (k:Nat) (acc:List aA),
 Ym (λx1 x2=>x1++x2) acc.toArray (Te k its.toArray)=(acc++(Te k its).flatten).toArray
 | 0,acc=>by simp
 | k+1,acc=>by
  have e:acc.toArray++its.toArray=(acc++its).toArray:=by simp
  have e2:(acc++its)++(Te k its).flatten=acc++(Te (k+1) its).flatten:=by rw[UJ,UH,TH]
  rw[← e2,← foldl_rep its k (acc++its),← e,UJ,XH]
section
variable {X:Cx}{zt:List (S6×aq)}{σ:St}{H:Hp}{s:SL}{l b:S6}{xs ys zs:List V}
theorem Inv.EI {its its':List aA}{n:Nat}{f:Array aA->Array aA}{t':Nat} (I:Inv X zt σ H s) (hH:H l=aa (.lst xs))
 (e:s.heap.get? l=aa { cls:=.type "list",data:=.seq its.toArray n }) (hf:f its.toArray=its'.toArray) (hv:dD ys its') (hz:ys.length<=ak) :
 Inv X zt σ (upd H l (.lst ys)) { s with heap:=s.heap.update l (WM f),toks:=t' }:=by
 have q:=PySem.IsL.update e f;rw[hf] at q;refine I.write (x:=l) (e:=l) (by rw[hH];exact trivial) (.inl rfl) (λb' u hb hu=>(Wu s.heap (WM f) (UM hb)).trans hu) ⟨_,q⟩ ?_;exact ⟨hz,its',_,hv,q⟩
theorem Inv.L5 (I:Inv X zt σ H s) (hv:dD ys its) (hz:ys.length<=ak) :
 Inv X zt σ (upd H s.heap.objs.size (.lst ys)) { s with heap:=s.heap.push { cls:=.type "list",data:=.seq its.toArray },toks:=t' } :=
 I.laid (λ_ _ q=>SH _ q) (SY _) ⟨hz,its,0,hv,Th _ rfl⟩
theorem Inv.fresh (I:Inv X zt σ H s):H s.heap.objs.size=af:=I.hok.fresh (SY _)
theorem Inv.EJ (I:Inv X zt σ H s) (hH:H l=aa (.lst xs)):xs.length<=ak/\∃ (its:List aA) (n:Nat),dD xs its/\xs.length=its.length/\s.heap.get? l=aa { cls:=.type "list",data:=.seq its.toArray n }:=by obtain ⟨z,its,n,r,e⟩:=I.hok l _ hH;exact ⟨z,its,n,r,r.length,e⟩
theorem oq (h:n<=ak):Ut n=ai:=by unfold Ut;exact decide_eq_false (by lia)
end
section
variable {X:Cx}
def EK:V->List V->Hp->VK->Prop:=λx vs H Q=>∃ l xs y,x=.ref l/\vs=[y]/\H l=aa (.lst xs)/\xs.length < ak/\Q .non (upd H l (.lst (xs++[y])))
theorem zL:MtM X "list.append" EK:=by intro zt s σ H x vs v us Q I rx rv h;obtain ⟨l,xs,y,rfl,rfl,hH,hz,q⟩:=h;cases rx;obtain ⟨u,rfl,ru⟩:=rv.one;obtain ⟨z,its,n,r,hl,e⟩:=I.EJ hH;refine Vk F.slot_list_append ⟨_,e,rfl⟩ F.entry_list_append (F.args_list_append_2 _ _) (PySem.list_append l its.toArray n u (by rw[SQ];lia)) ⟨e,?_⟩;refine ⟨.non,_,I.EI (its':=its++[u]) hH e (by simp) (r.append (.cons ru .nil)) ?_,rfl,q⟩;rw[SN,Uk];lia
def PR:V->List V->Hp->VK->Prop:=λx vs H Q=>∃ l xs y,x=.ref l/\vs=[]/\H l=aa (.lst xs)/\xs[xs.length - 1]?=aa y/\Q y (upd H l (.lst xs.dropLast))
theorem IK:MtM X "list.pop" PR:=by
 intro zt s σ H x vs v us Q I rx rv h;obtain ⟨l,xs,y,rfl,rfl,hH,hy,q⟩:=h;cases rx;have hus:=rv.zero;subst hus;obtain ⟨z,its,n,r,hl,e⟩:=I.EJ hH;obtain ⟨u,hu,ru⟩:=r.get hy;have hy':its.toArray[its.toArray.size - 1]?=aa u:=by show its.toArray[its.length - 1]?=aa u;rw[← YA,← hl];exact hu
 refine Vk F.slot_list_pop ⟨_,e,rfl⟩ F.entry_list_pop (F.args_list_pop_1 _) (MeetsSeq.list_pop_last l its.toArray n u hy' (by rw[SQ];lia)) ⟨e,?_⟩;refine ⟨y,_,I.EI (its':=its.dropLast) hH e ?_ r.dropLast ?_,ru,q⟩
 ·show its.toArray.eraseIdxIfInBounds (its.toArray.size - 1)=its.dropLast.toArray;rw[SQ,List.eraseIdxIfInBounds_toArray,vE]
 ·rw[List.length_dropLast];lia
theorem len_rep (xs:List α) (k:Nat):(Te k xs).flatten.length=k*xs.length:=by
 induction k with
 | zero=>simp| succ k ih=>rw[UJ,UH,SN,ih,Nat.succ_mul,Nat.add_comm]
end
section
variable {prog:Td}{w:Tz}{A:Ub}{E:aA->SL->Prop}{s:SL}
set_option maxRecDepth 100000 in
end
section
variable {X:Cx}
end
end L2
namespace Att
open PySem PySem.W PySem.Calls PyProof.Rows
theorem nE:∀ (ns:List Int) (vs:List aA),WellAll P h vs (ns.map WData.int)->IntsAre vs ns:=by
 intro ns
 induction ns with
 | nil =>
  intro vs w;rw[WB] at w;cases w;exact .nil
 | cons n ns ih =>
  intro vs w;rw[Tw] at w;cases w with
  | cons a b =>
   cases a;exact .cons _ _ (ih _ b)
theorem zM {l:OpenLaw}{n:Nat} (hn:l.most=aa n) {P:Params}{h:au}{args:List WData}{vals:List aA}
 (hpre:l.row.toRowW.claim.pre args=ah) (hwl:WellAll P h vals args) :
 ∃ a vs ns,vals=[U5 a]/\args=[WData.list (ns.map WData.int)]/\h.get? a=aa { cls:=.type "list",data:=.seq vs.toArray }/\IntsAre vs ns/\ns.length<=n:=by
 have hsh:WShape.hasAll [] args [.list .int]=ah:=(pre_splitW hpre).1;have hc:l.pre.holds [] { args:=args }=ah:=(pre_splitW hpre).2;obtain ⟨d,r,rfl,h1,h2⟩:=hasAllW_cons hsh;obtain rfl:=hasAllW_nil h2;obtain ⟨xs,rfl,h3⟩:=hasW_list h1;obtain ⟨ns,rfl⟩:=items_int h3;have hlen:ns.length<=n:=by
  unfold OpenLaw.pre at hc;have h4:(WTm.not (.lt (.lit (.int (n:Int))) (.len (.arg 0)))).holds [] { args:=[.list (ns.map .int)] }=ah:=by have h4:=(holds_andW hc).1;rw[hn] at h4;exact h4
  have h5:=condW_of h4 (w_not (w_lt w_lit (w_len_list (w_arg rfl))));rw[SJ] at h5;refine Nat.le_of_not_lt λq=>?_;have q':(n:Int) < ((ns.length:Nat):Int):=by lia
  first
   | (rw[decide_eq_true q'] at h5;exact absurd h5 (by decide))
   | (simp at h5;lia)
 cases hwl with
 | cons w1 w2 =>
  cases w2;cases w1 with
  | list ho hall=>exact ⟨_,_,ns,rfl,rfl,ho,nE ns _ hall,hlen⟩
theorem zN (l:OpenLaw) (args:List WData):l.row.toRowW.claim.post args (.bool ah) args=ah :=
 postW_of (r:=l.row.toRowW) (X:=(ah==ah))
  (show WShape.has [] (.bool ah) .bool=ah by first|rfl|decide|simp[WShape.has,WShape.arms,WShape.armsAll])
  (show (WTm.eq .res (.lit (.bool ah))).value [] { args:=args,res:=aa (.bool ah),after:=args }=aa (.bool (ah==ah)) from w_eq_bool (w_res rfl) w_lit) rfl
theorem tV {l:OpenLaw}{n:Nat}{q:Td}{loose:List az}{XP:(az->Option aA)->au->Prop}{YP:Tz->au->Prop}{d:DefRec}
 (hn:l.most=aa n) (hdf:d.params.defaults=[])
 (call:∀ (w:Tz) (s₀ s₁:SL) (mg mb:az->Option aA) (fa:S6) (o:aq) (pm cd doc:aA) (a:S6) (vs:List aA) (ns:List Int),
  Ground q loose [] XP w s₀ mg mb s₁.heap->YP w s₁.heap →
  s₁.heap.get? fa=aa o->o.data=.func (docDef d.name d.params d.body d.scope pm cd doc)->s₁.heap.CodeRec cd d.name->mg d.name=aa (.ref fa) →
  s₁.heap.get? a=aa { cls:=.type "list",data:=.seq vs.toArray }->IntsAre vs ns->ns.length<=n->s₁.gens=#[] →
  ao (Ti l.prog w) Zb (.call (.ref fa) ⟨[.ref a],[]⟩) (λr s'=>r=.ok (.ret (.bool ah))/\OldK s₁.heap s'.heap/\s'.os=s₁.os/\Xi s'.gens) s₁) :
 WalkO q loose XP YP l.row.toRowW d [] (λf vs=>Zd f vs):=by
 intro w s₀ s₁ mg mb G Y fa o pm cd doc dV kV ho hd hcd hD hmg hg args vals as hpre hlay hrd hwl hlo;obtain rfl:dV=.none:=Dflts.none hD hdf;obtain rfl:kV=.none:=Dflts.noKw hD;obtain ⟨a,vs,ns,rfl,rfl,hobj,hints,hlen⟩:=zM hn hpre hwl;refine enter_call (Yb (call w s₀ s₁ mg mb fa o pm cd doc a vs ns G Y ho (fd_plain hd) hcd hmg hobj hints hlen hg) λr s' hq=>?_);obtain ⟨rfl,h2,h3,h4⟩:=hq;exact ⟨.inl ⟨.bool ah,.bool ah,[],rfl,λ_=>rfl,.bool ah,zN l _,λ_=>⟨List.Pairwise.nil,λ_ hm=>(nomatch hm)⟩⟩,h2,h3,h4⟩
section
variable {prog:Td}{w:Tz}{A:Ub}{E:aA->SL->Prop}{s:SL}{K:Frag}
noncomputable def ledger (h:au) (L d:S6):List (S6×aq):=(U0 h.objs.size).filterMap λa=>if a=L\/a=d then af else (h.get? a).map λo=>(a,o)
end
end Att
namespace L2
open PySem PySem.Spec PyProof.Rows
theorem qu:∀ {vs:List aA}{ns:List Int},IntsAre vs ns->dD (ns.map V.int) vs
 | _,_,.nil=>.nil| _,_,.cons n t h=>.cons ⟨t,rfl⟩ (qu h)
end L2
namespace L2
open PySem PySem.Spec PyProof.Rows
noncomputable abbrev KOf {K:SA}{h:au} (_:K.In h):SA:=K
end L2
/- THE LAST THEOREM (shape;LID,My.* are yours):
 My.Adr: a structure of the addresses that your layer names (classes,functions);My.Txt K t: a structure (Prop) of the equations over K;
 My.txt_mk:{K}{implicit addresses ..} (e1:nsIn K S7 "law"=aa (aa (.ref f))) (e2:K.lookup f=aa ⟨oc,od,.func (fnOf "law" "law" params body scope dV kV doc pm an cdv ct),sl⟩) (e3:codeIn K cdv "law"=ah) ..:∃ t,My.Txt K t
set_option maxRecDepth 100000 in
set_option maxHeartbeats 0 in
theorem PySem.Challenge.EL:PySem.Challenge.rw_LID.Holds:=by
 w_on;o_law;k_head;(case hw=>w_witness2)
 k_fill
 refine L2.walk_of (l:=PySem.Challenge.rw_LID) (n:=63) (k:=40) (x:="script") (CX:=λw=>..) (sp:=λ_=>My.DZ) rfl (by decide) rfl ⟨rfl,by decide,by decide⟩ (λw h Y=>PySem.W.kIn_of Y) ?F ?S ?C
 case F =>
  intro w mg fa h KX G hmg;have T:∃ t,My.Txt (L2.KOf KX) t:=by
   dsimp only[L2.KOf] -- K must stand as «<heap const> w.params» for k_is;refine' My.txt_mk ?e1 ?e2 ?e3 ..
   (case e1=>PySem.W.k_is) -- in the order: a name->its address->its object->its parts
   (case e2=>PySem.W.k_is)
   ..
  obtain ⟨t,T⟩:=T;have e0:=hmg.symm.trans (Ua KX G T.law);cases e0 -- fa is the law's own address;exact ⟨_,λs u=>.of_eq rfl,λbase kb nb=>My.law_fn T kb nb⟩ -- if «.of_eq rfl» comes too early: refine' ⟨_,?b,λbase kb nb=>My.law_fn T kb nb⟩;exact λs u=>.of_eq rfl
 case S=>exact λw H a ns hl hO hS=>..
 case C=>exact ..
(the tactic k_is has no namespace: write k_is) -/
namespace L2
open PySem PySem.Spec PyProof.Rows
abbrev CX0:CXT:=λ_ _ _ _ _ _=>False
abbrev E0:XK:=λ_ _ _=>False
theorem G8:kO CX0 X E0:=λ_ _ _ _ _ _ _ h=>h.elim
inductive L6 (K:SA) (x qual:az) (st:Xj) (f:S6) (fd:UQ):Prop where
 | mk (oc:aA) (od:Option S6) (kV doc pm:aA) (an:Option S6) (cdv ct:aA) (osl:Array (Option aA)) (h1:fd=UO x qual (f7 st) (dz st) (cU st) .none kV doc pm an cdv ct) (h2:K.lookup f=aa ⟨oc,od,.func fd,osl⟩) (h3:WA K cdv qual=ah):L6 K x qual st f fd
structure Fun (K:SA) (x qual:az) (st:Xj) (f:S6) (fd:UQ):Prop where
 ex:L6 K x qual st f fd
 kp:TM K (.ref f)=ah
section
variable {P:Td}{w:Tz}{K:SA}{mg:az->Option aA}{base:au}
theorem Fun.binds {st:Xj} (F:Fun K x qual st f fd)
 (h:∀ (kV doc pm:aA) (an:Option S6) (cdv ct:aA) (us:List aA),us.length=ps.length->bindArgs (UO x qual (f7 st) (dz st) (cU st) .none kV doc pm an cdv ct) ⟨us,[]⟩=pure (ps.zip us)):Binds K fd ps []:=by
 obtain ⟨oc,od,kV,doc,pm,an,cdv,ct,osl,rfl,lk,hcd⟩:=F.ex;exact .all (h kV doc pm an cdv ct)
theorem IM {st:Xj}{osl:Array (Option aA)}{kV:aA} (l:K.lookup f=aa ⟨oc,od,.func (UO x qual (f7 st) (dz st) (cU st) .none kV doc pm an cdv ct),osl⟩)
 (c:WA K cdv qual=ah) (k:TM K (.ref f)=ah):Fun K x qual st f (UO x qual (f7 st) (dz st) (cU st) .none kV doc pm an cdv ct):=⟨⟨oc,od,kV,doc,pm,an,cdv,ct,osl,rfl,l,c⟩,k⟩
end
theorem qv (h:n<=1000):n < ak:=Nat.lt_of_le_of_lt h (by decide)
section
variable {X:Cx}
end
end L2
end
section
namespace L2
open PySem PySem.Spec PyProof.Rows
section
variable {κ:Type} [DecidableEq κ]
noncomputable def tW (kvs:List (κ×V)) (k:κ):Option V:=(kvs.find? λkv=>decide (kv.1=k)).map (·.2)
noncomputable def putK (kvs:List (κ×V)) (k:κ) (v:V):List (κ×V) :=
 if (kvs.any λkv=>decide (kv.1=k))=ah then kvs.map (λkv=>if kv.1=k then (kv.1,v) else kv) else kvs++[(k,v)]
theorem tX {p:κ×V}{r:List (κ×V)}{k:κ} (e:p.1=k):tW (p::r) k=aa p.2:=by simp[tW,Vw,e]
theorem tY {p:κ×V}{r:List (κ×V)}{k:κ} (e:¬ p.1=k):tW (p::r) k=tW r k:=by simp[tW,Vw,e]
theorem tZ (kvs:List (κ×V)) (k:κ) (v:V):(putK kvs k v).length<=kvs.length+1:=by unfold putK;split;rw[SJ];lia;rw[SN,SX,Uo];lia
theorem KV.val {kvs:List (κ×V)}{vs:List (κ×aA)} (r:KV kvs vs) (k:κ):HZ (tW kvs k) (valueAt vs k):=by
 unfold KV at r
 induction r with
 | nil=>exact True.intro
 | @cons p q ps qs h t ih =>
  obtain ⟨h1,h2⟩:=h
  by_cases e:p.1=k
  ·have e':q.1=k:=h1.symm.trans e;have b:valueAt (q::qs) k=aa q.2:=by simp[valueAt,Vw,e']
   rw[tX e,b];exact h2
  ·have e':¬ q.1=k:=λz=>e (h1.trans z);have b:valueAt (q::qs) k=valueAt qs k:=by simp[valueAt,Vw,e']
   rw[tY e,b];exact ih
theorem KV.any (r:KV kvs vs) (k:κ):(kvs.any λkv=>decide (kv.1=k))=vs.any λkv=>decide (kv.1=k):=by
 unfold KV at r
 induction r with
 | nil=>rfl| cons h t ih=>rw[VQ,VQ,ih,h.1]
theorem KV.repl (r:KV kvs vs) (k:κ) (ry:RelV y u) :
 KV (kvs.map λkv=>if kv.1=k then (kv.1,y) else kv) (vs.map λkv=>if kv.1=k then (kv.1,u) else kv):=by
 unfold KV at r ⊢
 induction r with
 | nil=>exact .nil
 | @cons p q ps qs h t ih =>
  rw[Tw,Tw];refine .cons ?_ ih;obtain ⟨h1,h2⟩:=h
  by_cases e:p.1=k
  rw[if_pos e,if_pos (h1.symm.trans e)];exact ⟨h1,ry⟩;rw[if_neg e,if_neg (λz=>e (h1.trans z))];exact ⟨h1,h2⟩
theorem KV.put (r:KV kvs vs) (k:κ) (ry:RelV y u):KV (putK kvs k y) (stored vs k u):=by
 unfold putK stored;rw[r.any k]
 by_cases e:(vs.any λkv=>decide (kv.1=k))=ah
 rw[if_pos e,if_pos e];exact r.repl k ry;rw[if_neg e,if_neg e];exact Paired.snoc r ⟨rfl,ry⟩
end
theorem A7 (r:RelV (kV k) u):(dB P w).is k u=ah:=by
 cases k with
 | inl i=>obtain ⟨t,e⟩:=(show ∃ t,u=Xs i t from r);subst e;exact tM P w i t| inr x=>obtain ⟨t,e⟩:=(show ∃ t,u=Ww x t from r);subst e;exact fF P w x t
section
variable {P:Td}{w:Tz}{H:Hp}{h:au}{a:S6}
theorem L7 (ok:HOk P w H h) (e:Rd H a u):gn P w H h a u:=e.ok ok
theorem L8 (ok:HOk P w H h) (e:Rd H a (.dK kvs)):kvs.length<=ak/\(a==UV)=ai/\∃ vs,KV kvs vs/\h.DictOf (dB P w) a vs :=
 show gn P w H h a (.dK kvs) from L7 ok e
end
section
variable {X:Cx}{zt:List (S6×aq)}{σ:St}{H:Hp}{s:SL}{a:S6}{y v:V}{u r:aA}{o:Option V}{A:Ub}{E:aA->SL->Prop}
theorem Inv.big (I:Inv X zt σ H s):UV < s.heap.objs.size:=by have h:S7 < s.heap.objs.size:=(I.mod.glob.keeps I.bk).lt;exact WK (by decide) h
theorem IP (z:kvs.length<=ak) (hd:(a==UV)=ai) (rel:KV kvs vs) (dd:h'.DictOf (dB P w) a vs) :
 gn P w H' h' a (.dK kvs):=⟨z,hd,vs,rel,dd⟩
end
end L2
end
section
namespace BT
open PySem PySem.W PyProof.Rows
noncomputable def Ends {α:Type} (n:Nat) (P:α->Prop):KasT α->Prop
 | .ret a=>P a| .ask i j k=>i < n/\j < n/\∀ b,Ends n P (k b)
end BT
end
section
namespace BS
open PySem PySem.W PySem.Spec PyProof.Rows
section
variable {E:aA->SL->Prop}
end
end BS
end
section
namespace BX
open PySem PyProof.Rows
section
variable {prog:Td}{w:Tz}{A:Ub}{E:aA->SL->Prop}{s:SL}
end
section
variable {prog:Td}{w:Tz}{A:Ub}{E:aA->SL->Prop}{R:Result->SL->Prop}
end
section
variable {prog:Td}{w:Tz}{A:Ub}{E:aA->SL->Prop}{s:SL}
end
section
variable {prog:Td}{w:Tz}{A:Ub}{E:aA->SL->Prop}{s:SL}
end
end BX
end
section
namespace BX
open PySem PySem.Spec PyProof.Rows
section
variable {prog:Td}{w:Tz}{A:Ub}{E:aA->SL->Prop}{h:au}{g:Array GenState}{d:Drawn}{t:Nat}{os:OsState}{a:S6}{o:aq}
end
section
variable {prog:Td}{w:Tz}{K:Type} [DecidableEq K] {knd:KeyKind prog w K}{A:Ub}{E:aA->SL->Prop}{s:SL}
end
end BX
end
section
namespace BT
open PySem
theorem dS {P:Prop} (h:ai=ah):P:=nomatch h
theorem PU {P:Prop} (h:ah=ai):P:=nomatch h
theorem mO {β:Type}{a:β}{P:Prop} (h:(af:Option β)=aa a):P:=nomatch h
inductive D where
 | non|bl (b:Bool)|int (i:Int)|str (x:az)|tup (xs:List D)|lst (xs:List D)
inductive FK where
 | f (x:az)|m (c x:az)|l (i:Nat)
 deriving DecidableEq
instance:Coe String FK:=⟨λs=>.f (SE s)⟩
inductive Cp where
 | p (d:D)|o (n:Nat)
noncomputable abbrev Ky:=Int ⊕ az
inductive Kd where
 | t (kvs:List (az×D))|l (kvs:List (Ky×D))
inductive W where
 | p (d:D)|r (n:Nat)|k (kvs:Kd)|o (n:Nat)|c (f:FK) (cs:List Cp)|x (c:az)
noncomputable def Cp.w:Cp->W
 | .p d=>.p d| .o n=>.o n
@[simp] theorem Cp.w_p (d:D):Cp.w (.p d)=.p d:=rfl
@[simp] theorem Cp.w_o (n:Nat):Cp.w (.o n)=.o n:=rfl
noncomputable def xw:W->Option Cp
 | .p d=>aa (.p d)| .o n=>aa (.o n)| .r _=>af| .k _=>af| .c _ _=>af| .x _=>af
@[simp] theorem Oo (d:D):xw (.p d)=aa (.p d):=rfl
@[simp] theorem Oq (n:Nat):xw (.o n)=aa (.o n):=rfl
inductive Cl where
 | l (xs:List D)|o (c:az) (fs:List (az×W))|d (kvs:List (Ky×D))|z
noncomputable abbrev HH:=List Cl
noncomputable abbrev Sl:=List (Option W)
set_option genInjectivity false in
inductive Bin where
 | add|sub|mul|mod|fdiv
set_option genInjectivity false in
inductive Cm where
 | eq|ne|lt|le|gt|ge|isN|notN|mem
set_option genInjectivity false in
inductive Sr where
 | seq|rng1|rng2|rev|enu|zip2|rng3|itm|chs|zipG
inductive Bi where
 | len|int|str|list|tuple|all|isInt|isBool|isStr|isTuple|max2
 | sset
set_option genInjectivity false in
inductive Me where
 | append|pop|extend|tindex|sindex|dget|count|lindex
inductive Tx where
 | join|split|str|intS|all|inS|ninS|dget|pre
inductive Dk where
 | of|ks|so|it
set_option genInjectivity false in
mutual
inductive E where
 | var (i:Nat)
 | cst (d:D)
 | glo (x:az)
 | bin (o:Bin) (a b:E)
 | neg (a:E)
 | not (a:E)
 | and (a b:E)
 | or (a b:E)
 | cmp (o:Cm) (a b:E)
 | chain (o o':Cm) (a b c:E)
 | ite (c a b:E)
 | tup (as:Es)
 | lst (mu:Bool) (as:Es)
 | idx (a i:E)
 | slc (a:E) (lo hi:Es)
 | rvs (a:E)
 | stp (mu:Bool) (k:Int) (a:E)
 | call (f:az) (as:Es)
 | fld (a:E) (f:az)
 | meth (o:E) (m:az) (as:Es)
 | make (c:az) (as:Es)
 | bi (b:Bi) (mu:Bool) (as:Es)
 | me (m:Me) (o:E) (as:Es)
 | comp (mu:Bool) (sr:Sr) (sa:Es) (tg:List az) (fv:List (Nat×az)) (cond:Es) (elt:E)
 | callv (i:Nat) (as:Es)
 | methL (o:E) (m:az) (as:Es) (L:Nat) (fv:List (Nat×az))
 | isx (c:az) (a:E)
 | tx (k:Tx) (as:Es)
 | dlit (kvs:List (az×D))
inductive Es where
 | nil
 | cons (a:E) (as:Es)
end
set_option genInjectivity false in
inductive S where
 | nil
 | seq (a b:S)
 | set (i:Nat) (e:E)
 | unp (xs:List (Nat×az)) (e:E)
 | aug (i:Nat) (o:Bin) (e:E)
 | put (i:Nat) (k e:E)
 | setf (o:E) (f:az) (e:E)
 | augf (o:E) (f:az) (op:Bin) (e:E)
 | ex (e:E)
 | ret (e:E)
 | ife (c:E) (a b:S)
 | whl (c:E) (b:S)
 | for (tg:List (Nat×az)) (sr:Sr) (sa:Es) (b:S)
 | brk|cnt
 | bad
 | rai (c:az) (e:E)
set_option genInjectivity false in
structure Fn where
 ps:List az
 ns:List az
 body:S
noncomputable abbrev Z9 (a:E):Es:=.cons a .nil
noncomputable abbrev Z8 (a b:E):Es:=.cons a (.cons b .nil)
noncomputable abbrev Z7 (a b c:E):Es:=.cons a (.cons b (.cons c .nil))
noncomputable abbrev Z6 (a b c d:E):Es:=.cons a (.cons b (.cons c (.cons d .nil)))
noncomputable abbrev Z5 (a b c d e:E):Es:=.cons a (.cons b (.cons c (.cons d (.cons e .nil))))
noncomputable abbrev Z0 (a b c d e f:E):Es:=.cons a (.cons b (.cons c (.cons d (.cons e (.cons f .nil)))))
noncomputable abbrev ZY (a b c d e f g h:E):Es:=.cons a (.cons b (.cons c (.cons d (.cons e (.cons f (.cons g (.cons h .nil)))))))
noncomputable def bnd {α β:Type} (x:Option (α×HH)) (k:α->HH->Option β):Option β :=
 match x with|some (a,h)=>k a h|none=>af
@[simp] theorem cZ (a:α) (h:HH) (k:α->HH->Option β):bnd (aa (a,h)) k=k a h:=rfl
@[simp] theorem Ma (k:α->HH->Option β):bnd af k=af:=rfl
@[simp] noncomputable def lim:Nat:=100000
mutual
@[simp] noncomputable def eqv:D->D->Bool
 | .non,.non=>ah| .bl a,.bl b=>a==b| .bl a,.int j=>(if a then (1:Int) else 0)==j| .int i,.bl b=>i==(if b then (1:Int) else 0)| .int i,.int j=>i==j| .str x,.str y=>x==y| .tup xs,.tup ys=>pY xs ys| .lst xs,.lst ys=>pY xs ys| _,_=>ai
@[simp] noncomputable def pY:List D->List D->Bool
 | [],[]=>ah| x::xs,y::ys=>eqv x y&&pY xs ys| _,_=>ai
end
noncomputable def ua:Cl->Option (List D)
 | .l xs=>aa xs| .o _ _=>af| .d _=>af| .z=>af
noncomputable def vF:Cl->Option (az×List (az×W))
 | .l _=>af| .o c fs=>aa (c,fs)| .d _=>af| .z=>af
noncomputable def A8:Cl->Option (List (Ky×D))
 | .l _=>af| .o _ _=>af| .d kvs=>aa kvs| .z=>af
@[simp] theorem PV (kvs:List (Ky×D)):ua (.d kvs)=af:=rfl
@[simp] theorem PY (kvs:List (Ky×D)):vF (.d kvs)=af:=rfl
@[simp] theorem P0 (kvs:List (Ky×D)):A8 (.d kvs)=aa kvs:=rfl
@[simp] theorem P1:ua .z=af:=rfl
@[simp] theorem P4:vF .z=af:=rfl
@[simp] theorem P5:A8 .z=af:=rfl
@[simp] theorem P6 (xs:List D):A8 (.l xs)=af:=rfl
@[simp] theorem P7 (c:az) (fs:List (az×W)):A8 (.o c fs)=af:=rfl
@[simp] theorem P8 (xs:List D):ua (.l xs)=aa xs:=rfl
@[simp] theorem P9 (c:az) (fs:List (az×W)):ua (.o c fs)=af:=rfl
@[simp] theorem Qa (xs:List D):vF (.l xs)=af:=rfl
@[simp] theorem Qc (c:az) (fs:List (az×W)):vF (.o c fs)=aa (c,fs):=rfl
noncomputable def lat (h:HH) (n:Nat):Option (List D):=(h[n]?).bind ua
noncomputable def oat (h:HH) (n:Nat):Option (az×List (az×W)):=(h[n]?).bind vF
noncomputable def dat (h:HH) (n:Nat):Option (List (Ky×D)):=(h[n]?).bind A8
noncomputable def pZ:D->Option Ky
 | .non=>af| .bl _=>af| .int i=>aa (.inl i)| .str x=>aa (.inr x)| .tup _=>af| .lst _=>af
@[simp] theorem Mb (i:Int):pZ (.int i)=aa (.inl i):=rfl
@[simp] theorem Mc (x:az):pZ (.str x)=aa (.inr x):=rfl
noncomputable def A9:Ky->D
 | .inl i=>.int i| .inr x=>.str x
@[simp] theorem Qd (i:Int):A9 (.inl i)=.int i:=rfl
@[simp] theorem Qe (x:az):A9 (.inr x)=.str x:=rfl
noncomputable def ff (kvs:List (Ky×D)) (k:Ky):Option D:=(kvs.find? λkv=>decide (kv.1=k)).map (·.2)
noncomputable def oz (kvs:List (Ky×D)) (k:Ky) (v:D):List (Ky×D) :=
 if (kvs.any λkv=>decide (kv.1=k))=ah then kvs.map (λkv=>if kv.1=k then (kv.1,v) else kv) else kvs++[(k,v)]
noncomputable def rd (w:W) (h:HH):Option D:=match w with
 | .p d=>aa d| .r n=>(lat h n).map D.lst| .k _=>af| .o _=>af| .c _ _=>af| .x _=>af
@[simp] theorem Qf (d:D) (h:HH):rd (.p d) h=aa d:=rfl
noncomputable def big (i:Int):Bool:=decide (i.natAbs < 2 ^ 64)
noncomputable def rep (k:Nat) (xs:List D):List D:=(Te k xs).flatten
noncomputable def iF:Bin->D->D->Option D
 | .add,.int i,.int j=>aa (.int (i+j))
 | .add,.str x,.str y=>if x.length+y.length<=lim then aa (.str (x++y)) else af
 | .add,.tup xs,.tup ys=>if xs.length+ys.length<=lim then aa (.tup (xs++ys)) else af
 | .add,.lst xs,.lst ys=>if xs.length+ys.length<=lim then aa (.lst (xs++ys)) else af
 | .sub,.int i,.int j=>aa (.int (i - j))
 | .mul,.int i,.int j=>if big i||big j then aa (.int (i*j)) else af
 | .mul,.tup xs,.int k=>if 2<=k&&k<=1000&&!xs.isEmpty&&xs.length*k.toNat<=lim then aa (.tup (rep k.toNat xs)) else af
 | .mul,.lst xs,.int k=>if -1000<=k&&k<=1000&&xs.length*k.toNat<=lim then aa (.lst (rep k.toNat xs)) else af
 | .mod,.int i,.int j=>if 0 < j then aa (.int (i % j)) else af
 | .fdiv,.int i,.int j=>if 0 < j&&j < 1073741824 then aa (.int (i / j)) else af
 | _,_,_=>af
noncomputable def qY:Bin->D->D->Option D
 | .add,.int i,.int j=>aa (.int (i+j))| .sub,.int i,.int j=>aa (.int (i - j))
 | .mul,.int i,.int j=>if big i||big j then aa (.int (i*j)) else af
 | _,_,_=>af
@[simp] theorem Mf (i j:Int):qY .add (.int i) (.int j)=aa (.int (i+j)):=rfl
@[simp] theorem Mg (i j:Int):qY .sub (.int i) (.int j)=aa (.int (i - j)):=rfl
@[simp] theorem uc (i j:Int):qY .mul (.int i) (.int j)=if big i||big j then aa (.int (i*j)) else af:=rfl
@[simp] noncomputable def place (n:Nat) (i:Int):Option Nat :=
 if 0<=i then (if i < n then aa i.toNat else af) else if -(n:Int)<=i then aa (i+n).toNat else af
@[simp] noncomputable def atP {α:Type} (xs:List α) (i:Int):Option α:=(place xs.length i).bind λj=>xs[j]?
@[simp] noncomputable def dU (k:az):List (az×D)->Option D
 | []=>af
 | (x,d)::r=>if k=x then aa d else dU k r
noncomputable def fE:D->D->Option D
 | .tup xs,.int i=>atP xs i| .lst xs,.int i=>atP xs i
 | .str x,.int i=>if x.length<=lim then (atP x.cps.toList i).map λc=>.str ⟨#[c]⟩ else af
 | _,_=>af
@[simp] noncomputable def clip (n d:Nat):Option Int->Nat
 | none=>d
 | some v=>if v < 0 then (v+(n:Int)).toNat else if v<=(n:Int) then v.toNat else n
@[simp] noncomputable def cut (xs:List D) (lo hi:Option Int):List D:=(xs.drop (clip xs.length 0 lo)).take (clip xs.length xs.length hi - clip xs.length 0 lo)
@[simp] noncomputable def qZ:List D->Option (Option Int)
 | []=>aa af| [.int i]=>aa (aa i)| _=>af
noncomputable def nF (x:D) (lo hi:Option Int):Option D:=match x with
 | .tup xs=>aa (.tup (cut xs lo hi))| .lst xs=>aa (.lst (cut xs lo hi))| _=>af
noncomputable def dok:Nat->D->Bool
 | _,.non=>ah| _,.bl _=>ah| _,.int _=>ah| _,.str _=>ah| 0,.tup _=>ai| 0,.lst _=>ai| n+1,.tup xs=>xs.all (dok n)| n+1,.lst xs=>xs.all (dok n)
@[simp] theorem Os (n:Nat):dok n .non=ah:=by cases n<;>rfl
@[simp] theorem Qg (n:Nat) (b:Bool):dok n (.bl b)=ah:=by cases n<;>rfl
@[simp] theorem Ot (n:Nat) (i:Int):dok n (.int i)=ah:=by cases n<;>rfl
@[simp] theorem EM (n:Nat) (x:az):dok n (.str x)=ah:=by cases n<;>rfl
@[simp] theorem rf (n:Nat) (xs:List D):dok (n+1) (.tup xs)=xs.all (dok n):=rfl
@[simp] theorem EO (n:Nat) (xs:List D):dok (n+1) (.lst xs)=xs.all (dok n):=rfl
noncomputable def fL (x y:D):Bool:=dok 100 x||dok 100 y
@[simp] theorem Mh (x:D) (y:az):fL x (.str y)=ah:=by simp[fL]
@[simp] theorem Mi (x:D) (y:Int):fL x (.int y)=ah:=by simp[fL]
@[simp] theorem zO (x:D) (y:az):fL (.str y) x=ah:=by simp[fL]
@[simp] theorem K3 (x:D) (y:Int):fL (.int y) x=ah:=by simp[fL]
@[simp] theorem K4 (x:D):fL x (.tup [])=ah:=by simp[fL,dok]
@[simp] theorem zP (x:D):fL x (.lst [])=ah:=by simp[fL,dok]
@[simp] theorem Ou (x:D) (b:Bool):fL x (.bl b)=ah:=by simp[fL]
theorem rg (h:dok 100 y=ah):fL x y=ah:=by simp[fL,h]
noncomputable def ig:D->Bool
 | .non=>ah| .bl _=>ai| .int _=>ai| .str _=>ai| .tup _=>ai| .lst _=>ai
@[simp] theorem K5:ig .non=ah:=rfl
@[simp] theorem Mj (z:Bool):ig (.bl z)=ai:=rfl
@[simp] theorem K6 (z:Int):ig (.int z)=ai:=rfl
@[simp] theorem K7 (z:az):ig (.str z)=ai:=rfl
@[simp] theorem K8 (z:List D):ig (.tup z)=ai:=rfl
@[simp] theorem K9 (z:List D):ig (.lst z)=ai:=rfl
noncomputable def rj (b:Bool):D->Bool
 | .non=>ai| .bl c=>c==b| .int _=>ai| .str _=>ai| .tup _=>ai| .lst _=>ai
@[simp] theorem Ml (b:Bool):rj b .non=ai:=rfl
@[simp] theorem Ow (b z:Bool):rj b (.bl z)=(z==b):=rfl
@[simp] theorem Mm (b:Bool) (z:Int):rj b (.int z)=ai:=rfl
@[simp] theorem Mn (b:Bool) (z:az):rj b (.str z)=ai:=rfl
@[simp] theorem Mp (b:Bool) (z:List D):rj b (.tup z)=ai:=rfl
@[simp] theorem Mq (b:Bool) (z:List D):rj b (.lst z)=ai:=rfl
noncomputable def gR:Cm->D->D->Option Bool
 | .eq,x,y=>if fL x y then aa (eqv x y) else af
 | .ne,x,y=>if fL x y then aa (!eqv x y) else af
 | .lt,.int i,.int j=>aa (decide (i < j))| .le,.int i,.int j=>aa (decide (i<=j))| .gt,.int i,.int j=>aa (decide (j < i))| .ge,.int i,.int j=>aa (decide (j<=i))| .isN,x,.non=>aa (ig x)| .notN,x,.non=>aa (!ig x)| .notN,x,.bl b=>aa (!rj b x)
 | .mem,x,.tup ys=>if ys.all λy=>fL y x then aa (ys.any λy=>eqv y x) else af
 | .mem,x,.lst ys=>if ys.all λy=>fL y x then aa (ys.any λy=>eqv y x) else af
 | _,_,_=>af
@[simp] noncomputable def intsOf:List D->Option (List Int)
 | []=>aa []| .int i::r=>(intsOf r).map (i :: ·)| _=>af
@[simp] noncomputable def allB:List D->Option Bool
 | []=>aa ah
 | .bl b::r=>if b then allB r else aa ai
 | _=>af
@[simp] noncomputable def anyB:List D->Option Bool
 | []=>aa ai
 | .bl b::r=>if b then aa ah else anyB r
 | _=>af
noncomputable def isI:D->Bool
 | .non=>ai| .bl _=>ah| .int _=>ah| .str _=>ai| .tup _=>ai| .lst _=>ai
@[simp] theorem Ox:isI .non=ai:=rfl
@[simp] theorem Qh (z:Bool):isI (.bl z)=ah:=rfl
@[simp] theorem Oz (z:Int):isI (.int z)=ah:=rfl
@[simp] theorem OA (z:az):isI (.str z)=ai:=rfl
@[simp] theorem OB (z:List D):isI (.tup z)=ai:=rfl
@[simp] theorem OC (z:List D):isI (.lst z)=ai:=rfl
noncomputable def isB:D->Bool
 | .non=>ai| .bl _=>ah| .int _=>ai| .str _=>ai| .tup _=>ai| .lst _=>ai
@[simp] theorem OD:isB .non=ai:=rfl
@[simp] theorem Qi (z:Bool):isB (.bl z)=ah:=rfl
@[simp] theorem OE (z:Int):isB (.int z)=ai:=rfl
@[simp] theorem OF (z:az):isB (.str z)=ai:=rfl
@[simp] theorem OG (z:List D):isB (.tup z)=ai:=rfl
@[simp] theorem OH (z:List D):isB (.lst z)=ai:=rfl
noncomputable def isS:D->Bool
 | .non=>ai| .bl _=>ai| .int _=>ai| .str _=>ah| .tup _=>ai| .lst _=>ai
@[simp] theorem OI:isS .non=ai:=rfl
@[simp] theorem Qj (z:Bool):isS (.bl z)=ai:=rfl
@[simp] theorem OJ (z:Int):isS (.int z)=ai:=rfl
@[simp] theorem OL (z:az):isS (.str z)=ah:=rfl
@[simp] theorem OM (z:List D):isS (.tup z)=ai:=rfl
@[simp] theorem ON (z:List D):isS (.lst z)=ai:=rfl
noncomputable def isT:D->Bool
 | .non=>ai| .bl _=>ai| .int _=>ai| .str _=>ai| .tup _=>ah| .lst _=>ai
@[simp] theorem OO:isT .non=ai:=rfl
@[simp] theorem Qk (z:Bool):isT (.bl z)=ai:=rfl
@[simp] theorem OP (z:Int):isT (.int z)=ai:=rfl
@[simp] theorem OQ (z:az):isT (.str z)=ai:=rfl
@[simp] theorem OR (z:List D):isT (.tup z)=ah:=rfl
@[simp] theorem OS (z:List D):isT (.lst z)=ai:=rfl
noncomputable def isL:D->Bool
 | .non=>ai| .bl _=>ai| .int _=>ai| .str _=>ai| .tup _=>ai| .lst _=>ah
noncomputable def sortI (ns:List Int):List Int:=ns.mergeSort λa b=>decide (a<=b)
noncomputable def So:List Int->Option Int
 | []=>af| n::ns=>aa (ns.foldl max n)
@[simp] noncomputable def jD:List D->List D->List D
 | x::xs,y::ys=>.tup [x,y]::jD xs ys| _,_=>[]
noncomputable def ded (ns:List Int):List Int:=ns.foldl (fun σ v=>if σ.any (·==v) then σ else σ++[v]) []
noncomputable def RX (a b c:Int):Nat:=if a < b then ((b - a - 1) / c+1).toNat else 0
noncomputable def stepI (a c:Int) (n:Nat):List Int:=(U0 n).map λ(k:Nat)=>a+(k:Int)*c
noncomputable def biD:Bi->List D->Option D
 | .len,[.tup xs]=>aa (.int xs.length)| .len,[.lst xs]=>aa (.int xs.length)
 | .len,[.str x]=>if x.length<=lim then aa (.int x.length) else af
 | .int,[.int i]=>aa (.int i)| .int,[.bl b]=>aa (.int (if b then 1 else 0))
 | .str,[.int i]=>if big i then aa (.str (toString i)) else af
 | .tuple,[.lst xs]=>aa (.tup xs)| .tuple,[.tup xs]=>aa (.tup xs)| .list,[.lst xs]=>aa (.lst xs)| .list,[.tup xs]=>aa (.lst xs)| .all,[.lst xs]=>(allB xs).map .bl| .isInt,[x]=>aa (.bl (isI x))| .isBool,[x]=>aa (.bl (isB x))| .isStr,[x]=>aa (.bl (isS x))| .isTuple,[x]=>aa (.bl (isT x))| .max2,[.int i,.int j]=>aa (.int (if j > i then j else i))
 | .sset,[.lst xs]=>(intsOf xs).bind λns=>if ns.length < 64 then aa (.lst ((sortI (ded ns)).map .int)) else af
 | _,_=>af
@[simp] noncomputable def qw:Nat->List D->List D
 | _,[]=>[]| k,x::r=>.tup [.int k,x]::qw (k+1) r
noncomputable def rm:D->Option (List D)
 | .tup xs=>aa xs| .lst xs=>aa xs| _=>af
noncomputable def upto (lo:Int) (n:Nat):List D:=(U0 n).map λ(k:Nat)=>D.int (lo+(k:Int))
noncomputable def down (a:Int) (n:Nat):List D:=(U0 n).map λi=>.int (a - (i:Nat))
noncomputable def nG (x:az):List D:=x.cps.toList.map λc=>.str ⟨#[c]⟩
noncomputable def Ba:D->Option (List D)
 | .tup xs=>aa xs| .lst xs=>aa xs| .str x=>aa (nG x)| _=>af
noncomputable def gu:Sr->List D->Option (List D)
 | .seq,[x]=>rm x
 | .rng1,[.int n]=>if -100000<=n&&n<=100000 then aa (upto 0 n.toNat) else af
 | .rng2,[.int a,.int b]=>if -100000<=a&&a<=100000&&-100000<=b&&b<=100000 then aa (upto a (b - a).toNat) else af
 | .rev,[.lst xs]=>aa xs.reverse| .enu,[.lst xs]=>aa (qw 0 xs)| .zip2,[.lst xs,.lst ys]=>aa (jD xs ys)| .itm,[.lst xs]=>aa xs| .chs,[.str x]=>aa (nG x)
 | .zipG,[x,y]=>(Ba x).bind λxs=>(Ba y).map (jD xs)
 | .rng3,[.int a,.int b,.int c]=>if c=-1/\-100000<=a/\a<=100000/\-100000<=b/\b<=100000 then aa (down a (a - b).toNat) else af
 | _,_=>af
@[simp] noncomputable def rz (x:D):List D->Nat->Option Nat
 | [],_=>af
 | y::r,k=>if eqv y x then aa k else rz x r (k+1)
@[simp] noncomputable def Mr (c:Nat):List Nat->Nat->Option Nat
 | [],_=>af
 | y::r,k=>if y=c then aa k else Mr c r (k+1)
@[simp] noncomputable def eW:List W->Option (List D)
 | []=>aa []| .p d::r=>(eW r).map (d :: ·)| .r _::_=>af| .k _::_=>af| .o _::_=>af| .c _ _::_=>af| .x _::_=>af
noncomputable def meD:Me->D->List D->Option D
 | .tindex,.tup xs,[x]=>if xs.all λy=>fL y x then (rz x xs 0).map λ(q:Nat)=>D.int (q:Int) else af
 | .sindex,.str x,[.str y]=>match Vi x y 0 x.length 1 with
  | i::_=>aa (.int (i:Int))| []=>af
 | .count,.lst xs,[x]=>if xs.all λy=>fL y x then aa (.int ((xs.countP λy=>eqv y x:Nat):Int)) else af
 | .lindex,.lst xs,[x]=>if xs.all λy=>fL y x then (rz x xs 0).map λ(q:Nat)=>D.int (q:Int) else af
 | _,_,_=>af
noncomputable def meW (m:Me) (o:W) (as:List W) (h:HH):Option (W×HH):=match m,o,as with
 | .append,.r n,[.p d]=>match lat h n with
  | some xs=>if xs.length < lim then aa (.p .non,h.set n (.l (xs++[d]))) else af
  | none=>af
 | .pop,.r n,[]=>match lat h n with
  | some xs=>match xs.getLast? with
   | some d=>aa (.p d,h.set n (.l xs.dropLast))| none=>af
  | none=>af
 | .extend,.r n,[w]=>match lat h n,(rd w h).bind rm with
  | some xs,aa ys=>if xs.length+ys.length<=lim then aa (.p .non,h.set n (.l (xs++ys))) else af
  | _,_=>af
 | .dget,.k (.t kvs),[.p (.str x)]=>aa (.p ((dU x kvs).getD .non),h)| .dget,.k (.t _),[.p .non]=>aa (.p .non,h)| .dget,.k (.t kvs),[.p (.str x),.p d]=>aa (.p ((dU x kvs).getD d),h)
 | m,.p d,as=>match eW as with
  | some ds=>(meD m d ds).map λx=>(.p x,h)
  | none=>af
 | _,_,_=>af
section
variable (n:Nat) (d:D) (h:HH) (kvs:List (az×D)) (x:az) (as:List W)
@[simp] theorem vG:meW .append (.r n) [.p d] h=match lat h n with
 | some xs=>if xs.length < lim then aa (.p .non,h.set n (.l (xs++[d]))) else af
 | none=>af:=rfl
@[simp] theorem ER:meW .pop (.r n) [] h=match lat h n with
 | some xs=>match xs.getLast? with
  | some d=>aa (.p d,h.set n (.l xs.dropLast))| none=>af
 | none=>af:=rfl
@[simp] theorem vH (w:W):meW .extend (.r n) [w] h=match lat h n,(rd w h).bind rm with
 | some xs,aa ys=>if xs.length+ys.length<=lim then aa (.p .non,h.set n (.l (xs++ys))) else af
 | _,_=>af:=rfl
@[simp] theorem IQ:meW .tindex (.p d) as h=match eW as with
 | some ds=>(meD .tindex d ds).map λx=>(.p x,h)
 | none=>af:=rfl
@[simp] theorem La:meW .count (.p d) as h=match eW as with
 | some ds=>(meD .count d ds).map λx=>(.p x,h)
 | none=>af:=rfl
@[simp] theorem IR:meW .lindex (.p d) as h=match eW as with
 | some ds=>(meD .lindex d ds).map λx=>(.p x,h)
 | none=>af:=rfl
@[simp] theorem IS:meW .sindex (.p d) as h=match eW as with
 | some ds=>(meD .sindex d ds).map λx=>(.p x,h)
 | none=>af:=rfl
end
noncomputable def new (mu:Bool) (xs:List D) (h:HH):W×HH:=if mu then (.r h.length,h++[.l xs]) else (.p (.lst xs),h)
@[simp] theorem RY (xs:List D) (h:HH):new ai xs h=(.p (.lst xs),h):=rfl
@[simp] theorem RZ (xs:List D) (h:HH):new ah xs h=(.r h.length,h++[.l xs]):=rfl
@[simp] noncomputable def rds (ws:List W) (h:HH):Option (List D):=match ws with
 | []=>aa []
 | w::r=>(rd w h).bind λd=>(rds r h).map (d :: ·)
noncomputable def unpack (n:Nat):D->Option (List D)
 | .tup xs=>if xs.length=n then aa xs else af
 | .lst xs=>if xs.length=n then aa xs else af
 | _=>af
noncomputable def target (n:Nat) (d:D):Option (List D):=if n=1 then aa [d] else unpack n d
section
variable (i j k a b:Int) (c:Bool) (x y:az) (xs ys:List D) (kvs:List (az×D)) (d e:D) (lo hi:Option Int)
@[simp] theorem ud:iF .add (.int i) (.int j)=aa (.int (i+j)):=rfl
@[simp] theorem iw:iF .add (.str x) (.str y)=if x.length+y.length<=lim then aa (.str (x++y)) else af:=rfl
@[simp] theorem oA:iF .add (.tup xs) (.tup ys)=if xs.length+ys.length<=lim then aa (.tup (xs++ys)) else af:=rfl
@[simp] theorem eY:iF .add (.lst xs) (.lst ys)=if xs.length+ys.length<=lim then aa (.lst (xs++ys)) else af:=rfl
@[simp] theorem oE:iF .sub (.int i) (.int j)=aa (.int (i - j)):=rfl
@[simp] theorem ue:iF .mul (.int i) (.int j)=if big i||big j then aa (.int (i*j)) else af:=rfl
@[simp] theorem oF:iF .mul (.tup xs) (.int k)=if 2<=k&&k<=1000&&!xs.isEmpty&&xs.length*k.toNat<=lim then aa (.tup (rep k.toNat xs)) else af:=rfl
@[simp] theorem oG:iF .mul (.lst xs) (.int k)=if -1000<=k&&k<=1000&&xs.length*k.toNat<=lim then aa (.lst (rep k.toNat xs)) else af:=rfl
@[simp] theorem oH:iF .mod (.int i) (.int j)=if 0 < j then aa (.int (i % j)) else af:=rfl
@[simp] theorem mP:iF .fdiv (.int i) (.int j)=if 0 < j&&j < 1073741824 then aa (.int (i / j)) else af:=rfl
@[simp] theorem gw:fE (.tup xs) (.int i)=atP xs i:=rfl
@[simp] theorem dG:fE (.lst xs) (.int i)=atP xs i:=rfl
@[simp] theorem jE:fE (.str x) (.int i)=if x.length<=lim then (atP x.cps.toList i).map λc=>.str ⟨#[c]⟩ else af:=rfl
@[simp] theorem jd:nF (.tup xs) lo hi=aa (.tup (cut xs lo hi)):=rfl
@[simp] theorem kP:nF (.lst xs) lo hi=aa (.lst (cut xs lo hi)):=rfl
@[simp] theorem xy:gR .eq d e=if fL d e then aa (eqv d e) else af:=rfl
@[simp] theorem rA:gR .ne d e=if fL d e then aa (!eqv d e) else af:=rfl
@[simp] theorem rC:gR .lt (.int i) (.int j)=aa (decide (i < j)):=rfl
@[simp] theorem rD:gR .le (.int i) (.int j)=aa (decide (i<=j)):=rfl
@[simp] theorem rE:gR .gt (.int i) (.int j)=aa (decide (j < i)):=rfl
@[simp] theorem rF:gR .ge (.int i) (.int j)=aa (decide (j<=i)):=rfl
@[simp] theorem oJ:gR .isN d .non=aa (ig d):=rfl
@[simp] theorem mQ:gR .notN d .non=aa (!ig d):=rfl
@[simp] theorem zQ {b:Bool}:gR .notN d (.bl b)=aa (!rj b d):=rfl
@[simp] theorem eZ:gR .mem d (.tup ys)=if ys.all λy=>fL y d then aa (ys.any λy=>eqv y d) else af:=rfl
@[simp] theorem kQ:gR .mem d (.lst ys)=if ys.all λy=>fL y d then aa (ys.any λy=>eqv y d) else af:=rfl
@[simp] theorem dY:biD .len [.tup xs]=aa (.int xs.length):=rfl
@[simp] theorem Lb:biD .len [.lst xs]=aa (.int xs.length):=rfl
@[simp] theorem zR:biD .len [.str x]=if x.length<=lim then aa (.int x.length) else af:=rfl
@[simp] theorem OT:biD .int [.int i]=aa (.int i):=rfl
@[simp] theorem Lc:biD .int [.bl c]=aa (.int (if c then 1 else 0)):=rfl
@[simp] theorem OU:biD .str [.int i]=if big i then aa (.str (toString i)) else af:=rfl
@[simp] theorem G9:biD .tuple [.lst xs]=aa (.tup xs):=rfl
@[simp] theorem Hf:biD .tuple [.tup xs]=aa (.tup xs):=rfl
@[simp] theorem IT:biD .list [.lst xs]=aa (.lst xs):=rfl
@[simp] theorem IU:biD .list [.tup xs]=aa (.lst xs):=rfl
@[simp] theorem OV:biD .all [.lst xs]=(allB xs).map .bl:=rfl
@[simp] theorem Ld:biD .isInt [d]=aa (.bl (isI d)):=rfl
@[simp] theorem IV:biD .isBool [d]=aa (.bl (isB d)):=rfl
@[simp] theorem Lf:biD .isStr [d]=aa (.bl (isS d)):=rfl
@[simp] theorem Hg:biD .isTuple [d]=aa (.bl (isT d)):=rfl
@[simp] theorem OW:biD .max2 [.int i,.int j]=aa (.int (if j > i then j else i)):=rfl
@[simp] theorem Ql:rm (.tup xs)=aa xs:=rfl
@[simp] theorem Qm:rm (.lst xs)=aa xs:=rfl
@[simp] theorem Bb:gu .seq [d]=rm d:=rfl
@[simp] theorem zS:gu .rng1 [.int a]=if -100000<=a&&a<=100000 then aa (upto 0 a.toNat) else af:=rfl
@[simp] theorem Lg:gu .rng2 [.int a,.int b]=if -100000<=a&&a<=100000&&-100000<=b&&b<=100000 then aa (upto a (b - a).toNat) else af:=rfl
@[simp] theorem Ms:gu .rev [.lst xs]=aa xs.reverse:=rfl
@[simp] theorem Mt {x:az}:gu .chs [.str x]=aa (nG x):=rfl
@[simp] theorem jU {x y:D}:gu .zipG [x,y]=(Ba x).bind λxs=>(Ba y).map (jD xs):=rfl
@[simp] theorem Mu:gu .itm [.lst xs]=aa xs:=rfl
@[simp] theorem IW:meD .tindex (.tup xs) [d]=if xs.all λy=>fL y d then (rz d xs 0).map λ(q:Nat)=>D.int (q:Int) else af:=rfl
@[simp] theorem uf (n:Nat):unpack n (.lst xs)=if xs.length=n then aa xs else af:=rfl
@[simp] theorem ug (n:Nat):unpack n (.tup xs)=if xs.length=n then aa xs else af:=rfl
end
@[simp] theorem uh (d:D):target 1 d=aa [d]:=rfl
@[simp] theorem Mv (d:D):target 2 d=unpack 2 d:=rfl
noncomputable def xA (o:Option D) (out:List D) (h:HH):Option (List D×HH):=aa (match o with|some x=>x::out|none=>out,h)
noncomputable def kG (r:HH->Option (List D×HH)) (o:Option D) (h:HH):Option (List D×HH):=bnd (r h) (xA o)
@[simp] theorem Mw (o:Option D) (out:List D) (h:HH):xA o out h=aa (match o with|some x=>x::out|none=>out,h):=rfl
@[simp] theorem gc (r:HH->Option (List D×HH)) (o:Option D) (h:HH):kG r o h=bnd (r h) (xA o):=rfl
noncomputable def dj (f:List D->HH->Option (Option D×HH)) (n:Nat):List D->HH->Option (List D×HH)
 | [],h=>aa ([],h)
 | d::r,h=>match target n d with
  | some ds=>bnd (f ds h) (kG (dj f n r))| none=>af
noncomputable def fR (d:D):Option W:=aa (.p d)
noncomputable abbrev EH:=HH->Option (W×HH)
noncomputable abbrev OpW:=W->W->HH->Option (W×HH)
@[simp] noncomputable def k2 (eb:EH) (op:OpW) (x:W) (h:HH):Option (W×HH):=bnd (eb h) (op x)
@[simp] noncomputable def rG (o:Bin) (x y:W) (h:HH):Option (W×HH):=match rd x h,rd y h with
 | some d,aa e=>(iF o d e).map λz=>(.p z,h)
 | _,_=>af
noncomputable def inT (o:Cm) (x:W) (kvs:List (az×D)):Option Bool:=match o,x with
 | .mem,.p (.str s)=>aa (dU s kvs).isSome| .mem,.p .non=>aa ai| _,_=>af
noncomputable def inL (o:Cm) (x:W) (kvs:List (Ky×D)):Option Bool:=match o,x with
 | .mem,.p d=>(pZ d).map λk=>(ff kvs k).isSome
 | _,_=>af
noncomputable def inK (o:Cm) (x:W) (q:Kd):Option Bool:=match q with
 | .t kvs=>inT o x kvs| .l kvs=>inL o x kvs
noncomputable def memC:Cm->Bool
 | .mem=>ah| _=>ai
theorem oK {o:Cm}{x:W}{q:Kd}{b:Bool} (h:memC o=ai):¬ inK o x q=aa b:=by intro e;cases o<;>first|exact PU h|exact mO e|(cases q<;>first|exact mO e|(cases x<;>exact mO e))
@[simp] noncomputable def lK (o:Cm) (x y:W) (h:HH):Option (W×HH):=match y with
 | .k kvs=>(inK o x kvs).map λz=>(.p (.bl z),h)
 | y=>match rd x h,rd y h with
  | some d,aa e=>(gR o d e).map λz=>(.p (.bl z),h)
  | _,_=>af
noncomputable def atT (kvs:List (az×D)) (y:W):Option D:=match y with
 | .p (.str s)=>dU s kvs| _=>af
noncomputable def atL (kvs:List (Ky×D)) (y:W):Option D:=match y with
 | .p d=>(pZ d).bind (ff kvs)| _=>af
noncomputable def atK (q:Kd) (y:W):Option D:=match q with
 | .t kvs=>atT kvs y| .l kvs=>atL kvs y
@[simp] theorem R6 (kvs:List (az×D)) (x:az):atK (.t kvs) (.p (.str x))=dU x kvs:=rfl
@[simp] theorem R8 (kvs:List (Ky×D)) (i:Int):atK (.l kvs) (.p (.int i))=ff kvs (.inl i):=rfl
@[simp] theorem Sa (kvs:List (az×D)) (x:az):inK .mem (.p (.str x)) (.t kvs)=aa (dU x kvs).isSome:=rfl
@[simp] theorem Sb (kvs:List (az×D)):inK .mem (.p .non) (.t kvs)=aa ai:=rfl
@[simp] theorem Sd (kvs:List (Ky×D)) (i:Int):inK .mem (.p (.int i)) (.l kvs)=aa (ff kvs (.inl i)).isSome:=rfl
@[simp] noncomputable def ES (x y:W) (h:HH):Option (W×HH):=match x with
 | .k kvs=>(atK kvs y).map λz=>(.p z,h)
 | x=>match rd x h,rd y h with
  | some d,aa e=>(fE d e).map λz=>(.p z,h)
  | _,_=>af
@[simp] noncomputable def ET (x:W) (h:HH):Option (W×HH):=match x with | .p (.int i)=>aa (.p (.int (-i)),h)|_=>af
@[simp] noncomputable def EU (x:W) (h:HH):Option (W×HH):=match x with | .p (.bl b)=>aa (.p (.bl (!b)),h)|_=>af
@[simp] noncomputable def EV (eb:EH) (x:W) (h:HH):Option (W×HH):=match x with | .p (.bl c)=>if c then eb h else aa (.p (.bl ai),h)|_=>af
@[simp] noncomputable def kOr (eb:EH) (x:W) (h:HH):Option (W×HH):=match x with | .p (.bl c)=>if c then aa (.p (.bl ah),h) else eb h|_=>af
@[simp] noncomputable def EW (ea eb:EH) (x:W) (h:HH):Option (W×HH):=match x with | .p (.bl c)=>if c then ea h else eb h|_=>af
@[simp] noncomputable def Mx (o':Cm) (e:D) (z:W) (h:HH):Option (W×HH):=match rd z h with
 | some f=>(gR o' e f).map λr=>(.p (.bl r),h)
 | none=>af
@[simp] noncomputable def oCh (o o':Cm) (ec:EH) (x y:W) (h:HH):Option (W×HH):=match rd x h,y with
 | some d,.p e=>match gR o d e with
  | some ah=>bnd (ec h) (Mx o' e)| some ai=>aa (.p (.bl ai),h)| none=>af
 | _,_=>af
@[simp] noncomputable def IX (ws:List W) (h:HH):Option (W×HH):=match eW ws with|some ds=>if ds.length<=lim then aa (.p (.tup ds),h) else af|none=>af
@[simp] noncomputable def IY (mu:Bool) (ws:List W) (h:HH):Option (W×HH):=match eW ws with|some ds=>if ds.length<=lim then aa (new mu ds h) else af|none=>af
@[simp] noncomputable def Mz (x:W) (l u:List W) (h:HH):Option (W×HH):=match rd x h,(eW l).bind qZ,(eW u).bind qZ with
 | some d,aa l',aa u'=>(nF d l' u').map λz=>(.p z,h)
 | _,_,_=>af
@[simp] noncomputable def MA (eu:HH->Option (List W×HH)) (x:W) (l:List W) (h:HH):Option (W×HH):=bnd (eu h) (Mz x l)
@[simp] noncomputable def MB (el eu:HH->Option (List W×HH)) (x:W) (h:HH):Option (W×HH):=bnd (el h) (MA eu x)
@[simp] noncomputable def Qn (x:W) (h:HH):Option (W×HH):=match x with
 | .p (.tup xs)=>aa (.p (.tup xs.reverse),h)| _=>af
noncomputable def MC (k:Int) (xs:List D):List D:=(sliceRange (Vg af af (aa k) xs.length).1 (Vg af af (aa k) xs.length).2.1 (Vg af af (aa k) xs.length).2.2).filterMap λi=>xs[i]?
@[simp] noncomputable def Qo (mu:Bool) (k:Int) (x:W) (h:HH):Option (W×HH):=match rd x h with
 | some (.lst xs)=>aa (new mu (MC k xs) h)| _=>af
@[simp] noncomputable def kBi (b:Bi) (mu:Bool) (ws:List W) (h:HH):Option (W×HH):=match rds ws h with
 | some ds=>match biD b ds with
  | some d=>if mu then (match d with | .lst xs=>aa (new ah xs h)|_=>af) else aa (.p d,h)
  | none=>af
 | none=>af
noncomputable def oM (x:W) (h:HH):Bool:=match x with
 | .r n=>(lat h n).isSome| .k (.l _)=>ai| _=>ah
@[simp] theorem Qp (n:Nat) (h:HH):oM (.r n) h=(lat h n).isSome:=rfl
@[simp] theorem Qq (d:D) (h:HH):oM (.p d) h=ah:=rfl
@[simp] theorem Qs (d:List (az×D)) (h:HH):oM (.k (.t d)) h=ah:=rfl
@[simp] noncomputable def kMe (m:Me) (ea:HH->Option (List W×HH)) (x:W) (h:HH):Option (W×HH):=if oM x h then bnd (ea h) (meW m x) else af
@[simp] noncomputable def kLs (mu:Bool) (sr:Sr) (ws:List W) (h:HH):Option (W×HH):=match (rds ws h).bind (gu sr) with
 | some ds=>if ds.length<=lim then aa (new mu ds h) else af
 | none=>af
@[simp] noncomputable def gJ (w:W) (h:HH):Option (Option D×HH):=match w with | .p d=>aa (aa d,h)|_=>af
noncomputable def xE (ee:EH) (cs:List W) (h:HH):Option (Option D×HH):=match cs with
 | []=>bnd (ee h) gJ| [.p (.bl ah)]=>bnd (ee h) gJ| [.p (.bl ai)]=>aa (af,h)| _=>af
@[simp] theorem OX (ee:EH) (h:HH):xE ee [] h=bnd (ee h) gJ:=rfl
@[simp] theorem OY (ee:EH) (h:HH):xE ee [.p (.bl ah)] h=bnd (ee h) gJ:=rfl
@[simp] theorem OZ (ee:EH) (h:HH):xE ee [.p (.bl ai)] h=aa (af,h):=rfl
@[simp] noncomputable def dI (ec:Sl->HH->Option (List W×HH)) (ee:Sl->EH) (fs:Sl) (xs:List D) (h:HH):Option (Option D×HH) :=
 bnd (ec (xs.map fR++fs) h) (xE (ee (xs.map fR++fs)))
@[simp] noncomputable def iy (mu:Bool) (out:List D) (h:HH):Option (W×HH):=if out.length<=lim then aa (new mu out h) else af
noncomputable def lM (f:az):List (az×W)->Option W
 | []=>af
 | (x,w)::r=>if f=x then aa w else lM f r
noncomputable def nC (f:az) (w:W):List (az×W)->List (az×W)
 | []=>[(f,w)]
 | (x,u)::r=>if f=x then (f,w)::r else (x,u)::nC f w r
@[simp] theorem MD (f:az):lM f []=af:=rfl
@[simp] theorem Lh (f x:az) (w:W) (r:List (az×W)):lM f ((x,w)::r)=if f=x then aa w else lM f r:=rfl
@[simp] theorem ME (f:az) (w:W):nC f w []=[(f,w)]:=rfl
@[simp] theorem Li (f x:az) (w u:W) (r:List (az×W)):nC f w ((x,u)::r)=if f=x then (f,w)::r else (x,u)::nC f w r:=rfl
noncomputable def attrOk:W->Bool
 | .p _=>ah| .r _=>ah| .k _=>ai| .o _=>ah| .c _ _=>ai| .x _=>ai
@[simp] theorem MF (d:D):attrOk (.p d)=ah:=rfl
@[simp] theorem MG (n:Nat):attrOk (.r n)=ah:=rfl
@[simp] theorem MH (n:Nat):attrOk (.o n)=ah:=rfl
noncomputable def MI (f:az) (x:W) (h:HH):Option (W×HH):=match x with
 | .o n=>match oat h n with
  | some (_,fs)=>(lM f fs).map λw=>(w,h)
  | none=>af
 | _=>af
@[simp] theorem Qt (f:az) (n:Nat) (h:HH):MI f (.o n) h=match oat h n with
 | some (_,fs)=>(lM f fs).map λw=>(w,h)
 | none=>af:=rfl
noncomputable def vI (F:FK->List W->HH->Option (W×HH)) (q:FK) (n:Nat) (ws:List W) (h:HH):Option (W×HH):=F q (.o n::ws) h
@[simp] theorem Lj (F:FK->List W->HH->Option (W×HH)) (q:FK) (n:Nat) (ws:List W) (h:HH):vI F q n ws h=F q (.o n::ws) h:=rfl
noncomputable def Hh (F:FK->List W->HH->Option (W×HH)) (m:az) (ea:HH->Option (List W×HH)) (x:W) (h:HH):Option (W×HH):=match x with
 | .o n=>match oat h n with
  | some (c,fs)=>if (lM m fs).isNone then bnd (ea h) (vI F (.m c m) n) else af
  | none=>af
 | _=>af
@[simp] theorem O0 (F:FK->List W->HH->Option (W×HH)) (m:az) (ea:HH->Option (List W×HH)) (n:Nat) (h:HH):Hh F m ea (.o n) h=match oat h n with
 | some (c,fs)=>if (lM m fs).isNone then bnd (ea h) (vI F (.m c m) n) else af
 | none=>af:=rfl
noncomputable def Bc (n:Nat) (x:W) (h:HH):Option (W×HH):=match x with
 | .p .non=>aa (.o n,h)| _=>af
@[simp] theorem O4 (n:Nat) (h:HH):Bc n (.p .non) h=aa (.o n,h):=rfl
noncomputable def Hi (F:FK->List W->HH->Option (W×HH)) (c:az) (ws:List W) (h:HH):Option (W×HH):=bnd (F (.m c "__init__") (.o h.length::ws) (h++[.o c []])) (Bc h.length)
@[simp] theorem MJ (F:FK->List W->HH->Option (W×HH)) (c:az) (ws:List W) (h:HH):Hi F c ws h=bnd (F (.m c "__init__") (.o h.length::ws) (h++[.o c []])) (Bc h.length):=rfl
noncomputable def iG:List W->Bool
 | []=>ah| .p _::r=>iG r| _=>ai
open Classical in
noncomputable def chk (q:Nat) (ds:List D) (f:List D->HH->Option (Option D×HH)) (xs:List D) (h:HH):Option (Option D×HH):=match f xs h with
 | some (o,h')=>if lat h' q=aa ds then aa (o,h') else af
 | none=>af
noncomputable def vJ (mu:Bool) (sr:Sr) (n:Nat) (f:List D->HH->Option (Option D×HH)) (ws:List W) (ds:List D) (h:HH):Option (W×HH):=match ws,sr with
 | [.r q],.seq=>bnd (dj (chk q ds f) n ds h) (iy mu)| _,_=>af
theorem Bd (mu:Bool) (n:Nat) (f:List D->HH->Option (Option D×HH)) (q:Nat) (ds:List D) (h:HH):vJ mu .seq n f [.r q] ds h=bnd (dj (chk q ds f) n ds h) (iy mu):=rfl
@[simp] noncomputable def qx (mu:Bool) (sr:Sr) (n:Nat) (fs:Option Sl) (ec:Sl->HH->Option (List W×HH)) (ee:Sl->EH) (ws:List W) (h:HH):Option (W×HH) :=
 match (rds ws h).bind (gu sr),fs with
 | some ds,aa fs=>if iG ws then bnd (dj (dI ec ee fs) n ds h) (iy mu) else vJ mu sr n (dI ec ee fs) ws ds h
 | _,_=>af
@[simp] noncomputable def je (w:W) (ws:List W) (h:HH):Option (List W×HH):=aa (w::ws,h)
@[simp] noncomputable def oO (er:HH->Option (List W×HH)) (w:W) (h:HH):Option (List W×HH):=bnd (er h) (je w)
@[simp] noncomputable def frees (s:Sl):List (Nat×az)->Option Sl
 | []=>aa []
 | q::r=>match s[q.1]? with
  | some w=>(frees s r).map (w :: ·)| none=>af
noncomputable def caps (s:Sl):List (Nat×az)->Option (List Cp)
 | []=>aa []
 | q::r=>match s[q.1]? with
  | some (aa w)=>(xw w).bind λx=>(caps s r).map (x :: ·)
  | _=>af
@[simp] theorem MK (s:Sl):caps s []=aa []:=rfl
@[simp] theorem Lk (s:Sl) (q:Nat×az) (r:List (Nat×az)):caps s (q::r)=match s[q.1]? with
 | some (aa w)=>(xw w).bind λx=>(caps s r).map (x :: ·)
 | _=>af:=rfl
noncomputable def noC:List W->Bool
 | []=>ah| .p _::r=>noC r| .r _::r=>noC r| .k _::_=>ai| .o _::r=>noC r| .c _ _::_=>ai| .x _::_=>ai
@[simp] theorem O5:noC []=ah:=rfl
@[simp] theorem Se (d:D) (r:List W):noC (.p d::r)=noC r:=rfl
@[simp] theorem Sf (d:Nat) (r:List W):noC (.r d::r)=noC r:=rfl
@[simp] theorem Sg (d:Nat) (r:List W):noC (.o d::r)=noC r:=rfl
noncomputable def Be (F:FK->List W->HH->Option (W×HH)) (o:Option (Option W)) (ws:List W) (h:HH):Option (W×HH):=match o with
 | some (aa (.c k cs))=>if noC ws then F k (ws++cs.map Cp.w) h else af
 | _=>af
@[simp] theorem ML (F:FK->List W->HH->Option (W×HH)) (k:FK) (cs:List Cp) (ws:List W) (h:HH):Be F (aa (aa (.c k cs))) ws h=if noC ws then F k (ws++cs.map Cp.w) h else af:=rfl
noncomputable def Bf (w:W) (h:HH):Option (W×HH):=match w with
 | .c _ _=>af| .x _=>af| .k _=>af| w=>aa (w,h)
@[simp] theorem Qu (d:D) (h:HH):Bf (.p d) h=aa (.p d,h):=rfl
@[simp] theorem Qv (n:Nat) (h:HH):Bf (.r n) h=aa (.r n,h):=rfl
@[simp] theorem Qw (n:Nat) (h:HH):Bf (.o n) h=aa (.o n,h):=rfl
noncomputable def rH (F:FK->List W->HH->Option (W×HH)) (q:FK) (n:Nat) (L:Nat) (cs:Option (List Cp)) (ws:List W) (h:HH):Option (W×HH):=match cs with
 | some cs=>bnd (F q (.o n::(ws++[.c (.l L) cs])) h) Bf| none=>af
@[simp] theorem Ll (F:FK->List W->HH->Option (W×HH)) (q:FK) (n:Nat) (L:Nat) (cs:List Cp) (ws:List W) (h:HH):rH F q n L (aa cs) ws h=bnd (F q (.o n::(ws++[.c (.l L) cs])) h) Bf:=rfl
noncomputable def Bg (F:FK->List W->HH->Option (W×HH)) (m:az) (ea:HH->Option (List W×HH)) (L:Nat) (cs:Option (List Cp)) (x:W) (h:HH):Option (W×HH):=match x with
 | .o n=>match oat h n with
  | some (c,fs)=>if (lM m fs).isNone then bnd (ea h) (rH F (.m c m) n L cs) else af
  | none=>af
 | _=>af
@[simp] theorem MM (F:FK->List W->HH->Option (W×HH)) (m:az) (ea:HH->Option (List W×HH)) (L:Nat) (cs:Option (List Cp)) (n:Nat) (h:HH):Bg F m ea L cs (.o n) h=match oat h n with
 | some (c,fs)=>if (lM m fs).isNone then bnd (ea h) (rH F (.m c m) n L cs) else af
 | none=>af:=rfl
noncomputable def nI (c cn:az):Bool:=cn==c||cn=="TapeError"||cn=="ValueError"
noncomputable def vK (c cn:az):Bool:=!(c=="NoText"&&cn=="NoRun")
noncomputable def MN (cn:az) (x:W) (h:HH):Option (W×HH):=match x with
 | .x c=>if vK c cn then aa (.p (.bl (nI c cn)),h) else af
 | _=>af
@[simp] theorem Qx (cn c:az) (h:HH):MN cn (.x c) h=if vK c cn then aa (.p (.bl (nI c cn)),h) else af:=rfl
noncomputable def strsOf:List D->Option (List az)
 | []=>aa []| .str x::r=>(strsOf r).map (x :: ·)| _=>af
noncomputable def boolsOf:List D->Option (List Bool)
 | []=>aa []| .bl b::r=>(boolsOf r).map (b :: ·)| _=>af
noncomputable def txD:Tx->List D->Option D
 | .join,[.str x,.lst ys]=>(strsOf ys).bind λts=>if ts.length<=4000/\x.length<=10/\∀ t∈ts,t.length<=4000 then aa (.str (SV x ts)) else af
 | .split,[.str x,.str y]=>if y.length=1/\x.length<=lim then aa (.lst ((Txt.split x y).map .str)) else af
 | .str,[.int i]=>if big i then aa (.str (toString i)) else af
 | .str,[.str x]=>aa (.str x)
 | .intS,[.str x]=>if x.length<=640 then (Uv x).map .int else af
 | .all,[.lst xs]=>(boolsOf xs).map λbs=>.bl (bs.all id)
 | .inS,[.str x,.str y]=>aa (.bl (Txt.contains y x))| .ninS,[.str x,.str y]=>aa (.bl (!Txt.contains y x))
 | .pre,[.str x,.int i]=>if 0<=i/\x.length<=lim then aa (.str ⟨x.cps.extract 0 i.toNat⟩) else if i=-1/\x.length<=lim then aa (.str ⟨x.cps.extract 0 (x.length - 1)⟩) else af
 | _,_=>af
noncomputable def Bh (kvs:List (az×D)) (as:List W) (h:HH):Option (W×HH):=match as with
 | [.p .non]=>aa (.p .non,h)| [.p (.str x)]=>aa (.p ((dU x kvs).getD .non),h)| [.p (.str x),.p d]=>aa (.p ((dU x kvs).getD d),h)| _=>af
noncomputable def vL (kvs:List (Ky×D)) (as:List W) (h:HH):Option (W×HH):=match as with
 | [.p (.str x)]=>aa (.p ((ff kvs (.inr x)).getD .non),h)| [.p (.str x),.p d]=>aa (.p ((ff kvs (.inr x)).getD d),h)| _=>af
noncomputable def kTx (k:Tx) (ws:List W) (h:HH):Option (W×HH):=match k,ws with
 | .dget,.k (.t kvs)::as=>Bh kvs as h| .dget,.k (.l kvs)::as=>vL kvs as h
 | k,ws=>(rds ws h).bind λds=>(txD k ds).map λd=>(.p d,h)
section
variable (F:FK->List W->HH->Option (W×HH)) (G:az->Option W)
mutual
@[simp] noncomputable def ev:E->Sl->HH->Option (W×HH)
 | .var i,s,h=>match s[i]? with|some (aa w)=>aa (w,h)|_=>af
 | .cst d,_,h=>aa (.p d,h)
 | .glo x,_,h=>(G x).map λw=>(w,h)
 | .bin o a b,s,h=>bnd (ev a s h) (k2 (ev b s) (rG o))| .neg a,s,h=>bnd (ev a s h) ET| .not a,s,h=>bnd (ev a s h) EU| .and a b,s,h=>bnd (ev a s h) (EV (ev b s))| .or a b,s,h=>bnd (ev a s h) (kOr (ev b s))| .cmp o a b,s,h=>bnd (ev a s h) (k2 (ev b s) (lK o))| .chain o o' a b c,s,h=>bnd (ev a s h) (k2 (ev b s) (oCh o o' (ev c s)))| .ite c a b,s,h=>bnd (ev c s h) (EW (ev a s) (ev b s))| .tup as,s,h=>bnd (evs as s h) IX| .lst mu as,s,h=>bnd (evs as s h) (IY mu)| .idx a i,s,h=>bnd (ev a s h) (k2 (ev i s) ES)| .slc a lo hi,s,h=>bnd (ev a s h) (MB (evs lo s) (evs hi s))| .rvs a,s,h=>bnd (ev a s h) Qn| .stp mu k a,s,h=>bnd (ev a s h) (Qo mu k)| .call f as,s,h=>bnd (evs as s h) (F (.f f))| .fld a f,s,h=>bnd (ev a s h) (MI f)| .meth o m as,s,h=>bnd (ev o s h) (Hh F m (evs as s))| .make c as,s,h=>bnd (evs as s h) (Hi F c)| .bi b mu as,s,h=>bnd (evs as s h) (kBi b mu)| .me m o as,s,h=>bnd (ev o s h) (kMe m (evs as s))| .comp mu sr sa tg fv cond elt,s,h=>bnd (evs sa s h) (qx mu sr tg.length (frees s fv) (evs cond) (ev elt))| .callv i as,s,h=>bnd (evs as s h) (Be F s[i]?)| .methL o m as L fv,s,h=>bnd (ev o s h) (Bg F m (evs as s) L (caps s fv))| .isx c a,s,h=>bnd (ev a s h) (MN c)| .tx k as,s,h=>bnd (evs as s h) (kTx k)| .dlit kvs,_,h=>aa (.k (.l ((kvs.map λp=>((.inr p.1:Ky),p.2)).foldl (λc p=>oz c p.1 p.2) [])),h)
@[simp] noncomputable def evs:Es->Sl->HH->Option (List W×HH)
 | .nil,_,h=>aa ([],h)| .cons a as,s,h=>bnd (ev a s h) (oO (evs as s))
end
inductive Fl where
 | nx (s:Sl) (h:HH)|rt (w:W) (h:HH)|bk (s:Sl) (h:HH)|ct (s:Sl) (h:HH)
noncomputable def MO (k:Bool->HH->Option Fl) (w:W) (h:HH):Option Fl:=match w with | .p (.bl b)=>k b h|_=>af
noncomputable def tst (x:Option (W×HH)) (k:Bool->HH->Option Fl):Option Fl:=bnd x (MO k)
@[simp] theorem kR (b:Bool) (h:HH) (k:Bool->HH->Option Fl):tst (aa (.p (.bl b),h)) k=k b h:=rfl
noncomputable def iJ (x:Option Fl) (k:Sl->HH->Option Fl):Option Fl:=match x with
 | some (.nx s h)=>k s h| y=>y
@[simp] theorem Bj (s:Sl) (h:HH) (k:Sl->HH->Option Fl):iJ (aa (.nx s h)) k=k s h:=rfl
@[simp] theorem um (w:W) (h:HH) (k:Sl->HH->Option Fl):iJ (aa (.rt w h)) k=aa (.rt w h):=rfl
@[simp] theorem MP (s:Sl) (h:HH) (k:Sl->HH->Option Fl):iJ (aa (.bk s h)) k=aa (.bk s h):=rfl
@[simp] theorem MQ (s:Sl) (h:HH) (k:Sl->HH->Option Fl):iJ (aa (.ct s h)) k=aa (.ct s h):=rfl
@[simp] theorem IZ (k:Sl->HH->Option Fl):iJ af k=af:=rfl
noncomputable def fP (x:Option Fl) (k:Sl->HH->Option Fl):Option Fl:=match x with
 | some (.nx s h)=>k s h| some (.ct s h)=>k s h| some (.bk s h)=>aa (.nx s h)| y=>y
@[simp] theorem dO (s:Sl) (h:HH) (k:Sl->HH->Option Fl):fP (aa (.nx s h)) k=k s h:=rfl
@[simp] theorem MR (s:Sl) (h:HH) (k:Sl->HH->Option Fl):fP (aa (.ct s h)) k=k s h:=rfl
@[simp] theorem MS (s:Sl) (h:HH) (k:Sl->HH->Option Fl):fP (aa (.bk s h)) k=aa (.nx s h):=rfl
@[simp] theorem MT (w:W) (h:HH) (k:Sl->HH->Option Fl):fP (aa (.rt w h)) k=aa (.rt w h):=rfl
@[simp] theorem I0 (k:Sl->HH->Option Fl):fP af k=af:=rfl
@[simp] noncomputable def sets:List (Nat×az)->List D->Sl->Sl
 | (i,_)::r,d::ds,s=>sets r ds (s.set i (aa (.p d)))| _,_,s=>s
noncomputable def Ja (b:Sl->HH->Option Fl) (again:Sl->HH->Option Fl) (s:Sl) (t:Bool) (h:HH):Option Fl:=if t then fP (b s h) again else aa (.nx s h)
@[simp] theorem kT (b again:Sl->HH->Option Fl) (s:Sl) (h:HH):Ja b again s ah h=fP (b s h) again:=rfl
@[simp] theorem Jb (b again:Sl->HH->Option Fl) (s:Sl) (h:HH):Ja b again s ai h=aa (.nx s h):=rfl
noncomputable def fh (c:Sl->HH->Option (W×HH)) (b:Sl->HH->Option Fl):Nat->Sl->HH->Option Fl
 | 0,_,_=>af| n+1,s,h=>tst (c s h) (Ja b (fh c b n) s)
@[simp] noncomputable def dJ (b:Sl->HH->Option Fl) (tg:List (Nat×az)):List D->Sl->HH->Option Fl
 | [],s,h=>aa (.nx s h)
 | d::r,s,h=>match target tg.length d with
  | some ds=>fP (b (sets tg ds s) h) (dJ b tg r)| none=>af
noncomputable def turns:Nat:=100000
@[simp] noncomputable def Bk (s:Sl) (i:Nat) (w:W) (h:HH):Option Fl:=aa (.nx (s.set i (aa w)) h)
@[simp] noncomputable def Qz (s:Sl) (xs:List (Nat×az)) (w:W) (h:HH):Option Fl:=match w with
 | .p d=>match unpack xs.length d with|some ds=>aa (.nx (sets xs ds s) h)|none=>af
 | _=>af
@[simp] noncomputable def MU (s:Sl) (i:Nat) (o:Bin) (w:W) (h:HH):Option Fl:=match s[i]?,w with
 | some (aa (.p d)),.p d'=>(qY o d d').map λz=>.nx (s.set i (aa (.p z))) h
 | _,_=>af
@[simp] noncomputable def MV (s:Sl) (n:Nat) (d:D) (q:W) (h:HH):Option Fl:=match q,lat h n with
 | .p (.int j),aa xs=>match place xs.length j with
  | some m=>aa (.nx s (h.set n (.l (xs.set m d))))| none=>af
 | _,_=>af
@[simp] noncomputable def QA (ek:EH) (s:Sl) (i:Nat) (w:W) (h:HH):Option Fl:=match w,s[i]? with
 | .p d,aa (aa (.r n))=>bnd (ek h) (MV s n d)| _,_=>af
noncomputable def Bl (s:Sl) (n:Nat) (d:D) (q:W) (h:HH):Option Fl:=match q with
 | .p k=>(dat h n).bind λkvs=>(pZ k).bind λy=>if kvs.length < lim then aa (.nx s (h.set n (.d (oz kvs y d)))) else af
 | _=>af
@[simp] theorem MW (s:Sl) (n:Nat) (d k:D) (h:HH):Bl s n d (.p k) h=(dat h n).bind λkvs=>(pZ k).bind λy=>if kvs.length < lim then aa (.nx s (h.set n (.d (oz kvs y d)))) else af:=rfl
noncomputable def Sh (ek:EH) (s:Sl) (i:Nat) (w:W) (h:HH):Option Fl:=match w,s[i]? with
 | .p d,aa (aa (.r n))=>bnd (ek h) (Bl s n d)| _,_=>af
noncomputable def vM (s:Sl) (f:az) (v:W) (x:W) (h:HH):Option Fl:=match x with
 | .o n=>match oat h n with
  | some (c,fs)=>if attrOk v&&fs.length < 1000 then aa (.nx s (h.set n (.o c (nC f v fs)))) else af
  | none=>af
 | _=>af
@[simp] theorem MY (s:Sl) (f:az) (v:W) (n:Nat) (h:HH):vM s f v (.o n) h=match oat h n with
 | some (c,fs)=>if attrOk v&&fs.length < 1000 then aa (.nx s (h.set n (.o c (nC f v fs)))) else af
 | none=>af:=rfl
noncomputable def Hj (eo:EH) (s:Sl) (f:az) (v:W) (h:HH):Option Fl:=bnd (eo h) (vM s f v)
@[simp] theorem MZ (eo:EH) (s:Sl) (f:az) (v:W) (h:HH):Hj eo s f v h=bnd (eo h) (vM s f v):=rfl
noncomputable def rJ (s:Sl) (f:az) (op:Bin) (n:Nat) (c:az) (d:D) (v:W) (h:HH):Option Fl:=match v,oat h n with
 | .p e,aa (c',fs)=>match qY op d e with
  | some z=>if c'=c/\fs.length < 1000 then aa (.nx s (h.set n (.o c' (nC f (.p z) fs)))) else af
  | none=>af
 | _,_=>af
@[simp] theorem M0 (s:Sl) (f:az) (op:Bin) (n:Nat) (c:az) (d e:D) (h:HH):rJ s f op n c d (.p e) h=match oat h n with
 | some (c',fs)=>match qY op d e with
  | some z=>if c'=c/\fs.length < 1000 then aa (.nx s (h.set n (.o c' (nC f (.p z) fs)))) else af
  | none=>af
 | none=>af:=by unfold rJ;cases oat h n<;>rfl
noncomputable def Hl (ee:EH) (s:Sl) (f:az) (op:Bin) (x:W) (h:HH):Option Fl:=match x with
 | .o n=>match oat h n with
  | some (c,fs)=>match lM f fs with
   | some (.p d)=>bnd (ee h) (rJ s f op n c d)| _=>af
  | none=>af
 | _=>af
@[simp] theorem O6 (ee:EH) (s:Sl) (f:az) (op:Bin) (n:Nat) (h:HH):Hl ee s f op (.o n) h=match oat h n with
 | some (c,fs)=>match lM f fs with
  | some (.p d)=>bnd (ee h) (rJ s f op n c d)| _=>af
 | none=>af:=rfl
@[simp] noncomputable def kEx (s:Sl) (_:W) (h:HH):Option Fl:=aa (.nx s h)
@[simp] noncomputable def EX (w:W) (h:HH):Option Fl:=aa (.rt w h)
@[simp] noncomputable def kIf (fa fb:HH->Option Fl) (t:Bool) (h:HH):Option Fl:=if t then fa h else fb h
@[simp] noncomputable def kFor (b:Sl->HH->Option Fl) (tg:List (Nat×az)) (sr:Sr) (s:Sl) (ws:List W) (h:HH):Option Fl:=match (rds ws h).bind (gu sr) with
 | some ds=>if iG ws then dJ b tg ds s h else af
 | none=>af
@[simp] noncomputable def evS:S->Sl->HH->Option Fl
 | .nil,s,h=>aa (.nx s h)| .seq a b,s,h=>iJ (evS a s h) (evS b)| .set i e,s,h=>bnd (ev F G e s h) (Bk s i)| .unp xs e,s,h=>bnd (ev F G e s h) (Qz s xs)| .aug i o e,s,h=>bnd (ev F G e s h) (MU s i o)| .put i k e,s,h=>bnd (ev F G e s h) (QA (ev F G k s) s i)| .setf o f e,s,h=>bnd (ev F G e s h) (Hj (ev F G o s) s f)| .augf o f op e,s,h=>bnd (ev F G o s h) (Hl (ev F G e s) s f op)| .ex e,s,h=>bnd (ev F G e s h) (kEx s)| .ret e,s,h=>bnd (ev F G e s h) EX| .ife c a b,s,h=>tst (ev F G c s h) (kIf (evS a s) (evS b s))| .whl c b,s,h=>fh (ev F G c) (evS b) turns s h| .for tg sr sa b,s,h=>bnd (evs F G sa s h) (kFor (evS b) tg sr s)| .brk,s,h=>aa (.bk s h)| .cnt,s,h=>aa (.ct s h)| .bad,_,_=>af| .rai _ _,_,_=>af
open Classical in
noncomputable def fin (h:HH) (w:W) (h':HH):Option (W×HH) :=
 if h'.length=h.length then aa (w,h')
 else if h'.take h.length=h then (match w with
  | .p d=>aa (.p d,h)
  | .r n=>if n < h.length then aa (.r n,h) else (lat h' n).map λxs=>(.p (.lst xs),h)
  | .o n=>if n < h.length then aa (.o n,h) else aa (.o n,h')
  | .k _=>af| .c _ _=>af
  | .x _=>af)
 else aa (w,h')
@[simp] noncomputable def dN (n:Nat) (ws:List W):Sl:=ws.map aa++Te (n - ws.length) af
noncomputable def gS (x:Option Fl) (k:W->HH->Option (W×HH)):Option (W×HH):=match x with
 | some (.rt w h)=>k w h| some (.nx _ h)=>k (.p .non) h| _=>af
@[simp] theorem O7 (w:W) (h:HH) (k:W->HH->Option (W×HH)):gS (aa (.rt w h)) k=k w h:=rfl
@[simp] theorem O8 (s:Sl) (h:HH) (k:W->HH->Option (W×HH)):gS (aa (.nx s h)) k=k (.p .non) h:=rfl
@[simp] theorem Lm (k:W->HH->Option (W×HH)):gS af k=af:=rfl
end
section
variable (T:FK->Option Fn) (G:az->Option W)
noncomputable def runN:Nat->FK->List W->HH->Option (W×HH)
 | 0,_,_,_=>af
 | k+1,f,ws,h=>match T f with
  | some fn=>if ws.length=fn.ps.length then gS (evS (runN k) G fn.body (dN fn.ns.length ws) h) (fin h) else af
  | none=>af
theorem run_eq {T:FK->Option Fn}{G:az->Option W}{f:FK}{fn:Fn}{ws:List W}{h:HH}{k:Nat} (hT:T f=aa fn) (hl:ws.length=fn.ps.length) :
 runN T G (k+1) f ws h=gS (evS (runN T G k) G fn.body (dN fn.ns.length ws) h) (fin h):=by
 rw[runN,hT];exact if_pos hl
end
noncomputable def QB:Fn:=⟨["state","thing"],["state","thing"],.ret (.call "worth_in" (Z8 (.var 0) (.var 1)))⟩
noncomputable def QC:Fn:=⟨["state","thing","worth"],["state","thing","worth"],.ret (.cmp .ne (.call "worth_in" (Z8 (.var 0) (.var 1))) (.var 2))⟩
noncomputable def QD:Fn:=⟨["state","thing","worth"],["state","thing","worth"],.ret (.cmp .ne (.call "worth_in" (Z8 (.var 0) (.var 1))) (.var 2))⟩
noncomputable def QE:Fn:=⟨["state","term"],["state","term"],.ret (.call "reckoned" (Z8 (.var 1) (.var 0)))⟩
noncomputable def QF:Fn:=⟨["state","term"],["state","term"],.ret (.cmp .ne (.call "reckoned" (Z8 (.var 1) (.var 0))) (.cst (.int 0)))⟩
noncomputable def QG:Fn:=⟨["state","term"],["state","term"],.ret (.cmp .ne (.call "reckoned" (Z8 (.var 1) (.var 0))) (.cst (.int 0)))⟩
noncomputable def QH:Fn:=⟨["state"],["state"],.ret (.idx (.var 0) (.glo "ROW"))⟩
noncomputable def QI:Fn:=⟨["state","row"],["state","row"],.ret (.cmp .eq (.idx (.var 0) (.glo "ROW")) (.var 1))⟩
noncomputable def QJ:Fn:=⟨["state","number"],["state","number"],.ret (.cmp .gt (.bi .len ai (Z9 (.idx (.var 0) (.glo "SAID")))) (.var 1))⟩
noncomputable def QK:Fn:=⟨["state","bound"],["state","bound"],.ret (.cmp .le (.call "open_in" (Z9 (.var 0))) (.var 1))⟩
noncomputable def M1:Fn:=⟨["state","bound"],["state","bound"],.ret (.cmp .le (.call "open_in" (Z9 (.var 0))) (.var 1))⟩
noncomputable def M3:Fn:=⟨["state","wanted"],["state","wanted"],.ret (.and (.cmp .eq (.idx (.var 0) (.glo "NAMES")) (.idx (.var 1) (.glo "NAMES"))) (.cmp .eq (.idx (.var 0) (.glo "CELLS")) (.idx (.var 1) (.glo "CELLS"))))⟩
noncomputable def M4:Fn:=⟨["state","tape","thing"],["state","tape","thing"],.ret (.cmp .eq (.call "written_next" (Z8 (.var 1) (.var 0))) (.var 2))⟩
noncomputable def M5:Fn:=⟨[],[],.ret (.cst .non)⟩
noncomputable def M6:Fn:=⟨[],[],.ret (.cst .non)⟩
noncomputable def Jc (i:Nat):Option Fn:=([QB,QC,QD,QE,QF,QG,QH,QI,QJ,QK,M1,M3,M4,M5,M6]:List Fn)[i]?
noncomputable def iK:List az:=["worths_of","last_change","next_change","moments_so","last_so","next_so","visits","last_visit","when_said","next_within","last_within","first_other","writer_of","judged","remade"]
noncomputable def Ho (i:Nat):az:=iK.getD i ""
noncomputable def iQ (x:az):az:="<"++x++">"
end BT
end
section
namespace BS
open PySem PySem.Spec PyProof.Rows L2
variable {K:SA}
theorem dR {β:Type}{c:Prop} [Decidable c] {a b:β} (h:(if c then aa a else af)=aa b):c/\a=b:=by
 by_cases z:c
 rw[if_pos z] at h;exact ⟨z,S9 h⟩;rw[if_neg z] at h;exact nomatch h
theorem cS {β:Type}{a:β}{P:Prop} (h:(af:Option β)=aa a):P:=nomatch h
noncomputable def attrName (f:az):Bool:=(["program","asked","gap","most","kept","farthest","front","now","origins","branches","tape","named"]:List az).contains f
noncomputable def uq:BT.Bi->Option (String×(BT.D->Bool))
 | .isInt=>aa ("int",BT.isI)| .isBool=>aa ("bool",BT.isB)| .isStr=>aa ("str",BT.isS)| .isTuple=>aa ("tuple",BT.isT)| _=>af
noncomputable def xF (sc:Um) (x:az):Bool:=match sc.names.lookup x with
 | some .local=>ah| some .cell=>ah| some .free=>ah| _=>ai
noncomputable def d8 (sc:Um) (x:az):Bool:=sc.names.lookup x==aa .globalImplicit
noncomputable def d7 (x:az):Bool:=!(x=="__debug__")&&!(x=="__classdict__")&&!(x=="__name__")
noncomputable def noStar:SR->Bool
 | .Starred _ _=>ai| _=>ah
noncomputable def rK:SR->Bool
 | .Slice _ _ _ _=>ai| _=>ah
noncomputable def d9:SR->Bool
 | .Name _ _=>ah| .Constant _ _ _=>ah| .Subscript _ _ _=>ah| .Attribute _ _ _=>ah| .Call (.Attribute _ _ _) _ _ _=>ah| .Dict _ _ _=>ah| _=>ai
noncomputable def M7:BT.Bin->Yt
 | .add=>.Add| .sub=>.Sub| .mul=>.Mult| .mod=>.Mod| .fdiv=>.FloorDiv
noncomputable def Hq (o:BT.Bin) (op:Yt):Bool:=decide (op=M7 o)
noncomputable def QL:BT.Cm->CmpOp
 | .eq=>.Eq| .ne=>.NotEq| .lt=>.Lt| .le=>.LtE| .gt=>.Gt| .ge=>.GtE| .isN=>.Is| .notN=>.IsNot| .mem=>.In
noncomputable def EY (o:BT.Cm) (op:CmpOp):Bool:=decide (op=QL o)
noncomputable def Hr:BT.D->Const->Bool
 | .non,.none=>ah| .bl a,.bool b=>a==b| .int i,.int j=>i==j| .str x,.str y=>x==y&&PyData.strOk x| _,_=>ai
noncomputable def Bm:BT.Bi->Bool->Option az
 | .len,ai=>aa "len"| .int,ai=>aa "int"| .list,_=>aa "list"| .tuple,ai=>aa "tuple"| _,_=>af
noncomputable def Hs (b:BT.Bi) (mu:Bool) (x:az):Bool:=Bm b mu==aa x
noncomputable def QM:BT.Bi->az->Bool
 | .max2,x=>x=="max"| _,_=>ai
noncomputable def M8:SR->Option Const
 | .Constant c _ _=>aa c| _=>af
noncomputable def cInt:Const->Option Int
 | .int j=>aa j| _=>af
noncomputable def unE:SR->Option SR
 | .UnaryOp o e _=>if o=.USub then aa e else af
 | _=>af
noncomputable def QN (k:Int) (e:SR):Bool:=((M8 e).bind cInt==aa k&&decide (0 < k))||(((unE e).bind M8).bind cInt==aa (-k)&&decide (k < 0))
noncomputable def Bo:BT.Me->az
 | .append=>"append"| .pop=>"pop"| .extend=>"extend"| .tindex=>"index"| .sindex=>"index"| .dget=>"get"| .count=>"count"| .lindex=>"index"
noncomputable def QO:BT.E->Bool
 | .glo _=>ah| _=>ai
noncomputable def vN (m:BT.Me) (o:BT.E):Bool:=match m with
 | .append=>ah| .pop=>ah| .extend=>ah| .sindex=>ai| .tindex=>ai| .dget=>ai| .count=>ai| .lindex=>ai
noncomputable def ur (c:az):Bool:=(["NoMoment","NoThing","NoRun","NoText"]:List az).contains c
noncomputable def Bp (cn:az):Bool:=ur cn||cn=="ValueError"
noncomputable def gq (N:List az):Bool:=!N.contains "_law_flags"
noncomputable def tOK:BT.E->Bool
 | .ite _ _ _=>ai| .not a=>tOK a| .and a b=>tOK a&&tOK b| .or a b=>tOK a&&tOK b| .tup _=>ai| .lst _ _=>ai| .comp _ _ _ _ _ _ _=>ai| _=>ah
noncomputable def iR:SR->Bool
 | .Set _ _ _=>ai| _=>ah
noncomputable def nk:BT.Sr->SR->Bool
 | .zip2,.Tuple _ _ _=>ah| .enu,.Tuple _ _ _=>ah| .itm,.Tuple _ _ _=>ah| .zipG,.Tuple _ _ _=>ah| .zip2,_=>ai| .enu,_=>ai| .itm,_=>ai| .zipG,_=>ai| _,_=>ah
noncomputable def dW (scope sc:Um):Um :=
 { scope with names:=scope.names.map λ(n,k)=>if (k==.free&&sc.kind==.function&&sc.names.lookup n==aa .cell) then (n,.cell) else (n,k) }
noncomputable def nmE:SR->Option az
 | .Name y _=>aa y| _=>af
noncomputable def Jd:SR->List SR
 | .Tuple xs _ _=>xs| _=>[]
noncomputable def oQ (sc:Um) (tg:List az) (te:SR):Bool:=((tg.map aa==[nmE te])||(Nat.ble 2 tg.length&&tg.map aa==(Jd te).map nmE))&&tg.all λx=>sc.names.lookup x==aa .local
noncomputable def oR:List az->Bool
 | []=>ah| x::r=>!r.contains x&&oR r
noncomputable def jf (sc:Um) (N:List az) (tg:List az) (fv:List (Nat×az)) (scope:Um):Bool :=
 scope.kind==.function&&sc.kind==.function&&scope.names.all (λy=>!(y.2==.cell))&&scope.names.all (λy=>!(y.2==.local)||scope.names.lookup y.1==aa .local) &&
 scope.names.all (λy=>!(y.2==.free)||sc.names.lookup y.1==aa .cell) &&
 fv.all (λq=>N[q.1]?==aa q.2&&scope.names.contains (q.2,.free)&&sc.names.lookup q.2==aa .cell&&(dW scope sc).names.lookup q.2==aa .cell)&&oR (tg++fv.map (·.2))
noncomputable def dlQ:BT.D->PyData
 | .str x=>.str x| .int i=>.int i| _=>.none
noncomputable def Bq:BT.D->Bool
 | .str x=>PyData.strOk x| .int _=>ah| _=>ai
noncomputable def dlD (kvs:List (az×BT.D)):List (PyData×PyData):=kvs.map λp=>(.str p.1,dlQ p.2)
noncomputable def dlV:List (az×BT.D)->Bool
 | []=>ah| p::r=>PyData.strOk p.1&&Bq p.2&&dlV r
noncomputable def dlB (kvs:List (az×BT.D)) (keys:List (Option SR)) (values:List SR):Bool:=dlV kvs&&(keys.all λx=>x.isSome)&&decide (keys.length=values.length)&&!keys.isEmpty&&decide (keys.length<=15)&&decide (kvs.length<=15)
inductive Tq where
 | e (a:BT.E) (x:SR)|es (as:BT.Es) (xs:List SR)|o (as:BT.Es) (x:Option SR)|c (as:BT.Es) (xs:List SR)|i (sr:BT.Sr) (sa:BT.Es) (x:SR)
set_option autoImplicit true in
class inductive CQ:Um->List az->Tq->Prop where
 | var (h1:N[i]?=aa x) (h2:xF sc x=ah) (h3:d7 x=ah):CQ sc N (.e (.var i) (.Name x p))
 | cst (h:Hr d c=ah):CQ sc N (.e (.cst d) (.Constant c k p))
 | glo (h2:d8 sc x=ah) (h3:d7 x=ah):CQ sc N (.e (.glo x) (.Name x p))
 | bin (h:Hq o op=ah) (ha:CQ sc N (.e a l)) (hb:CQ sc N (.e b r)):CQ sc N (.e (.bin o a b) (.BinOp l op r p))
 | neg (ha:CQ sc N (.e a x)):CQ sc N (.e (.neg a) (.UnaryOp .USub x p))
 | not (ha:CQ sc N (.e a x)):CQ sc N (.e (.not a) (.UnaryOp .Not x p))
 | and2 (ha:CQ sc N (.e a x)) (hb:CQ sc N (.e b y)):CQ sc N (.e (.and a b) (.BoolOp .And [x,y] p))
 | and3 (ha:CQ sc N (.e a x)) (hb:CQ sc N (.e b (.BoolOp .And (y::z::r) p))):CQ sc N (.e (.and a b) (.BoolOp .And (x::y::z::r) p))
 | or2 (ha:CQ sc N (.e a x)) (hb:CQ sc N (.e b y)):CQ sc N (.e (.or a b) (.BoolOp .Or [x,y] p))
 | or3 (ha:CQ sc N (.e a x)) (hb:CQ sc N (.e b (.BoolOp .Or (y::z::r) p))):CQ sc N (.e (.or a b) (.BoolOp .Or (x::y::z::r) p))
 | cmp (h:EY o op=ah) (ha:CQ sc N (.e a l)) (hb:CQ sc N (.e b r)) (hm:WI op r=ai):CQ sc N (.e (.cmp o a b) (.Compare l [op] [r] p))
 | chain (h:EY o op=ah) (h':EY o' op'=ah) (ha:CQ sc N (.e a l)) (hb:CQ sc N (.e b r)) (hc:CQ sc N (.e c r')) (hm:lastMarks [op,op'] [r,r']=ai):CQ sc N (.e (.chain o o' a b c) (.Compare l [op,op'] [r,r'] p))
 | ite (h:tOK c=ah) (hc:CQ sc N (.e c t)) (ha:CQ sc N (.e a x)) (hb:CQ sc N (.e b y)):CQ sc N (.e (.ite c a b) (.IfExp t x y p))
 | tup (h:CQ sc N (.es as es)):CQ sc N (.e (.tup as) (.Tuple es k p))
 | lst (h:CQ sc N (.es as es)):CQ sc N (.e (.lst mu as) (.List es p))
 | idx (ha:CQ sc N (.e a x)) (hi:CQ sc N (.e i sl)) (hs:rK sl=ah):CQ sc N (.e (.idx a i) (.Subscript x sl p))
 | slc {lo:BT.Es} (ha:CQ sc N (.e a x)) (hl:CQ sc N (.o lo l)) (hu:CQ sc N (.o hi u)):CQ sc N (.e (.slc a lo hi) (.Subscript x (.Slice l u af p2) p))
 | call (hg:d8 sc f=ah) (hn:d7 f=ah) (ha:CQ sc N (.es as es)):CQ sc N (.e (.call f as) (.Call (.Name f np) es [] p))
 | bi (hu:gq N=ah) (hb:Hs b mu x=ah) (hg:d8 sc x=ah) (hs:noStar e=ah) (ha:CQ sc N (.e a e)):CQ sc N (.e (.bi b mu (.cons a .nil)) (.Call (.Name x np) [e] [] p))
 | inst (hb:uq b=aa (c,f)) (hg:d8 sc "isinstance"=ah) (hg2:d8 sc (SE c)=ah) (hs:noStar e=ah) (ha:CQ sc N (.e a e)) :
  CQ sc N (.e (.bi b ai (.cons a .nil)) (.Call (.Name "isinstance" np) [e,.Name (SE c) p2] [] p))
 | isx (hx:Bp cn=ah) (hn:d7 cn=ah) (hg:d8 sc "isinstance"=ah) (hg2:d8 sc cn=ah) (hs:noStar e=ah) (ha:CQ sc N (.e a e)) :
  CQ sc N (.e (.isx cn a) (.Call (.Name "isinstance" np) [e,.Name cn p2] [] p))
 | me (h1:vN m o=ah) (h2:name=Bo m) (h3:d9 oe=ah) (h6:(apos.endLine==cpos.line)=ah) (h7:es.length < 20) (ho:CQ sc N (.e o oe)) (ha:CQ sc N (.es as es)) :
  CQ sc N (.e (.me m o as) (.Call (.Attribute oe name apos) es [] cpos))
 | comp {cond:BT.Es}
  (hu:gq N=ah) (hk:jf sc N tg fv scope=ah) (ht:oQ (dW scope sc) tg te=ah) (hz:nk sr te=ah) (hs:iR iter=ah) (hi:CQ sc N (.i sr sa iter))
  (hc:CQ (dW scope sc) (tg++fv.map (·.2)) (.c cond ifs)) (he:CQ (dW scope sc) (tg++fv.map (·.2)) (.e elt elt')):CQ sc N (.e (.comp mu sr sa tg fv cond elt) (.ListComp elt' [⟨te,iter,ifs,0⟩] scope pos))
 | rvs (ha:CQ sc N (.e a x)):CQ sc N (.e (.rvs a) (.Subscript x (.Slice af af (aa (.UnaryOp .USub (.Constant (.int 1) c p1) p3)) p2) p))
 | xjoin (h3:d9 oe=ah) (h6:(apos.endLine==cpos.line)=ah) (hs:noStar e=ah) (ho:CQ sc N (.e o oe)) (ha:CQ sc N (.e a e)):CQ sc N (.e (.tx .join (.cons o (.cons a .nil))) (.Call (.Attribute oe "join" apos) [e] [] cpos))
 | xsplit (h3:d9 oe=ah) (h6:(apos.endLine==cpos.line)=ah) (hs:noStar e=ah) (ho:CQ sc N (.e o oe)) (ha:CQ sc N (.e a e)):CQ sc N (.e (.tx .split (.cons o (.cons a .nil))) (.Call (.Attribute oe "split" apos) [e] [] cpos))
 | xget1 (h3:d9 oe=ah) (h6:(apos.endLine==cpos.line)=ah) (hs:noStar e=ah) (ho:CQ sc N (.e o oe)) (ha:CQ sc N (.e a e)):CQ sc N (.e (.tx .dget (.cons o (.cons a .nil))) (.Call (.Attribute oe "get" apos) [e] [] cpos))
 | xget2 (h3:d9 oe=ah) (h6:(apos.endLine==cpos.line)=ah) (hs:noStar e=ah) (hs2:noStar e2=ah) (ho:CQ sc N (.e o oe)) (ha:CQ sc N (.e a e)) (hb:CQ sc N (.e b e2)):CQ sc N (.e (.tx .dget (.cons o (.cons a (.cons b .nil)))) (.Call (.Attribute oe "get" apos) [e,e2] [] cpos))
 | xstr (hg:d8 sc "str"=ah) (hs:noStar e=ah) (ha:CQ sc N (.e a e)):CQ sc N (.e (.tx .str (.cons a .nil)) (.Call (.Name "str" np) [e] [] p))
 | xint (hg:d8 sc "int"=ah) (hs:noStar e=ah) (ha:CQ sc N (.e a e)):CQ sc N (.e (.tx .intS (.cons a .nil)) (.Call (.Name "int" np) [e] [] p))
 | xall (hu:gq N=ah) (hg:d8 sc "all"=ah) (hs:noStar e=ah) (ha:CQ sc N (.e a e)):CQ sc N (.e (.tx .all (.cons a .nil)) (.Call (.Name "all" np) [e] [] p))
 | xin (ha:CQ sc N (.e a l)) (hb:CQ sc N (.e b r)) (hm:WI .In r=ai):CQ sc N (.e (.tx .inS (.cons a (.cons b .nil))) (.Compare l [.In] [r] p))
 | xnin (ha:CQ sc N (.e a l)) (hb:CQ sc N (.e b r)) (hm:WI .NotIn r=ai):CQ sc N (.e (.tx .ninS (.cons a (.cons b .nil))) (.Compare l [.NotIn] [r] p))
 | xpre (ha:CQ sc N (.e a x)) (hb:CQ sc N (.e b y)):CQ sc N (.e (.tx .pre (.cons a (.cons b .nil))) (.Subscript x (.Slice af (aa y) af p2) p))
 | dlit (h1:PyProof.Rows.litPairs keys values=aa (dlD kvs)) (h2:dlB kvs keys values=ah):CQ sc N (.e (.dlit kvs) (.Dict keys values p))
 | es_nil:CQ sc N (.es .nil [])
 | es_cons (hs:noStar e=ah) (ha:CQ sc N (.e a e)) (hr:CQ sc N (.es as es)):CQ sc N (.es (.cons a as) (e::es))
 | o_nil:CQ sc N (.o .nil af)
 | o_one (ha:CQ sc N (.e a e)):CQ sc N (.o (.cons a .nil) (aa e))
 | c_nil:CQ sc N (.c .nil [])
 | c_one (ht:tOK a=ah) (ha:CQ sc N (.e a e)):CQ sc N (.c (.cons a .nil) [e])
 | rng1 (hg:d8 sc "range"=ah) (hs:noStar e=ah) (h:CQ sc N (.e a e)):CQ sc N (.i .rng1 (.cons a .nil) (.Call (.Name "range" p) [e] [] pos))
 | rev (hg:d8 sc "reversed"=ah) (hs:noStar e=ah) (h:CQ sc N (.e a e)):CQ sc N (.i .rev (.cons a .nil) (.Call (.Name "reversed" p) [e] [] pos))
 | chs (h:CQ sc N (.e a x)):CQ sc N (.i .chs (.cons a .nil) x)
 | zipG (hg:d8 sc "zip"=ah) (hs:noStar x=ah) (hs2:noStar y=ah) (ha:CQ sc N (.e a x)) (hb:CQ sc N (.e b y)):CQ sc N (.i .zipG (.cons a (.cons b .nil)) (.Call (.Name "zip" p) [x,y] [] pos))
 | seq (h:CQ sc N (.e a x)):CQ sc N (.i .seq (.cons a .nil) x)
noncomputable abbrev CE' (sc:Um) (N:List az) (a:BT.E) (x:SR):Prop:=CQ sc N (.e a x)
noncomputable abbrev CEs (sc:Um) (N:List az) (as:BT.Es) (xs:List SR):Prop:=CQ sc N (.es as xs)
noncomputable abbrev CC (sc:Um) (N:List az) (as:BT.Es) (xs:List SR):Prop:=CQ sc N (.c as xs)
noncomputable abbrev CI (sc:Um) (N:List az) (sr:BT.Sr) (sa:BT.Es) (x:SR):Prop:=CQ sc N (.i sr sa x)
inductive LPa:Xz->List az->Prop where
 | one {p:Pos}:LPa ⟨[],[⟨"state",af,p⟩],af,[],[],af,[]⟩ ["state"]
 | two {p q:Pos}:LPa ⟨[],[⟨"row",af,p⟩,⟨"state",af,q⟩],af,[],[],af,[]⟩ ["row","state"]
noncomputable def Br (ps fs:List az) (sc:Um):Bool :=
 sc.kind==.function&&!sc.isCoroutine&&!sc.isGenerator&&sc.names.all (λy=>!(y.2==.cell))&&ps.all (λx=>sc.names.lookup x==aa .local) &&
 fs.all (λx=>sc.names.lookup x==aa .free&&sc.names.contains (x,.free))&&sc.names.all (λy=>!(y.2==.free)||fs.contains y.1)&&oR (ps++fs)
noncomputable def M9 (sc:Um) (N:List az) (fv:List (Nat×az)):Bool:=fv.all λq=>N[q.1]?==aa q.2&&sc.names.lookup q.2==aa .cell
inductive CL (sc:Um) (N:List az):BT.E->az->BT.Es->Nat->List (Nat×az)->SR->Prop where
 | zero {o bt:BT.E}{m:az}{L:Nat}{fv:List (Nat×az)}{oe be:SR}{apos cpos lp:Pos}{pa:Xz}{scope:Um}{ns ps:List az} (hl:BT.Jc L=aa ⟨ns,ns,.ret bt⟩) (hp:LPa pa ps) (hn:ns=ps++fv.map (·.2)) (hk:Br ps (fv.map (·.2)) scope=ah) (hv:M9 sc N fv=ah)
  (ht:N.contains (BT.iQ (BT.Ho L))=ah) (hc:CE' scope ns bt be) (h3:d9 oe=ah) (h6:(apos.endLine==cpos.line)=ah) (ho:CE' sc N o oe):CL sc N o m .nil L fv (.Call (.Attribute oe m apos) [.Lambda pa be scope lp] [] cpos)
 | one {o bt a:BT.E}{m:az}{L:Nat}{fv:List (Nat×az)}{oe be e:SR}{apos cpos lp:Pos}{pa:Xz}{scope:Um}{ns ps:List az} (hl:BT.Jc L=aa ⟨ns,ns,.ret bt⟩) (hp:LPa pa ps) (hn:ns=ps++fv.map (·.2)) (hk:Br ps (fv.map (·.2)) scope=ah) (hv:M9 sc N fv=ah)
  (ht:N.contains (BT.iQ (BT.Ho L))=ah) (hc:CE' scope ns bt be) (h3:d9 oe=ah) (h6:(apos.endLine==cpos.line)=ah) (ho:CE' sc N o oe) (hs:noStar e=ah) (ha:CE' sc N a e):CL sc N o m (.cons a .nil) L fv (.Call (.Attribute oe m apos) [e,.Lambda pa be scope lp] [] cpos)
def KT (K:SA) (a:S6) (xs:List V):Prop :=
 ∃ (o:aq) (its:Array aA) (n:Nat),(K.lookup a=aa o/\o.cls=.type "tuple"/\o.data=.seq its n/\its.size<=ak/\dD xs its.toList)/\o.dict=af
def KL (K:SA) (a:S6) (xs:List V):Prop:=∃ (its:List aA) (n:Nat),K.lookup a=aa { cls:=.type "list",data:=.seq its.toArray n }/\its.length<=ak/\dD xs its
def LL (K:SA) (H:Hp) (a:S6) (xs:List V):Prop:=Rd H a (.lst xs)\/KL K a xs
theorem LL.sq (h:LL K H a xs):SqL K H a xs:=by
 rcases h with h|⟨its,n,h1,h2,h3⟩
 exact .inl h;exact .inr ⟨_,its.toArray,n,h1,rfl,rfl,rfl,by simpa using h2,by simpa using h3⟩
def KD (P:Td) (w:Tz) (K:SA) (a:S6) (es:List (az×V)):Prop :=
 (a==UV)=ai/\∃ vs:List (Key×aA),KV (es.map λq=>(Sum.inr q.1,q.2)) vs/\∀ h:au,K.In h->h.DictOf (dB P w) a vs
mutual
inductive RD (K:SA) (m:List S6) (H:Hp):V->BT.D->Prop where
 | non:RD K m H .non .non
 | bl (b:Bool):RD K m H (.bl b) (.bl b)
 | int (i:Int):RD K m H (.int i) (.int i)
 | str (x:az) (h:PyData.strOk x=ah):RD K m H (.str x) (.str x)
 | tup {a:S6}{vs:List V}{ds:List BT.D} (h:(Rd H a (.tup vs)/\a∉m)\/KT K a vs) (r:RDs K m H vs ds):RD K m H (.ref a) (.tup ds)
 | lst {a:S6}{vs:List V}{ds:List BT.D} (h:(Rd H a (.lst vs)/\a∉m)\/KL K a vs) (r:RDs K m H vs ds):RD K m H (.ref a) (.lst ds)
inductive RDs (K:SA) (m:List S6) (H:Hp):List V->List BT.D->Prop where
 | nil:RDs K m H [] []
 | cons {v:V}{d:BT.D}{vs:List V}{ds:List BT.D} (r:RD K m H v d) (t:RDs K m H vs ds):RDs K m H (v::vs) (d::ds)
end
inductive RDk (K:SA):List (az×V)->List (az×BT.D)->Prop where
 | nil:RDk K [] []
 | cons {x:az}{v:V}{d:BT.D}{es:List (az×V)}{kvs:List (az×BT.D)} (r:∀ m H,RD K m H v d) (t:RDk K es kvs):RDk K ((x,v)::es) ((x,d)::kvs)
inductive RA (K:SA) (m:List S6) (H:Hp):V->BT.W->Prop where
 | p {v:V}{d:BT.D} (r:RD K m H v d):RA K m H v (.p d)
 | r {a:S6}{n:Nat} (h:m[n]?=aa a):RA K m H (.ref a) (.r n)
 | o {a:S6}{n:Nat} (h:m[n]?=aa a):RA K m H (.ref a) (.o n)
def Tr (m:List S6) (H:Hp) (a:S6) (o:aq):Prop:=H a=aa (.frz o (.own 0))/\a∉m
noncomputable def QS (x:az):az:=x++".<locals>."++"<lambda>"
inductive vO (m:List S6) (H:Hp) (cl:List (az×S6)):List az->List V->Prop where
 | nil:vO m H cl [] []
 | cons {x:az}{c:S6}{o:aq}{u:aA}{v:V}{xs:List az}{vs:List V} (h1:cl.lookup x=aa c) (h2:Tr m H c o) (h3:o.data=.cell (aa u)) (r:RelV v u) (t:vO m H cl xs vs):vO m H cl (x::xs) (v::vs)
inductive oS (m:List S6) (H:Hp) (f:S6) (L:Nat) (vs:List V):Prop where
 | mk (bt:_) (ps:_) (fs:_) (pa:_) (be:_) (sc:_) (cl:_) (pm:_) (ctv:_) (c':_) (oc:_) (os:_) (t:_) (q:_) (h1:BT.Jc L=aa ⟨ps++fs,ps++fs,.ret bt⟩) (h2:LPa pa ps) (h3:Br ps fs sc=ah) (h4:CE' sc (ps++fs) bt be) (h5:(∀ x y c,cl.lookup x=aa c->cl.lookup y=aa c->x=y)) (h6:(∀ x c,cl.lookup x=aa c->x∈fs)) (h7:Tr m H f (Zg "<lambda>" q pa be sc cl pm c' ctv)) (h8:Tr m H c' oc) (h9:oc.data=.fields os) (h10:os[1]?=aa (.str q t)) (h11:vO m H cl fs vs):oS m H f L vs
inductive RCs (K:SA) (m:List S6) (H:Hp):List V->List BT.Cp->Prop where
 | nil:RCs K m H [] []
 | cons {v:V}{x:BT.Cp}{vs:List V}{xs:List BT.Cp} (r:RA K m H v x.w) (t:RCs K m H vs xs):RCs K m H (v::vs) (x::xs)
def TB (K:SA) (H:Hp):Prop:=∀ x∈BT.iK,∀ c P,UN K x=aa (c,P)->∃ ps,H P=aa (.tbl ps)/\TriplesOk ps.toList ∧
 ∀ pos v,codeAmong pos ps.toList=aa v->∃ c' oc os t,v=.ref c'/\H c'=aa (.frz oc (.own 0))/\oc.data=.fields os/\os[1]?=aa (.str (QS x) t)
theorem TB.mono (h:TB K H) (h1:∀ P ps,H P=aa (.tbl ps)->H' P=aa (.tbl ps)) (h2:∀ a o vs,o.data=.fields vs->H a=aa (.frz o (.own 0))->H' a=aa (.frz o (.own 0))):TB K H':=λx hx c P e=>by obtain ⟨ps,e1,e2,e3⟩:=h x hx c P e;refine ⟨ps,h1 _ _ e1,e2,λpos v q=>?_⟩;obtain ⟨c',oc,os,t,q1,q2,q3⟩:=e3 pos v q;exact ⟨c',oc,os,t,q1,h2 _ _ _ q3.1 q2,q3⟩
def CN (K:SA) (c:az) (C:S6):Prop:=TL K S7 c=aa (aa (.ref C))
structure XT (K:SA) (c:az) (C:S6):Prop where
 ga:Ud K (.ref C) "__getattribute__"=aa (aa (.builtin "BaseException.__getattribute__"))
 nga:Ud K (.ref C) "__getattr__"=aa af
 mrb:WS K C (.type "BaseException")=aa ah
 dct:V0 K C=ah
 fnd:Ud K (.ref C) "__class__"=aa (aa (.builtin "object.__class__"))
 spc:YI K (.builtin "object.__class__") "__get__"=aa (aa (.builtin "getset_descriptor.__get__"))
 tak:Ze K (.builtin "object.__class__")=aa ah
 mro:WS K C (.type "object")=aa ah
 own:∀ cn,ur cn=ah->BT.vK c cn=ah->∃ D,CN K cn D/\UE K (.ref C) (.ref D)=aa (BT.nI c cn)
 val:UE K (.ref C) (.type "ValueError")=aa ah
def excAt (K:SA) (c:az) (a:S6):au->Prop:=λh=>∃ o C,CN K c C/\XT K c C/\h.get? a=aa o/\o.cls=.ref C
inductive RKs (K:SA) (m:List S6) (H:Hp):List (Key×V)->List (BT.Ky×BT.D)->Prop where
 | nil:RKs K m H [] []
 | cons {k:Key}{v:V}{d:BT.D}{vs:List (Key×V)}{kvs:List (BT.Ky×BT.D)} (hk:RD K m H (kV k) (BT.A9 k)) (r:RD K m H v d) (t:RKs K m H vs kvs):RKs K m H ((k,v)::vs) ((k,d)::kvs)
inductive RW (P:Td) (w:Tz) (K:SA) (m:List S6) (H:Hp):V->BT.W->Prop where
 | p {v:V}{d:BT.D} (r:RD K m H v d):RW P w K m H v (.p d)
 | r {a:S6}{n:Nat} (h:m[n]?=aa a):RW P w K m H (.ref a) (.r n)
 | k {a:S6}{es:List (az×V)}{kvs:List (az×BT.D)} (h:KD P w K a es) (r:RDk K es kvs):RW P w K m H (.ref a) (.k (.t kvs))
 | kl {a:S6}{o:aq}{vs:List (Key×V)}{kvs:List (BT.Ky×BT.D)} (h:H a=aa (.frz o (.dK vs))/\a∉m) (r:RKs K m H vs kvs):RW P w K m H (.ref a) (.k (.l kvs))
 | o {a:S6}{n:Nat} (h:m[n]?=aa a):RW P w K m H (.ref a) (.o n)
 | c {f:S6}{L:Nat}{vs:List V}{cs:List BT.Cp} (h:oS m H f L vs) (r:RCs K m H vs cs):RW P w K m H (.ref f) (.c (.l L) cs)
 | x {a:S6}{c:az} (h:H a=aa (.ext (excAt K c a))) (n:a∉m) (xt:∃ C,XT K c C):RW P w K m H (.ref a) (.x c)
 | g {f:S6}{x:az} (h:TL K S7 x=aa (aa (.ref f))) (r:TM K (.ref f)=ah):RW P w K m H (.ref f) (.c (.f x) [])
inductive RFs (K:SA) (m:List S6) (H:Hp):List (az×V)->List (az×BT.W)->Prop where
 | nil:RFs K m H [] []
 | cons {f:az}{v:V}{x:BT.W}{vs:List (az×V)}{fs:List (az×BT.W)} (r:RA K m H v x) (t:RFs K m H vs fs):RFs K m H ((f,v)::vs) ((f,x)::fs)
theorem CN.inj (h:CN K c C) (h':CN K c C'):C=C':=by have e:=h.symm.trans h';simpa using e
structure uu (K:SA) (c:az) (C:S6):Prop where
 cn:CN K c C
 cls:Cls K C
 no:∀ f,attrName f=ah->vz K C f
noncomputable def jF (K:SA) (m:List S6) (H:Hp) (a:S6):BT.Cl->Prop
 | .l xs=>∃ vs,H a=aa (.lst vs)/\RDs K m H vs xs| .o c fs=>∃ C dx vs,H a=aa (.ins C dx vs)/\uu K c C/\RFs K m H vs fs| .d kvs=>∃ vs,H a=aa (.dK vs)/\RKs K m H vs kvs| .z=>∃ ob vs,H a=aa (.frz ob (.dK vs))
inductive RWs (P:Td) (w:Tz) (K:SA) (m:List S6) (H:Hp):List V->List BT.W->Prop where
 | nil:RWs P w K m H [] []
 | cons {v:V}{x:BT.W}{vs:List V}{xs:List BT.W} (r:RW P w K m H v x) (t:RWs P w K m H vs xs):RWs P w K m H (v::vs) (x::xs)
structure RH (K:SA) (m:List S6) (H:Hp) (h:BT.HH):Prop where
 nd:m.Nodup
 len:m.length=h.length
 cl:∀ (i:Nat) (a:S6) (c:BT.Cl),m[i]?=aa a->h[i]?=aa c->jF K m H a c
 tb:TB K H
theorem Bs (e:BT.lat h n=aa xs):h[n]?=aa (.l xs):=by
 unfold BT.lat at e;cases g:h[n]? with
 | none=>rw[g] at e;exact cS e| some c=>rw[g] at e;cases c<;>simp[BT.ua] at e;rw[e]
theorem RH.cell (R:RH K m H h) (i:Nat) (a:S6) (xs:List BT.D) (e:m[i]?=aa a) (g:BT.lat h i=aa xs):∃ vs,H a=aa (.lst vs)/\RDs K m H vs xs:=R.cl i a _ e (Bs g)
structure RS (P:Td) (w:Tz) (K:SA) (m:List S6) (H:Hp) (σ:L2.St) (s:BT.Sl):Prop where
 len:σ.length=s.length
 get:∀ (i:Nat) (x:BT.W),s[i]?=aa (aa x)->∃ v,σ[i]?=aa (aa v)/\RW P w K m H v x
noncomputable def Hu:HO->Bool
 | .tbl _=>ah| _=>ai
structure Ext (m:List S6) (H:Hp) (m':List S6) (H':Hp):Prop where
 pre:∃ e,m'=m++e/\∀ a∈e,H a=af
 keep:∀ a o,H a=aa o->a∉m->Hu o=ai->H' a=aa o
 live:∀ a,H' a=af->H a=af
 frz:∀ a ob vs,H a=aa (.frz ob (.dK vs))->H' a=aa (.frz ob (.dK vs))
theorem Ext.refl (m:List S6) (H:Hp):Ext m H m H:=⟨⟨[],by simp,by simp⟩,λ_ _ h _ _=>h,λ_ h=>h,λ_ _ _ h=>h⟩
theorem Ext.iW (x:Ext m H m' H') (h:H a=aa o) (n:a∉m):a∉m':=by
 obtain ⟨e,rfl,he⟩:=x.pre;intro q;rcases List.mem_append.mp q with q|q
 exact n q;rw[he a q] at h;exact cS h
theorem Ext.trans (x:Ext m H m1 H1) (y:Ext m1 H1 m2 H2):Ext m H m2 H2:=by
 obtain ⟨e,rfl,he⟩:=x.pre;obtain ⟨e',rfl,he'⟩:=y.pre;refine ⟨⟨e++e',by rw[TH],λa ha=>?_⟩,λa o h n t=>y.keep a o (x.keep a o h n t) (x.iW h n) t,λa h=>x.live a (y.live a h),λa ob vs h=>y.frz a ob vs (x.frz a ob vs h)⟩;rcases List.mem_append.mp ha with q|q
 exact he a q;exact x.live a (he' a q)
theorem Rd.ext (x:Ext m H m' H') (h:Rd H a u) (n:a∉m) (t:Hu u=ai:=by rfl):Rd H' a u/\a∉m':=by
 rcases h with h|⟨o,h⟩
 exact ⟨.inl (x.keep _ _ h n t),x.iW h n⟩;exact ⟨.inr ⟨o,x.keep _ _ h n rfl⟩,x.iW h n⟩
theorem Tr.ext (x:Ext m H m' H') (h:Tr m H a o):Tr m' H' a o:=⟨x.keep _ _ h.1 h.2 rfl,x.iW h.1 h.2⟩
theorem vO.ext (x:Ext m H m' H') (r:vO m H cl xs vs):vO m' H' cl xs vs:=by
 induction r with
 | nil=>exact .nil| cons h1 h2 h3 r t ih=>exact .cons h1 (h2.ext x) h3 r ih
theorem oS.ext (x:Ext m H m' H') (h:oS m H f L vs):oS m' H' f L vs:=by obtain ⟨bt,ps,fs,pa,be,sc,cl,pm,ctv,c',oc,os,t,q,h0,h1,h2,h3,h4,h5,h6,h7,h8,h9,h10⟩:=h;exact ⟨bt,ps,fs,pa,be,sc,cl,pm,ctv,c',oc,os,t,q,h0,h1,h2,h3,h4,h5,h6.ext x,h7.ext x,h8,h9,h10.ext x⟩
section
variable {K:SA}
mutual
theorem RD.ext (x:Ext m H m' H'):∀ {v:V}{d:BT.D},RD K m H v d->RD K m' H' v d
 | _,_,.non=>.non| _,_,.bl b=>.bl b| _,_,.int i=>.int i| _,_,.str y h=>.str y h| _,_,.tup h r=>.tup (h.elim (λq=>.inl (Rd.ext x q.1 q.2)) .inr) (RDs.ext x r)| _,_,.lst h r=>.lst (h.elim (λq=>.inl (Rd.ext x q.1 q.2)) .inr) (RDs.ext x r)
theorem RDs.ext (x:Ext m H m' H'):∀ {vs:List V}{ds:List BT.D},RDs K m H vs ds->RDs K m' H' vs ds
 | _,_,.nil=>.nil| _,_,.cons r t=>.cons (RD.ext x r) (RDs.ext x t)
end
theorem Ext.ix (x:Ext m H m' H') {n:Nat} (h:m[n]?=aa a):m'[n]?=aa a:=by obtain ⟨e,rfl,_⟩:=x.pre;rw[Tf (by rcases UG _ m.length with q|q;exact q;rw[Tv q] at h;exact cS h)];exact h
theorem RA.ext (x:Ext m H m' H') (r:RA K m H v d):RA K m' H' v d:=by
 cases r with
 | p r=>exact .p (r.ext x)| r h=>exact .r (x.ix h)| o h=>exact .o (x.ix h)
theorem RCs.ext (x:Ext m H m' H') (r:RCs K m H vs cs):RCs K m' H' vs cs:=by
 induction r with
 | nil=>exact .nil| cons r t ih=>exact .cons (r.ext x) ih
theorem RKs.ext (x:Ext m H m' H') (r:RKs K m H vs kvs):RKs K m' H' vs kvs:=by
 induction r with
 | nil=>exact .nil| cons hk r t ih=>exact .cons (hk.ext x) (r.ext x) ih
theorem RW.ext (x:Ext m H m' H') (r:RW P w K m H v d):RW P w K m' H' v d:=by
 cases r with
 | p r=>exact .p (r.ext x)
 | r h =>
  obtain ⟨e,rfl,_⟩:=x.pre;refine .r ?_;rw[Tf (by rcases UG _ m.length with q|q;exact q;rw[Tv q] at h;exact cS h)];exact h
 | k h r=>exact .k h r| kl h r=>exact .kl ⟨x.keep _ _ h.1 h.2 rfl,x.iW h.1 h.2⟩ (r.ext x)| c h r=>exact .c (h.ext x) (r.ext x)| g h r=>exact .g h r| x h n xt=>exact .x (x.keep _ _ h n rfl) (x.iW h n) xt
 | o h =>
  obtain ⟨e,rfl,_⟩:=x.pre;refine .o ?_;rw[Tf (by rcases UG _ m.length with q|q;exact q;rw[Tv q] at h;exact cS h)];exact h
theorem RFs.ext (x:Ext m H m' H') (r:RFs K m H vs fs):RFs K m' H' vs fs:=by
 induction r with
 | nil=>exact .nil| cons r t ih=>exact .cons (r.ext x) ih
theorem jF.ext (x:Ext m H m' H') (e:H' a=H a) (r:jF K m H a c):jF K m' H' a c:=by
 cases c with
 | o c fs=>obtain ⟨C,dx,vs,h1,h2,h3⟩:=r;exact ⟨C,dx,vs,e.trans h1,h2,h3.ext x⟩| z=>obtain ⟨ob,vs,h1⟩:=r;exact ⟨ob,vs,e.trans h1⟩| _=>obtain ⟨vs,h1,h2⟩:=r;exact ⟨vs,e.trans h1,h2.ext x⟩
theorem jF.some (r:jF K m H a c):∃ o,H a=aa o:=by
 cases c with
 | o c fs=>obtain ⟨C,dx,vs,h1,h2,h3⟩:=r;exact ⟨_,h1⟩| z=>obtain ⟨ob,vs,h1⟩:=r;exact ⟨_,h1⟩| _=>obtain ⟨vs,h1,h2⟩:=r;exact ⟨_,h1⟩
theorem RS.ext (x:Ext m H m' H') (r:RS P w K m H σ s):RS P w K m' H' σ s :=
 ⟨r.len,λi y e=>by obtain ⟨v,h,q⟩:=r.get i y e;exact ⟨v,h,q.ext x⟩⟩
theorem RDs.length:∀ {vs:List V}{ds:List BT.D},RDs K m H vs ds->vs.length=ds.length
 | _,_,.nil=>rfl
 | _,_,.cons _ t=>by rw[SX,SX,RDs.length t]
theorem RWs.length:∀ {vs:List V}{ds:List BT.W},RWs P w K m H vs ds->vs.length=ds.length
 | _,_,.nil=>rfl
 | _,_,.cons _ t=>by rw[SX,SX,RWs.length t]
theorem RDs.get:∀ {vs:List V}{ds:List BT.D}{i:Nat}{d:BT.D},RDs K m H vs ds->ds[i]?=aa d->∃ v,vs[i]?=aa v/\RD K m H v d
 | _,_,_,_,.nil,e=>by simp at e
 | _,_,0,_,.cons r _,e=>by simp at e;subst e;exact ⟨_,rfl,r⟩
 | _,_,i+1,d,.cons _ t,e=>by obtain ⟨u,h1,h2⟩:=RDs.get (i:=i) (d:=d) t (by simpa using e);exact ⟨u,by simpa using h1,h2⟩
theorem RDs.append:∀ {vs ws:List V}{ds es:List BT.D},RDs K m H vs ds->RDs K m H ws es->RDs K m H (vs++ws) (ds++es)
 | _,_,_,_,.nil,s=>s| _,_,_,_,.cons r t,s=>.cons r (RDs.append t s)
theorem RDs.take:∀ {vs:List V}{ds:List BT.D} (n:Nat),RDs K m H vs ds->RDs K m H (vs.take n) (ds.take n)
 | _,_,0,_=>.nil| _,_,_+1,.nil=>.nil| _,_,n+1,.cons r t=>.cons r (RDs.take n t)
theorem RDs.drop:∀ {vs:List V}{ds:List BT.D} (n:Nat),RDs K m H vs ds->RDs K m H (vs.drop n) (ds.drop n)
 | _,_,0,r=>r| _,_,_+1,.nil=>.nil| _,_,n+1,.cons _ t=>RDs.drop n t
theorem RDs.dropLast:∀ {vs:List V}{ds:List BT.D},RDs K m H vs ds->RDs K m H vs.dropLast ds.dropLast
 | _,_,.nil=>.nil| _,_,.cons _ .nil=>.nil| _,_,.cons r (.cons q t)=>.cons r (RDs.dropLast (.cons q t))
theorem RDs.rep (r:RDs K m H vs ds):∀ k:Nat,RDs K m H (Te k vs).flatten (Te k ds).flatten
 | 0=>.nil
 | k+1=>by rw[UJ,UJ,UH,UH];exact RDs.append r (RDs.rep r k)
theorem qy {N:List S6} (hN:N.Nodup) {i j:Nat}{x:S6} (a:N[i]?=aa x) (b:N[j]?=aa x):i=j:=by
 have hi:i < N.length:=by
  rcases UG i N.length with z|z
  exact z;rw[Tv z] at a;exact cS a
 have hj:j < N.length:=by
  rcases UG j N.length with z|z
  exact z;rw[Tv z] at b;exact cS b
 rw[Tc hi] at a;rw[Tc hj] at b;exact (List.getElem_inj hN).mp ((S9 a).trans (S9 b).symm)
inductive RR (K:SA) (m:List S6) (H:Hp):V->BT.D->Prop where
 | d {v:V}{d:BT.D} (r:RD K m H v d):RR K m H v d
 | l {a:S6}{vs:List V}{ds:List BT.D} (h:H a=aa (.lst vs)) (r:RDs K m H vs ds):RR K m H (.ref a) (.lst ds)
theorem fj (RHh:RH K m H h) (r:RW P w K m H v x) (e:BT.rd x h=aa d):RR K m H v d:=by
 cases r with
 | p r=>cases e;exact .d r
 | @r a n q =>
  simp only[BT.rd] at e;cases g:BT.lat h n with
  | none=>rw[g] at e;exact cS e
  | some xs =>
   rw[g] at e;cases e;obtain ⟨vs,h1,h2⟩:=RHh.cell n a xs q g;exact .l h1 h2
 | _=>exact cS e
inductive RLs (K:SA) (m:List S6) (H:Hp) (v:V) (ds:List BT.D):Prop where
 | mk (a:S6) (vs:List V) (e:v=.ref a) (l:LL K H a vs) (r:RDs K m H vs ds):RLs K m H v ds
inductive RTs (K:SA) (m:List S6) (H:Hp) (v:V) (ds:List BT.D):Prop where
 | mk (a:S6) (vs:List V) (e:v=.ref a) (l:SqT K H a vs) (r:RDs K m H vs ds):RTs K m H v ds
theorem RR.lst {v:V}{ds:List BT.D} (r:RR K m H v (.lst ds)):RLs K m H v ds:=by
 cases r with
 | d r=>cases r with|lst h r=>exact ⟨_,_,rfl,h.elim (λq=>.inl q.1) .inr,r⟩
 | l h r=>exact ⟨_,_,rfl,.inl (.inl h),r⟩
theorem RR.tup {v:V}{ds:List BT.D} (r:RR K m H v (.tup ds)):RTs K m H v ds:=by
 cases r with
 | d r=>cases r with|tup h r=>exact ⟨_,_,rfl,h.elim (λq=>.inl q.1) (λ⟨o,its,n,q,_⟩=>.inr ⟨o,its,n,q⟩),r⟩
theorem RR.int {v:V}{i:Int} (r:RR K m H v (.int i)):v=.int i:=by cases r with|d r=>cases r;rfl
theorem RR.str {v:V}{x:az} (r:RR K m H v (.str x)):v=.str x/\PyData.strOk x=ah:=by cases r with|d r=>cases r with|str _ h=>exact ⟨rfl,h⟩
theorem RR.bl {v:V}{b:Bool} (r:RR K m H v (.bl b)):v=.bl b:=by cases r with|d r=>cases r;rfl
theorem RR.non (r:RR K m H v .non):v=.non:=by cases r with|d r=>cases r;rfl
theorem TB.new (hp:H p=af) (h:TB K H):TB K (upd H p o) :=
 h.mono (λP ps e=>by rw[dw (dZ e hp)];exact e) λa o _ _ e=>by rw[dw (dZ e hp)];exact e
theorem iL (hp:H p=af):Ext m H m (upd H p o) :=
 ⟨⟨[],by simp,by simp⟩,λa q h _ _=>by rw[dw (dZ h hp)];exact h,λa h=>by
  by_cases e:a=p
  rw[e];exact hp
  ·rw[dw e] at h;exact h,λa ob vs h=>by rw[dw (dZ h hp)];exact h⟩
theorem RH.iW (R:RH K m H h) (hp:H p=af):p∉m:=by
 intro q;obtain ⟨i,hi⟩:=WO q;have hl:i < h.length:=by
  rw[← R.len];rcases UG i m.length with z|z
  exact z;rw[Tv z] at hi;exact cS hi
 obtain ⟨o,e⟩:=(R.cl i p h[i] hi (Tc hl)).some;rw[e] at hp;cases hp
def Le (H H':Hp):Prop:=∀ a u,H a=aa u->H' a=aa u
theorem Le.tb (q:Le H H') (t:TB K H):TB K H':=t.mono (λ_ _ e=>q _ _ e) λ_ _ _ _ e=>q _ _ e
theorem vP (hp:H p=af):Le H (upd H p o):=λa u e=>by rw[dw (dZ e hp)];exact e
theorem RH.ext (R:RH K m H h) (x:Ext m H m H') (k:Le H H'):RH K m H' h :=
 ⟨R.nd,R.len,λi a c e1 e2=>by obtain ⟨o,e⟩:=(R.cl i a c e1 e2).some;exact (R.cl i a c e1 e2).ext x (by rw[e];exact k _ _ e),k.tb R.tb⟩
noncomputable def Na:HO->Bool
 | .lst _=>ah| .ins _ _ _=>ah| .dK _=>ah| _=>ai
noncomputable def Nb:HO->Bool
 | .frz _ (.dK _)=>ah| .lst _=>ah| .ins _ _ _=>ah| .dK _=>ah| _=>ai
theorem RH.mu (R:RH K m H h) (ha:a∈m):∃ o,H a=aa o/\Nb o=ah:=by
 obtain ⟨i,hi⟩:=WO ha;have hl:i < h.length:=by
  rw[← R.len];rcases UG i m.length with z|z
  exact z;rw[Tv z] at hi;exact cS hi
 have z:=R.cl i a h[i] hi (Tc hl);cases g:h[i] with
 | o c fs=>rw[g] at z;obtain ⟨C,dx,vs,h1,h2,h3⟩:=z;exact ⟨_,h1,rfl⟩| z=>rw[g] at z;obtain ⟨ob,vs,h1⟩:=z;exact ⟨_,h1,rfl⟩| _=>rw[g] at z;obtain ⟨vs,h1,h2⟩:=z;exact ⟨_,h1,rfl⟩
theorem RH.new (R:RH K m H h) (hp:H p=af):RH K m (upd H p o) h :=
 R.ext (iL hp) (vP hp)
theorem oU (hp:H p=af):Ext m H (m++[p]) (upd H p o) :=
 ⟨⟨[p],rfl,by simpa using hp⟩,λa q h _ _=>by rw[dw (dZ h hp)];exact h,λa h=>by
  by_cases e:a=p
  rw[e];exact hp
  ·rw[dw e] at h;exact h,λa ob vs h=>by rw[dw (dZ h hp)];exact h⟩
theorem RH.QT (R:RH K m H h) (hp:H p=af) (r:jF K (m++[p]) (upd H p o) p c):RH K (m++[p]) (upd H p o) (h++[c]):=by
 have np:=R.iW hp;have x:Ext m H (m++[p]) (upd H p o):=oU hp;refine ⟨List.nodup_append.mpr ⟨R.nd,by simp,λa ha b hb=>by simp at hb;subst hb;exact λe=>np (e ▸ ha)⟩,by simp[R.len],λi a ys e1 e2=>?_,R.tb.new hp⟩
 by_cases c:i < m.length
 ·rw[Tf c] at e1;rw[Tf (by rw[← R.len];exact c)] at e2;have ne:a≠p:=by intro e;subst e;exact np (TQ e1)
  exact (R.cl i a ys e1 e2).ext x (dw ne)
 ·have e:i=m.length:=by
   rcases UG i (m++[p]).length with z|z
   simp at z;lia;rw[Tv z] at e1;exact cS e1
  subst e;simp at e1;rw[R.len] at e2;simp at e2;subst e1 e2;exact r
theorem RH.QU (R:RH K m H h) (hp:H p=af) (r:RDs K m H vs xs):RH K (m++[p]) (upd H p (.lst vs)) (h++[.l xs]) :=
 R.QT hp ⟨vs,fc,r.ext (oU hp)⟩
theorem TB.set (hm:∃ u,H a=aa u/\Nb u=ah) (h:TB K H):TB K (upd H a o):=by obtain ⟨w,hw,hu⟩:=hm;refine h.mono (λP ps e=>?_) λb ob _ _ e=>?_;rw[dw (λz=>by subst z;rw[hw] at e;cases e;exact BT.dS hu)];exact e;rw[dw (λz=>by subst z;rw[hw] at e;cases e;exact BT.dS hu)];exact e
theorem uv {a:S6}{o:HO} (ha:a∈m) (nf:∃ u,H a=aa u/\Na u=ah):Ext m H m (upd H a o) :=
 ⟨⟨[],by simp,by simp⟩,λb u q n _=>by
  have ne:b≠a:=by intro e;subst e;exact n ha
  rw[dw ne];exact q,λb q=>by
  by_cases e:b=a
  subst e;rw[fc] at q;cases q
  ·rw[dw e] at q;exact q,λb ob vs q=>by
  obtain ⟨u,hu,hm⟩:=nf;rw[dw (λz=>by subst z;rw[hu] at q;cases q;exact BT.dS hm)];exact q⟩
theorem jG (ha:a∈m) (h:H a=aa (.lst us)):Ext m H m (upd H a (.lst vs)):=uv ha ⟨_,h,rfl⟩
theorem RH.setC {h:BT.HH} (R:RH K m H h) {n:Nat}{a:S6}{o:HO}{c:BT.Cl} (hn:m[n]?=aa a) (nf:∃ u,H a=aa u/\Na u=ah) (r:jF K m (upd H a o) a c):RH K m (upd H a o) (h.set n c):=by
 have x:Ext m H m (upd H a o):=uv (TQ hn) nf;refine ⟨R.nd,by simp[R.len],λi b ys e1 e2=>?_,R.tb.set (R.mu (TQ hn))⟩
 by_cases c:i=n
 ·subst c;rw[hn] at e1;cases e1;have hl:i < h.length:=by
   rw[← R.len];rcases UG i m.length with z|z
   exact z;rw[Tv z] at hn;exact cS hn
  rw[UL hl] at e2;cases e2;exact r
 ·rw[Ve (UM c)] at e2;have ne:b≠a:=by intro e;subst e;exact c (qy R.nd e1 hn)
  exact (R.cl i b ys e1 e2).ext x (dw ne)
theorem RH.set (R:RH K m H h) (hn:m[n]?=aa a) (hH:H a=aa (.lst us)) (r:RDs K m H vs xs):RH K m (upd H a (.lst vs)) (h.set n (.l xs)) :=
 R.setC hn ⟨_,hH,rfl⟩ ⟨vs,fc,r.ext (jG (TQ hn) hH)⟩
end
end BS
end
section
namespace BS
open PySem PySem.Spec PyProof.Rows L2 PySem.SeqAt
theorem vQ (l:S6) (xz:Array aA) (n:Nat) (dd:Option S6) (sl:Array (Option aA)) (k:Int) (t:Tok) (h1:-1000<=k) (h2:k<=1000) (c1:¬ xz.isEmpty=ah) (c2:k≠1) (c3:0 < k) (hz:xz.size*k.toNat<=ak) :
 Meets (Builtin.«tuple.__mul__» ⟨[.ref l,.int k t],[]⟩)
  (λA R s=>s.heap.get? l=aa { cls:=.type "tuple",dict:=dd,data:=.seq xz n,slots:=sl }/\R (.ok (.ret (.ref s.heap.objs.size))) { s with heap:=s.heap.push { cls:=.type "tuple",data:=.seq ((Te k.toNat xz).foldl (λx1 x2=>x1++x2) #[]) } }) :=
 .of_wp λprog w A R s h=>by
 obtain ⟨hp,g,d,tk,os⟩:=s;obtain ⟨hl,h⟩:=h;have f1:=YM;have a1:¬ (decide (k < -2 ^ 63)||decide (k ≥ 2 ^ 63))=ah:=by simp;lia
 have a2:¬ (xz.isEmpty||k==1)=ah:=by simp at c1 ⊢;exact ⟨c1,c2⟩
 have a3:¬ (decide (k<=0)||xz.isEmpty)=ah:=by simp at c1 ⊢;exact ⟨by lia,c1⟩
 have kk:(k.toNat:Int)=k:=by lia
 have a4:¬ ((xz.size:Int)*k > (2 ^ 63 - 1) / 8):=by
  have z:((xz.size*k.toNat:Nat):Int)<=(ak:Nat):=Int.ofNat_le.mpr hz;rw[Int.natCast_mul,kk] at z;have z2:((ak:Nat):Int)<=(2 ^ 63 - 1) / 8:=by decide
  lia
 have a5:¬ WX ((xz.size:Int)*k)=ah:=by have z:((xz.size*k.toNat:Nat):Int)<=(ak:Nat):=Int.ofNat_le.mpr hz;rw[Int.natCast_mul,kk] at z;simp only[WX,decide_eq_true_eq];lia
 have hsz:sizeOk (.seq ((Te k.toNat xz).foldl (λx1 x2=>x1++x2) #[])):=by show ((Te k.toNat xz).foldl (λx1 x2=>x1++x2) #[]).size<=ak;rw[AutoListH.size_joined,Array.size_empty,YL];lia
 wp_walk using V8 hl
 rw[if_neg a1]
 wp_walk using V8 hl
 refine wpAny_ite_split (λc=>absurd c ?_) (λ_=>?_);intro c;have a6:=a4;simp at a6 c;lia
 wp_walk using V8 hl
 refine wpAny_ite_false (decide_eq_false (Nat.not_lt.mpr hsz)) ?_
 wp_walk
 exact ⟨_,rfl,h⟩
theorem mR:fillsNumberSlot (.type "tuple") "mul"=pure ai :=
 PySem.fillsNumberSlot_seq (id:="tuple.__mul__") (r:=aa (.builtin "tuple.__rmul__")) F.slot_tuple_mul.lookup (by decide +kernel) F.slot_tuple_rmul.lookup (by decide +kernel)
theorem rL:seqRepeat? (.type "tuple")=pure (aa (.builtin "tuple.__mul__")):=by unfold seqRepeat?;rw[PySem.seqSlot_of (T:="tuple") (name:="__mul__") (id:="tuple.__mul__") F.slot_tuple_mul.lookup (by decide +kernel),PySem.seqSlot_of (T:="tuple") (name:="__rmul__") (id:="tuple.__rmul__") F.slot_tuple_rmul.lookup (by decide +kernel)];rfl
theorem oV (a:Int) (t:Tok) (l:S6) (xz:Array aA) (n:Nat) (dd:Option S6) (sl:Array (Option aA)) :
 Meets (Builtin.«int.__rmul__» ⟨[.int a t,.ref l],[]⟩) (λ_ R s=>s.heap.get? l=aa { cls:=.type "tuple",dict:=dd,data:=.seq xz n,slots:=sl }/\R (.ok (.ret Value.notImplemented)) s) :=
 .of_wp λprog w A R s h=>by obtain ⟨hp,g,d,tk,os⟩:=s;obtain ⟨hl,h⟩:=h;wp_walk;exact ⟨_,rfl,h⟩
theorem nJ (l:S6) (xz:Array aA) (n:Nat) (b:S6) (items2:Array aA) (n2:Nat) (dd:Option S6) (sl:Array (Option aA)) (hs0:¬(!xz.isEmpty&&Ut (xz.size+items2.size))=ah) (hs1:xz.size<=ak) (hs2:xz.size+items2.size<=ak+1) :
 Meets (Builtin.«list.extend» ⟨[.ref l,.ref b],[]⟩) (λ_ R s=>s.heap.get? l=aa { cls:=.type "list",dict:=af,data:=.seq xz n,slots:=#[] }/\s.heap.get? b=aa { cls:=.type "tuple",dict:=dd,data:=.seq items2 n2,slots:=sl }/\R (.ok (.ret UW)) { s with heap:=s.heap.update l (WM λx=>x++items2),toks:=s.toks }) :=
 .of_wp λprog w A R s h=>by
  obtain ⟨hp,g,d,tk,os⟩:=s;obtain ⟨hl,hb,h⟩:=h;have f1:=YM;have f2:=AutoSeq1.sub_tuple_tuple;have f3:=AutoSeq1.sub_list_list;have f4:=AutoSeq1.sub_tuple_list;have f5:=AutoSeq1.sub_list_tuple;have hz':(xz++items2).size<=ak+1:=by rw[Array.size_append];exact hs2
  wp_walk using (wpAny_updateSeq hl rfl (hz:=hs1) (_hz':=hz')),V8 hl,V8 hb;exact ⟨_,rfl,h⟩
end BS
end
section
namespace BS
open PySem PySem.Spec PyProof.Rows L2
inductive Bnd {α β:Type} (x:Option (α×BT.HH)) (k:α->BT.HH->Option β) (r:β):Prop where
 | mk (a:α) (g:BT.HH) (h1:x=aa (a,g)) (h2:k a g=aa r):Bnd x k r
inductive Nc {α β:Type} (x:Option α) (f:α->β) (r:β):Prop where
 | mk (a:α) (h1:x=aa a) (h2:f a=r):Nc x f r
inductive Bind (o:BT.Bin) (x y:BT.W) (h:BT.HH) (z:BT.W) (h':BT.HH):Prop where
 | mk (d d' q:BT.D) (h1:BT.rd x h=aa d) (h2:BT.rd y h=aa d') (h3:BT.iF o d d'=aa q) (h4:z=.p q) (h5:h'=h):Bind o x y h z h'
theorem cW {α β:Type}{x:Option (α×BT.HH)}{k:α->BT.HH->Option β}{r:β} (h:BT.bnd x k=aa r):Bnd x k r:=by
 cases x with
 | none=>exact cS h| some q=>exact ⟨q.1,q.2,rfl,h⟩
theorem dQ {α β:Type}{x:Option α}{f:α->β}{r:β} (h:x.map f=aa r):Nc x f r:=by
 cases x with
 | none=>exact cS h| some a=>exact ⟨a,rfl,S9 h⟩
def Post (P:Td) (w:Tz) (K:SA) (m:List S6) (H:Hp) (z:BT.W) (h':BT.HH) (Q:VK):Prop :=
 ∀ v H' m',Ext m H m' H'->RH K m' H' h'->RW P w K m' H' v z->Q v H'
inductive rOp (P:Td) (w:Tz) (K:SA) (f:BT.W->BT.W->BT.HH->Option (BT.W×BT.HH)) (v u:V) (H:Hp) (Q:VK):Prop where
 | mk (m:List S6) (h:BT.HH) (x y z:BT.W) (h':BT.HH) (R:RH K m H h) (rx:RW P w K m H v x) (ry:RW P w K m H u y) (e:f x y h=aa (z,h')) (p:Post P w K m H z h' Q):rOp P w K f v u H Q
theorem lN {o:BT.Bin}{x y:BT.W}{h:BT.HH}{z:BT.W}{h':BT.HH} (e:BT.rG o x y h=aa (z,h')):Bind o x y h z h':=by
 unfold BT.rG at e;cases e1:BT.rd x h with
 | none=>rw[e1] at e;exact cS e
 | some d =>
  cases e2:BT.rd y h with
  | none=>rw[e1,e2] at e;exact cS e
  | some d' =>
   rw[e1,e2] at e;obtain ⟨q,eq,er⟩:=dQ e;cases er;exact ⟨d,d',q,e1,e2,eq,rfl,rfl⟩
section
variable {X:Cx}
theorem fW:BT.lim<=ak:=by decide
inductive Nd (s:SL) (a:S6) (xs:List V):Prop where
 | mk (z:xs.length<=ak) (its:List aA) (n:Nat) (r:dD xs its) (l:xs.length=its.length) (e:s.heap.get? a=aa { cls:=.type "list",data:=.seq its.toArray n }):Nd s a xs
theorem rdL (I:Inv X zt σ H s) (r:LL X.K H a xs):Nd s a xs:=by
 rcases r with r|⟨its,n,h1,h2,h3⟩
 ·obtain ⟨z,its,n,r,e⟩:=r.ok I.hok;exact ⟨z,its,n,r,r.length,e⟩
 exact ⟨by rw[h3.length];exact h2,its,n,h3,h3.length,I.kIn a _ h1⟩
theorem Bt (I:Inv X zt σ H s) (ha:LL X.K H a xs) (hb:LL X.K H b ys) (hz:xs.length+ys.length<=ak)
 (q:∀ p,H p=af->Q (.ref p) (upd H p (.lst (xs++ys)))):ay (Ti X.prog X.w) X.A (US .Add (.ref a) (.ref b)) (EP X zt σ Q) X.xe s:=by
 obtain ⟨z,its,n,r,hl,e⟩:=rdL I ha;obtain ⟨z2,its2,n2,r2,hl2,e2⟩:=rdL I hb;refine PySem.P.add_list e e2 ?_ (by rw[SQ,SQ];lia);have ea:its.toArray++its2.toArray=(its++its2).toArray:=by simp
 rw[ea];exact ⟨.ref _,_,I.L5 (t':=s.toks) (r.append r2) (by rw[SN];lia),rfl,q _ I.fresh⟩
theorem zT (I:Inv X zt σ H s) (ha:SqT X.K H a xs) (hb:SqT X.K H b ys) (hz:xs.length+ys.length<=ak)
 (q0:xs=[]->Q (.ref b) H) (q1:ys=[]->Q (.ref a) H) (q:∀ p,H p=af->Q (.ref p) (upd H p (.tup (xs++ys)))):ay (Ti X.prog X.w) X.A (US .Add (.ref a) (.ref b)) (EP X zt σ Q) X.xe s:=by
 by_cases c:xs=[]
 ·obtain ⟨its,r1,p1,_⟩:=I.tuple ha;obtain ⟨its2,r2,p2,_⟩:=I.tuple hb;obtain ⟨⟨cls,dd,data,sl⟩,ho,hc,n,hd⟩:=id p1;obtain ⟨⟨cls2,dd2,data2,sl2⟩,ho2,hc2,n2,hd2⟩:=id p2;simp only at hc hd hc2 hd2;subst hc hd hc2 hd2;have z:its=[]:=r1.lH.mpr c;exact concat_meets ⟨_,ho,rfl⟩ ⟨_,ho2,rfl⟩ Yh Y7 Wg Wc (V5 _ _)
   (tuple_addW0 a b its.toArray its2.toArray n n2 dd dd2 sl sl2 (by simp[z])) ⟨ho,ho2,⟨.ref b,H,I,rfl,q0 c⟩⟩
 exact ED zt s σ H (.ref a) (.ref b) _ _ Q I rfl rfl ⟨a,b,xs,ys,rfl,rfl,ha,hb,c,hz,q1,λ_=>q⟩
theorem jV (R:RH X.K m H h) (hp:H p=af) (r:RDs X.K m H vs ds) (post:Post X.prog X.w X.K m H (.p (.tup ds)) h Q):Q (.ref p) (upd H p (.tup vs)) :=
 post _ _ m (iL hp) (R.new hp) (.p (.tup (.inl ⟨.inl fc,R.iW hp⟩) (r.ext (iL hp))))
theorem jW (R:RH X.K m H h) (hp:H p=af) (r:RDs X.K m H vs ds) (post:Post X.prog X.w X.K m H (.p (.lst ds)) h Q):Q (.ref p) (upd H p (.lst vs)) :=
 post _ _ m (iL hp) (R.new hp) (.p (.lst (.inl ⟨.inl fc,R.iW hp⟩) (r.ext (iL hp))))
theorem xG (R:RH X.K m H h) (hp:H p=af) (r:RDs X.K m H vs ds) (post:Post X.prog X.w X.K m H (.r h.length) (h++[.l ds]) Q):Q (.ref p) (upd H p (.lst vs)) :=
 post _ _ (m++[p]) (oU hp) (R.QU hp r) (.r (by rw[← R.len];simp))
theorem xH (R:RH X.K m H h) (hp:H p=af) (r:RDs X.K m H vs ds) (post:Post X.prog X.w X.K m H (BT.new mu ds h).1 (BT.new mu ds h).2 Q):Q (.ref p) (upd H p (.lst vs)):=by
 cases mu with
 | false=>exact jW R hp r post| true=>exact xG R hp r post
theorem Post.here (R:RH X.K m H h) (post:Post X.prog X.w X.K m H (.p d) h Q) (r:RD X.K m H v d):Q v H:=post v H m (.refl _ _) R (.p r)
theorem rM (hx:PyData.strOk x=ah) (hy:PyData.strOk y=ah):PyData.strOk (x++y)=ah:=by show (x.cps++y.cps).all _=ah;rw[Xh];simp only[PyData.strOk] at hx hy;rw[hx,hy];rfl
theorem Je:OpR X (US .Add) (rOp X.prog X.w X.K (BT.rG .add)):=by
 intro zt s σ H v u v' u' Q I rv ru h;obtain ⟨m,h,x,y,z,h',R,rx,ry,e,post⟩:=h;obtain ⟨d,d',q,e1,e2,e3,rfl,rfl⟩:=lN e;have r1:=fj R rx e1;have r2:=fj R ry e2;cases d<;>cases d'<;>first|exact cS e3|simp only[BT.ud,BT.iw,BT.oA,BT.eY,BT.oE,BT.ue,BT.oF,BT.oG,BT.oH,BT.mP] at e3
 ·cases e3;cases r1.int;cases r2.int;exact Iq zt s σ H _ _ _ _ Q I rv ru ⟨_,_,rfl,rfl,post.here R (.int _)⟩
 ·obtain ⟨c,e3⟩:=dR e3;cases e3;obtain ⟨ev,ov⟩:=r1.str;obtain ⟨eu,ou⟩:=r2.str;subst ev;subst eu;have:=fW;exact vv zt s σ H _ _ _ _ Q I rv ru ⟨_,_,rfl,rfl,by lia,post.here R (.str _ (rM ov ou))⟩
 ·obtain ⟨c,e3⟩:=dR e3;cases e3;obtain ⟨a,vs,rfl,ha,ra⟩:=r1.tup;obtain ⟨b,us,rfl,hb,rb⟩:=r2.tup;cases rv;cases ru;have l1:=ra.length;have l2:=rb.length;have:=fW;refine zT I ha hb (by lia) (λz=>?_) (λz=>?_) λp hp=>jV R hp (ra.append rb) post
  ·subst z;cases ra;cases r2 with|d r=>exact post.here R r
  ·subst z;cases rb;rw[Ug] at post;cases r1 with|d r=>exact post.here R r
 ·obtain ⟨c,e3⟩:=dR e3;cases e3;obtain ⟨a,vs,rfl,ha,ra⟩:=r1.lst;obtain ⟨b,us,rfl,hb,rb⟩:=r2.lst;cases rv;cases ru;have l1:=ra.length;have l2:=rb.length;have:=fW;exact Bt I ha hb (by lia) λp hp=>jW R hp (ra.append rb) post
noncomputable def QV:BT.Bin->Bool
 | .add=>ai| .mul=>ai| _=>ah
theorem rO {o:BT.Bin}{d d' z:BT.D} (ho:QV o=ah) (e:BT.iF o d d'=aa z):∃ i j,d=.int i/\d'=.int j:=by cases o<;>first|exact BT.dS ho|(cases d<;>first|exact cS e|(cases d'<;>first|exact cS e|exact ⟨_,_,rfl,rfl⟩))
theorem Jf:OpR X (US .Sub) (rOp X.prog X.w X.K (BT.rG .sub)):=by intro zt s σ H v u v' u' Q I rv ru h;obtain ⟨m,h,x,y,z,h',R,rx,ry,e,post⟩:=h;obtain ⟨d,d',q,e1,e2,e3,rfl,rfl⟩:=lN e;obtain ⟨i,j,rfl,rfl⟩:=rO rfl e3;rw[BT.oE] at e3;cases e3;cases (fj R rx e1).int;cases (fj R ry e2).int;exact Ir zt s σ H _ _ _ _ Q I rv ru ⟨_,_,rfl,rfl,post.here R (.int _)⟩
theorem Jg:OpR X (US .Mod) (rOp X.prog X.w X.K (BT.rG .mod)):=by intro zt s σ H v u v' u' Q I rv ru h;obtain ⟨m,h,x,y,z,h',R,rx,ry,e,post⟩:=h;obtain ⟨d,d',q,e1,e2,e3,rfl,rfl⟩:=lN e;obtain ⟨i,j,rfl,rfl⟩:=rO rfl e3;rw[BT.oH] at e3;obtain ⟨c,e3⟩:=dR e3;cases e3;cases (fj R rx e1).int;cases (fj R ry e2).int;exact Iv zt s σ H _ _ _ _ Q I rv ru ⟨_,_,rfl,rfl,c,post.here R (.int _)⟩
theorem EZ:OpR X (US .FloorDiv) (rOp X.prog X.w X.K (BT.rG .fdiv)):=by intro zt s σ H v u v' u' Q I rv ru h;obtain ⟨m,h,x,y,z,h',R,rx,ry,e,post⟩:=h;obtain ⟨d,d',q,e1,e2,e3,rfl,rfl⟩:=lN e;obtain ⟨i,j,rfl,rfl⟩:=rO rfl e3;rw[BT.mP] at e3;obtain ⟨c,e3⟩:=dR e3;simp only[SM,decide_eq_true_eq] at c;cases e3;cases (fj R rx e1).int;cases (fj R ry e2).int;exact Ex zt s σ H _ _ _ _ Q I rv ru ⟨_,_,rfl,rfl,⟨c.1,c.2⟩,post.here R (.int _)⟩
theorem rP (h:BT.big i=ah):-(2 ^ 64) < i/\i < 2 ^ 64:=by unfold BT.big at h;have:=of_decide_eq_true h;lia
theorem zU (I:Inv X zt σ H s) (ha:SqT X.K H a xs) (h1:2<=k) (h2:k<=1000) (hne:xs≠[]) (hz:xs.length*k.toNat<=ak)
 (q:∀ p,H p=af->Q (.ref p) (upd H p (.tup (Te k.toNat xs).flatten))):ay (Ti X.prog X.w) X.A (US .Mult (.ref a) (.int k t)) (EP X zt σ Q) X.xe s:=by
 obtain ⟨its,r,p,_⟩:=I.tuple ha;obtain ⟨⟨cls,dd,data,sl⟩,e,hc,n,hd⟩:=id p;simp only at hc hd;subst hc hd;have hl:=r.length;have hlen:its.toArray.size*k.toNat<=ak:=by rw[SQ,← hl];exact hz
 have f0:Ym (λx1 x2=>x1++x2) #[] (Te k.toNat its.toArray)=(Te k.toNat its).flatten.toArray:=by have:=foldl_rep its k.toNat [];rw[UT] at this;exact this
 have hi:¬ its.toArray.isEmpty=ah:=by
  intro z;have z2:its=[]:=by simpa using z
  exact hne (r.lH.mp z2)
 refine YG (T:="tuple") (U:="int") (by decide) ⟨_,e,rfl⟩ (λs'=>typeIs_int s' k t) mR F.fills_int_mul F.slot_int_rmul rL F.slot_int_index.lookup
  (Vk F.slot_int_rmul (typeIs_int s k t) F.entry_int_rmul (F.args_int_rmul_2 _ _) (oV k t a its.toArray n dd sl)
   ⟨e,rfl,⟨_,e,rfl⟩,Vk F.slot_tuple_mul ⟨_,e,rfl⟩ F.entry_tuple_mul (F.args_tuple_mul_2 _ _) (vQ a its.toArray n dd sl k t (by lia) h2 hi (by lia) (by lia) hlen) ⟨e,?_⟩⟩)
 rw[f0];have hf:H s.heap.objs.size=af:=I.hok.fresh (SY _);refine ⟨.ref s.heap.objs.size,_,I.laid (t':=s.toks) (o:=.tup (Te k.toNat xs).flatten) (λb ob q=>SH _ q) (SY _) ?_,rfl,q _ hf⟩;exact ⟨by rw[len_rep,YL];exact hz,_,r.rep k.toNat,IsTup.new _ _⟩
theorem Bu (I:Inv X zt σ H s) (hH:LL X.K H l xs) (h1:-(2 ^ 63)<=k) (h2:k<=1000) (hz:xs.length*k.toNat<=ak)
 (q:∀ p,H p=af->Q (.ref p) (upd H p (.lst (Te k.toNat xs).flatten))):ay (Ti X.prog X.w) X.A (US .Mult (.ref l) (.int k t)) (EP X zt σ Q) X.xe s:=by
 have h2':k < 2 ^ 63:=by lia
 obtain ⟨z,its,n,r,hl,e⟩:=rdL I hH;have hlen:its.toArray.size*k.toNat<=ak:=by rw[SQ,← hl];exact hz
 have hcap:¬ its.toArray.size*k.toNat > (2 ^ 63 - 1) / 8:=by
  have:(ak:Nat)<=(2 ^ 63 - 1) / 8:=by decide
  lia
 have hfit:¬ (!Builtin.List.listFitsIndex k)=ah:=by rw[fitsIndex_both h1 h2'];exact TJ
 have hlong:¬ Ut (its.toArray.size*k.toNat)=ah:=by rw[oq hlen];exact TJ
 have hnew:Ym (λx1 x2=>x1++x2) #[] (Te (if its.toArray.isEmpty=ah then 0 else k.toNat) its.toArray)=(Te k.toNat its).flatten.toArray:=by
  have f0:∀ m:Nat,Ym (λx1 x2=>x1++x2) #[] (Te m its.toArray)=(Te m its).flatten.toArray:=λm=>by have:=foldl_rep its m [];rw[UT] at this;exact this
  rw[f0];cases its with
  | nil=>simp| cons a r'=>rw[if_neg (by simp)]
 refine YG (T:="list") (U:="int") (by decide) ⟨_,e,rfl⟩ (λs'=>typeIs_int s' k t) noFill_list_mul F.fills_int_mul F.slot_int_rmul repeat_list F.slot_int_index.lookup
  (Vk F.slot_int_rmul (typeIs_int s k t) F.entry_int_rmul (F.args_int_rmul_2 _ _) (int___rmul___int_list k t l its.toArray n)
   ⟨e,rfl,⟨_,e,rfl⟩,Vk F.slot_list_mul ⟨_,e,rfl⟩ F.entry_list_mul (F.args_list_mul_2 _ _) (AutoListH.list___mul___list_int_3 l its.toArray n k t hfit hcap hlong) ⟨e,?_⟩⟩)
 rw[hnew];exact ⟨.ref _,_,I.L5 (t':=s.toks) (r.rep k.toNat) (by rw[len_rep,YL];exact hz),rfl,q _ I.fresh⟩
theorem Jh:OpR X (US .Mult) (rOp X.prog X.w X.K (BT.rG .mul)):=by
 intro zt s σ H v u v' u' Q I rv ru h;obtain ⟨m,h,x,y,z,h',R,rx,ry,e,post⟩:=h;obtain ⟨d,d',q,e1,e2,e3,rfl,rfl⟩:=lN e;have r1:=fj R rx e1;have r2:=fj R ry e2;cases d<;>cases d'<;>first|exact cS e3|simp only[BT.ud,BT.iw,BT.oA,BT.eY,BT.oE,BT.ue,BT.oF,BT.oG,BT.oH,BT.mP] at e3
 ·obtain ⟨c,e3⟩:=dR e3;cases e3;cases r1.int;cases r2.int;refine Iu zt s σ H _ _ _ _ Q I rv ru ⟨_,_,rfl,rfl,?_,post.here R (.int _)⟩;rcases Vx _ _ ▸ c with c|c
  exact .inl (rP c);exact .inr (rP c)
 ·obtain ⟨c,e3⟩:=dR e3;simp only[SM,decide_eq_true_eq] at c;cases e3;obtain ⟨a,vs,rfl,ha,ra⟩:=r1.tup;cases r2.int;obtain ⟨t,rfl⟩:=ru;cases rv;have l1:=ra.length;have:=fW;simp only[Wf,List.isEmpty_eq_false_iff] at c;refine zU I ha (by lia) (by lia) (λz=>?_) (by rw[l1];lia) λp hp=>jV R hp (ra.rep _) post;subst z;cases ra;exact c.1.2 rfl
 ·obtain ⟨c,e3⟩:=dR e3;simp only[SM,decide_eq_true_eq] at c;cases e3;obtain ⟨a,vs,rfl,ha,ra⟩:=r1.lst;cases r2.int;obtain ⟨t,rfl⟩:=ru;cases rv;have l1:=ra.length;have:=fW;refine Bu I ha (by lia) (by lia) (by rw[l1];lia) λp hp=>jW R hp (ra.rep _) post
end
mutual
noncomputable def pd:BT.D->PyData
 | .non=>.none| .bl b=>.bool b| .int i=>.int i| .str x=>.str x| .tup xs=>.tuple (pds xs)| .lst xs=>.list (pds xs)
noncomputable def pds:List BT.D->List PyData
 | []=>[]| x::r=>pd x::pds r
end
mutual
theorem rQ:∀ x y:BT.D,PyData.eqv (pd x) (pd y)=BT.eqv x y
 | .non,.non=>rfl| .non,.bl _=>rfl| .non,.int _=>rfl| .non,.str _=>rfl
 | .non,.tup _=>by simp[pd,PyData.eqv,BT.eqv]
 | .non,.lst _=>by simp[pd,PyData.eqv,BT.eqv]
 | .bl _,.non=>rfl| .bl _,.bl _=>rfl| .bl _,.int _=>rfl| .bl _,.str _=>rfl
 | .bl _,.tup _=>by simp[pd,PyData.eqv,BT.eqv]
 | .bl _,.lst _=>by simp[pd,PyData.eqv,BT.eqv]
 | .int _,.non=>rfl| .int _,.bl _=>rfl| .int _,.int _=>rfl| .int _,.str _=>rfl
 | .int _,.tup _=>by simp[pd,PyData.eqv,BT.eqv]
 | .int _,.lst _=>by simp[pd,PyData.eqv,BT.eqv]
 | .str _,.non=>rfl| .str _,.bl _=>rfl| .str _,.int _=>rfl| .str _,.str _=>rfl
 | .str _,.tup _=>by simp[pd,PyData.eqv,BT.eqv]
 | .str _,.lst _=>by simp[pd,PyData.eqv,BT.eqv]
 | .tup _,.non=>by simp[pd,PyData.eqv,BT.eqv]
 | .tup _,.bl _=>by simp[pd,PyData.eqv,BT.eqv]
 | .tup _,.int _=>by simp[pd,PyData.eqv,BT.eqv]
 | .tup _,.str _=>by simp[pd,PyData.eqv,BT.eqv]
 | .tup xs,.tup ys=>by simp only[pd,PyData.eqv,BT.eqv];exact rR xs ys
 | .tup _,.lst _=>by simp[pd,PyData.eqv,BT.eqv]
 | .lst _,.non=>by simp[pd,PyData.eqv,BT.eqv]
 | .lst _,.bl _=>by simp[pd,PyData.eqv,BT.eqv]
 | .lst _,.int _=>by simp[pd,PyData.eqv,BT.eqv]
 | .lst _,.str _=>by simp[pd,PyData.eqv,BT.eqv]
 | .lst _,.tup _=>by simp[pd,PyData.eqv,BT.eqv]
 | .lst xs,.lst ys=>by simp only[pd,PyData.eqv,BT.eqv];exact rR xs ys
theorem rR:∀ xs ys:List BT.D,PyData.eqvAll (pds xs) (pds ys)=BT.pY xs ys
 | [],[]=>by simp[pds,PyData.eqvAll,BT.pY]
 | [],_::_=>by simp[pds,PyData.eqvAll,BT.pY]
 | _::_,[]=>by simp[pds,PyData.eqvAll,BT.pY]
 | x::xs,y::ys=>by simp only[pds,PyData.eqvAll,BT.pY];rw[rQ x y,rR xs ys]
end
theorem jH:∀ {xs:List BT.D},(∀ x∈xs,(pd x).depth<=n)->PyData.depthAll (pds xs)<=n
 | [],_=>by simp[pds,PyData.depthAll]
 | x::xs,h=>by simp only[pds,PyData.depthAll];exact Nat.max_le.mpr ⟨h x SG,jH λy hy=>h y (SI _ hy)⟩
theorem jX:∀ (n:Nat) (d:BT.D),BT.dok n d=ah->(pd d).depth<=n
 | n,.non,_=>by simp[pd,PyData.depth]
 | n,.bl _,_=>by simp[pd,PyData.depth]
 | n,.int _,_=>by simp[pd,PyData.depth]
 | n,.str _,_=>by simp[pd,PyData.depth]
 | 0,.tup _,h=>by simp[BT.dok] at h
 | 0,.lst _,h=>by simp[BT.dok] at h
 | n+1,.tup xs,h=>by simp only[pd,PyData.depth];rw[BT.rf,TU] at h;exact Xx (jH λx hx=>jX n x (h x hx))
 | n+1,.lst xs,h=>by simp only[pd,PyData.depth];rw[BT.EO,TU] at h;exact Xx (jH λx hx=>jX n x (h x hx))
section
variable {K:SA}
mutual
theorem iX:∀ {v:V}{d:BT.D},RD K m H v d->(pd d).canLay0=ah
 | _,_,.non=>rfl| _,_,.bl _=>rfl| _,_,.int _=>rfl
 | _,_,.str _ h=>by simpa [pd,PyData.canLay0] using h
 | _,_,.tup _ r=>by simp only[pd,PyData.canLay0];exact jg r
 | _,_,.lst _ r=>by simp only[pd,PyData.canLay0];exact jg r
theorem jg:∀ {vs:List V}{ds:List BT.D},RDs K m H vs ds->PyData.canLayAll0 (pds ds)=ah
 | _,_,.nil=>by simp[pds,PyData.canLayAll0]
 | _,_,.cons r t=>by simp only[pds,PyData.canLayAll0];rw[iX r,jg t];rfl
end
mutual
theorem lO (I:Inv X zt σ H s):∀ {v:V}{d:BT.D}{u:aA},RD X.K m H v d->RelV v u->∃ as,Reads s.heap u (pd d) as
 | _,_,_,.non,r=>by cases r;exact ⟨_,.none⟩
 | _,_,_,.bl b,r=>by cases r;exact ⟨_,.bool b⟩
 | _,_,_,.int i,r=>by obtain ⟨t,rfl⟩:=r;exact ⟨_,.int i t⟩
 | _,_,_,.str x _,r=>by obtain ⟨t,rfl⟩:=r;exact ⟨_,.str x t⟩
 | _,_,_,.tup h r,q=>by cases q;obtain ⟨its,r1,⟨o,e1,e2,n,e3⟩,_⟩:=I.tuple (h.elim (λq=>.inl q.1) (λ⟨o,its,n,q,_⟩=>.inr ⟨o,its,n,q⟩));obtain ⟨as,ra⟩:=jY I r r1;exact ⟨_,.tuple e1 e2 e3 (by simpa using ra)⟩
 | _,_,_,.lst h r,q=>by cases q;obtain ⟨z,its,n,r1,_,e⟩:=rdL I (h.elim (λq=>.inl q.1) .inr);obtain ⟨as,ra⟩:=jY I r r1;exact ⟨_,.list e rfl rfl (by simpa using ra)⟩
theorem jY (I:Inv X zt σ H s):∀ {vs:List V}{ds:List BT.D}{us:List aA},RDs X.K m H vs ds->dD vs us->∃ as,ReadsAll s.heap us (pds ds) as
 | _,_,_,.nil,q=>by cases q;exact ⟨_,.nil⟩
 | _,_,_,.cons r t,q=>by
  cases q with
  | cons q1 q2 =>
   obtain ⟨as,ra⟩:=lO I r q1;obtain ⟨bs,rb⟩:=jY I t q2;exact ⟨_,.cons ra rb⟩
end
theorem jI (I:Inv X zt σ H s) (r:RR X.K m H v d) (q:RelV v u):∃ as,Reads s.heap u (pd d) as:=by
 cases r with
 | d r=>exact lO I r q
 | l h r =>
  cases q;obtain ⟨z,its,n,r1,_,e⟩:=rdL I (.inl (.inl h));obtain ⟨as,ra⟩:=jY I r r1;exact ⟨_,.list e rfl rfl (by simpa using ra)⟩
theorem iY (r:RR K m H v d):(pd d).canLay0=ah:=by
 cases r with
 | d r=>exact iX r| l h r=>simp only[pd,PyData.canLay0];exact jg r
theorem rS (h:BT.fL x y=ah):min (pd x).depth (pd y).depth<=100:=by
 unfold BT.fL at h;rcases Vx _ _ ▸ h with h|h
 have:=jX 100 x h;lia;have:=jX 100 y h;lia
theorem jZ (e:BT.lK o x y h=aa (z,h')) :
 (∃ kvs b,y=.k kvs/\BT.inK o x kvs=aa b/\z=.p (.bl b)/\h'=h)\/∃ d d' b,BT.rd x h=aa d/\BT.rd y h=aa d'/\BT.gR o d d'=aa b/\z=.p (.bl b)/\h'=h:=by
 unfold BT.lK at e;split at e
 ·rename_i kvs;obtain ⟨b,e1,e2⟩:=dQ e;cases e2;exact .inl ⟨kvs,b,rfl,e1,rfl,rfl⟩
 ·refine .inr ?_;cases e1:BT.rd x h with
  | none=>rw[e1] at e;exact cS e
  | some d =>
   cases e2:BT.rd y h with
   | none=>rw[e1,e2] at e;exact cS e
   | some d' =>
    rw[e1,e2] at e;obtain ⟨q,eq,er⟩:=dQ e;cases er;exact ⟨d,d',q,rfl,rfl,eq,rfl,rfl⟩
theorem Nf (hu:X.A.units+150 < cLine):OpR X (Uj .Eq) (rOp X.prog X.w X.K (BT.lK .eq)):=by
 intro zt s σ H v u v' u' Q I rv ru h;obtain ⟨m,h,x,y,z,h',R,rx,ry,e,post⟩:=h;rcases jZ e with ⟨kvs,b,rfl,e1,_,_⟩|⟨d,d',b,e1,e2,e3,rfl,rfl⟩
 exact absurd e1 (BT.oK rfl)
 ·have r1:=fj R rx e1;have r2:=fj R ry e2;rw[BT.xy] at e3;obtain ⟨c,e3⟩:=dR e3;cases e3;obtain ⟨as,ra⟩:=jI I r1 rv;obtain ⟨bs,rb⟩:=jI I r2 ru;have:=rS c;refine SeqAt.compareEq_reads ra rb (iY r1) (iY r2) (by lia) ?_;rw[rQ];exact ⟨.bl _,H,I,rfl,post.here R (.bl _)⟩
theorem Ng (hu:X.A.units+150 < cLine):OpR X (Uj .NotEq) (rOp X.prog X.w X.K (BT.lK .ne)):=by
 intro zt s σ H v u v' u' Q I rv ru h;obtain ⟨m,h,x,y,z,h',R,rx,ry,e,post⟩:=h;rcases jZ e with ⟨kvs,b,rfl,e1,_,_⟩|⟨d,d',b,e1,e2,e3,rfl,rfl⟩
 exact absurd e1 (BT.oK rfl)
 ·have r1:=fj R rx e1;have r2:=fj R ry e2;rw[BT.rA] at e3;obtain ⟨c,e3⟩:=dR e3;cases e3;obtain ⟨as,ra⟩:=jI I r1 rv;obtain ⟨bs,rb⟩:=jI I r2 ru;have:=rS c;refine SeqAt.compareNe_reads ra rb (iY r1) (iY r2) (by lia) ?_;rw[rQ];exact ⟨.bl _,H,I,rfl,post.here R (.bl _)⟩
noncomputable def Nh:BT.Cm->Bool
 | .lt=>ah| .le=>ah| .gt=>ah| .ge=>ah| _=>ai
theorem E3 {o:BT.Cm}{d d':BT.D}{b:Bool} (ho:Nh o=ah) (e:BT.gR o d d'=aa b):∃ i j,d=.int i/\d'=.int j:=by cases o<;>first|exact BT.dS ho|(cases d<;>first|exact cS e|(cases d'<;>first|exact cS e|exact ⟨_,_,rfl,rfl⟩))
theorem rT {o:BT.Cm}{c:CmpOp}{f:Int->Int->Bool} (op:OpR X (Uj c) (rI0 λi j=>.bl (f i j))) (ho:Nh o=ah) (hm:BT.memC o=ai) (hf:∀ i j,BT.gR o (.int i) (.int j)=aa (f i j)):OpR X (Uj c) (rOp X.prog X.w X.K (BT.lK o)):=by
 intro zt s σ H v u v' u' Q I rv ru h;obtain ⟨m,h,x,y,z,h',R,rx,ry,e,post⟩:=h;rcases jZ e with ⟨kvs,b,rfl,e1,_,_⟩|⟨d,d',b,e1,e2,e3,rfl,rfl⟩
 exact absurd e1 (BT.oK hm)
 ·obtain ⟨i,j,rfl,rfl⟩:=E3 ho e3;rw[hf] at e3;cases e3;cases (fj R rx e1).int;cases (fj R ry e2).int;exact op zt s σ H _ _ _ _ Q I rv ru ⟨_,_,rfl,rfl,post.here R (.bl _)⟩
theorem xJ (r:RR K m H v d):decide (v=.non)=BT.ig d:=by
 cases r with
 | d r=>cases r<;>rfl| l h r=>rfl
theorem E4 {v:V}{d:BT.D}{u:aA}{b:Bool} (r:RR K m H v d) (rv:RelV v u):isSame u (.bool b)=pure (BT.rj b d):=by
 cases r with
 | d r=>cases r<;>first|(cases rv;cases b<;>first|rfl|(rename_i c;cases c<;>rfl))|(obtain ⟨t,rfl⟩:=rv;cases b<;>rfl)
 | l h r=>cases rv;rfl
theorem Ji:OpR X (Uj .Is) (rOp X.prog X.w X.K (BT.lK .isN)):=by
 intro zt s σ H v u v' u' Q I rv ru h;obtain ⟨m,h,x,y,z,h',R,rx,ry,e,post⟩:=h;rcases jZ e with ⟨kvs,b,rfl,e1,_,_⟩|⟨d,d',b,e1,e2,e3,rfl,rfl⟩
 exact absurd e1 (BT.oK rfl)
 ·have r1:=fj R rx e1;have r2:=fj R ry e2;cases d'<;>first|exact cS e3|simp only[BT.rC,BT.rD,BT.rE,BT.rF,BT.oJ,BT.mQ,BT.eZ,BT.kQ] at e3
  cases e3;cases r2.non;refine Iw zt s σ H _ _ _ _ Q I rv ru ⟨rfl,?_⟩;rw[xJ r1];exact post.here R (.bl _)
theorem E5:OpR X (Uj .IsNot) (rOp X.prog X.w X.K (BT.lK .notN)):=by
 intro zt s σ H v u v' u' Q I rv ru h;obtain ⟨m,h,x,y,z,h',R,rx,ry,e,post⟩:=h;rcases jZ e with ⟨kvs,b,rfl,e1,_,_⟩|⟨d,d',b,e1,e2,e3,rfl,rfl⟩
 exact absurd e1 (BT.oK rfl)
 ·have r1:=fj R rx e1;have r2:=fj R ry e2;cases d'<;>first|exact cS e3|simp only[BT.rC,BT.rD,BT.rE,BT.rF,BT.oJ,BT.mQ,BT.zQ,BT.eZ,BT.kQ] at e3
  ·cases e3;cases r2.non;refine Ey zt s σ H _ _ _ _ Q I rv ru ⟨rfl,?_⟩;rw[xJ r1];exact post.here R (.bl _)
  ·cases e3;cases r2.bl;cases ru;exact SD (wpAny_of_eq (E4 r1 rv) (av ⟨.bl _,H,I,rfl,post.here R (.bl _)⟩))
open Classical in
noncomputable def kJ (h:au) (dx:PyData) (y:aA):Bool:=if q:∃ db as,Reads h y db as/\db.canLay0=ah then PyData.eqv (Classical.choose q) dx else ai
theorem Bv (r:Reads h y db as) (c:db.canLay0=ah):kJ h dx y=PyData.eqv db dx:=by have q:∃ db as,Reads h y db as/\db.canLay0=ah:=⟨db,as,r,c⟩;unfold kJ;rw[dif_pos q];obtain ⟨as',r',c'⟩:=Classical.choose_spec q;rw[SeqAt.Reads.unique _ _ _ _ _ c r r']
theorem rV (I:Inv X zt σ H s):∀ {vs:List V}{ds:List BT.D}{us:List aA},RDs X.K m H vs ds->dD vs us->us.any (kJ s.heap (pd d))=ds.any λy=>BT.eqv y d
 | _,_,_,.nil,q=>by cases q;rfl
 | _,_,_,.cons r t,q=>by
  cases q with
  | cons q1 q2 =>
   obtain ⟨as,ra⟩:=lO I r q1;rw[VQ,VQ,rV I t q2,Bv ra (iX r),rQ]
theorem rW (hu:X.A.units+150 < cLine) (I:Inv X zt σ H s) (rx:RR X.K m H v d) (rv:RelV v u):∀ {vs:List V}{ds:List BT.D}{us:List aA},RDs X.K m H vs ds->dD vs us->(ds.all λy=>BT.fL y d)=ah →
 ∀ y∈us,SeqAt.EqAt X.A.in1 s y u (kJ s.heap (pd d) y)
 | _,_,_,.nil,q,_=>by cases q;intro y hy;simp at hy
 | _,_,_,.cons r t,q,c=>by
  cases q with
  | cons q1 q2 =>
   rw[Wl,SM] at c;intro y hy;rcases List.mem_cons.mp hy with rfl|hy
   ·obtain ⟨as,ra⟩:=lO I r q1;obtain ⟨bs,rb⟩:=jI I rx rv;rw[Bv ra (iX r)];have:=rS c.1;refine SeqAt.eqAt_reads _ _ _ _ _ _ _ _ ra rb (iX r) (iY rx) ?_;show X.A.units+1+_ < _;lia
   exact rW hu I rx rv t q2 c.2 y hy
theorem Jj (hu:X.A.units+150 < cLine) (hk:∀ {kvs:BT.Kd}{x:BT.W}{b:Bool}{m:List S6}{H:Hp}{v u:V}{v' u':aA}{zt σ s Q},Inv X zt σ H s->RelV v v'->RelV u u'->RW X.prog X.w X.K m H v x->RW X.prog X.w X.K m H u (.k kvs)->BT.inK .mem x kvs=aa b->Q (V.bl b) H →
 ay (Ti X.prog X.w) X.A (Uj .In v' u') (EP X zt σ Q) X.xe s):OpR X (Uj .In) (rOp X.prog X.w X.K (BT.lK .mem)):=by
 intro zt s σ H v u v' u' Q I rv ru h;obtain ⟨m,h,x,y,z,h',R,rx,ry,e,post⟩:=h;rcases jZ e with ⟨kvs,b,rfl,e1,rfl,rfl⟩|⟨d,d',b,e1,e2,e3,rfl,rfl⟩
 exact hk I rv ru rx ry e1 (post.here R (.bl _))
 ·have r1:=fj R rx e1;have r2:=fj R ry e2;cases d'<;>first|exact cS e3|simp only[BT.rC,BT.rD,BT.rE,BT.rF,BT.oJ,BT.mQ,BT.eZ,BT.kQ] at e3
  ·obtain ⟨c,e3⟩:=dR e3;cases e3;obtain ⟨a,vs,rfl,ha,ra⟩:=r2.tup;cases ru;obtain ⟨its,q1,q2,_⟩:=I.tuple ha;refine SeqAt.in_tupleAt (kJ s.heap (pd d)) q2 (λy hy=>rW hu I r1 rv ra q1 c y (by simpa using hy)) ⟨.bl _,H,I,rfl,?_⟩;rw[show its.toArray.any (kJ s.heap (pd d))=its.any (kJ s.heap (pd d)) by simp,rV I ra q1];exact post.here R (.bl _)
  ·obtain ⟨c,e3⟩:=dR e3;cases e3;obtain ⟨a,vs,rfl,ha,ra⟩:=r2.lst;cases ru;obtain ⟨z,its,n,q1,_,q2⟩:=rdL I ha;refine SeqAt.in_listAt (kJ s.heap (pd d)) ⟨_,q2,rfl,_,rfl⟩ (λy hy=>rW hu I r1 rv ra q1 c y (by simpa using hy)) ⟨.bl _,H,I,rfl,?_⟩;rw[show its.toArray.any (kJ s.heap (pd d))=its.any (kJ s.heap (pd d)) by simp,rV I ra q1];exact post.here R (.bl _)
end
section
variable {P:Td}{w:Tz}{K:SA}{m m':List S6}{H H':Hp}
theorem zV (e:p.1=k):BT.ff (p::r) k=aa p.2:=by simp[BT.ff,Vw,e]
theorem zW (e:¬ p.1=k):BT.ff (p::r) k=BT.ff r k:=by simp[BT.ff,Vw,e]
theorem RKs.get (r:RKs K m H vs kvs) (k:Key):(BT.ff kvs k=af/\tW vs k=af)\/∃ v d,BT.ff kvs k=aa d/\tW vs k=aa v/\RD K m H v d:=by
 induction r with
 | nil=>exact .inl ⟨rfl,rfl⟩
 | @cons j v d vs kvs hk r t ih =>
  by_cases c:j=k
  exact .inr ⟨v,d,zV c,tX c,r⟩;rw[zW (p:=(j,d)) c,tY (p:=(j,v)) c];exact ih
theorem Bw (r:RD K m H v d) (e:BT.pZ d=aa k):v=kV k:=by cases r<;>cases e<;>rfl
inductive Bx (X:Cx) (m:List S6) (H:Hp) (s:SL) (a:S6) (kvs:List (BT.Ky×BT.D)) (k:Key):Prop where
 | no (vs:List (Key×aA)) (d:s.heap.DictOf (dB X.prog X.w) a vs) (n:(a==UV)=ai) (e1:BT.ff kvs k=af) (e2:valueAt vs k=af):Bx X m H s a kvs k
 | is (vs:List (Key×aA)) (d:s.heap.DictOf (dB X.prog X.w) a vs) (n:(a==UV)=ai) (x:BT.D) (v:V) (u:aA) (e1:BT.ff kvs k=aa x) (e2:valueAt vs k=aa u) (r:RelV v u) (q:RD X.K m H v x):Bx X m H s a kvs k
theorem vR (I:Inv X zt σ H s) (h:Rd H a (.dK ws)) (rk:RKs X.K m H ws kvs) (k:Key):Bx X m H s a kvs k:=by
 obtain ⟨z,hd,vs,rel,dd⟩:=L8 I.hok h;have rv:=rel.val k;rcases rk.get k with ⟨g1,g2⟩|⟨v,d,g1,g2,g3⟩
 ·rw[g2] at rv;cases e:valueAt vs k with
  | none=>exact .no vs dd hd g1 e| some u=>rw[e] at rv;exact rv.elim
 ·rw[g2] at rv;cases e:valueAt vs k with
  | none=>rw[e] at rv;exact rv.elim| some u=>rw[e] at rv;exact .is vs dd hd d v u g1 e rv g3
end
section
variable {prog:Td}{w:Tz}{A:Ub}{E:aA->SL->Prop}{s:SL}
theorem zX (h:Q 4238894112 { s with toks:=s.toks+1 }):ay (Ti prog w) A (pyHash .none) Q E s:=by show ay _ _ (pyHashByItsType .none) _ _ _;refine PySem.W.pyHash_slot (T:="NoneType") (typeIs_none s) PySem.F.slot_NoneType_hash PySem.F.entry_NoneType_hash (PySem.F.args_NoneType_hash_1 _) (by decide) (.inl rfl) ?_;show ay _ _ (slotArgs "__hash__" 0 ⟨[UW],[]⟩ >>= λ_=>retInt 4238894112) _ _ _;rw[slotArgs.eq_1];refine SD (av ?_);unfold retInt;refine SD (wpAny_mkInt ?_);exact av ⟨_,_,rfl,h⟩
end
noncomputable def By:Option Key->aA->Bool
 | none,.none=>ah| none,_=>ai| some k,v=>jy k v
theorem jh (h:By af v=ah):v=.none:=by cases v<;>first|rfl|(exfalso;exact TJ h)
theorem BA (a b:Key):decide (aa a=aa b)=decide (a=b):=by simp
noncomputable def optKind (prog:Td) (w:Tz):PySem.KeyKind prog w (Option Key) where
 is:=By
 hash:=λk=>match k with|none=>4238894112|some k=>Lq w k
 inj:=λv a b ha hb=>by
  cases a with
  | none =>
   cases jh ha;cases b with
   | none=>rfl
   | some b=>rcases dP (show jy b .none=ah from hb) with ⟨i,t,rfl,e⟩|⟨x,t,rfl,e⟩<;>exact nomatch e
  | some a =>
   cases b with
   | none =>
    cases jh hb;rcases dP (show jy a .none=ah from ha) with ⟨i,t,rfl,e⟩|⟨x,t,rfl,e⟩<;>exact nomatch e
   | some b=>rw[(dB prog w).inj v a b ha hb]
 byValue:=λk v h=>by
  cases k with
  | none=>cases jh h;rfl| some k=>exact (dB prog w).byValue k v h
 pyHash:=λ{A E s k v Q} hv h=>by
  cases k with
  | none=>cases jh hv;exact zX h| some k=>exact (dB prog w).pyHash (k:=k) hv h
 eqBool:=λ{A E s a b u v Q} hu hv h=>by
  cases a with
  | none =>
   cases jh hu;cases b with
   | none=>cases jh hv;exact SeqAt.EqAt.same _ _ _ _ _ (by simpa using h)
   | some b =>
    have h:Q ai s:=by simpa using h
    rcases dP (show jy b v=ah from hv) with ⟨i,t,rfl,rfl⟩|⟨x,t,rfl,rfl⟩
    exact SeqAt.EqAt.none_int i t _ _ _ _ h;exact SeqAt.EqAt.none_str x t _ _ _ _ h
  | some a =>
   cases b with
   | none =>
    cases jh hv;have h:Q ai s:=by simpa using h
    rcases dP (show jy a u=ah from hu) with ⟨i,t,rfl,rfl⟩|⟨x,t,rfl,rfl⟩
    exact SeqAt.EqAt.int_none i t _ _ _ _ h;exact SeqAt.EqAt.str_none x t _ _ _ _ h
   | some b=>rw[BA] at h;exact (dB prog w).eqBool (a:=a) (b:=b) hu hv h
 «strs»:=λk x t v h=>by
  cases k with
  | none=>exact nomatch jh h
  | some k=>exact (dB prog w).strs k x t v h
theorem map_none {prog:Td}{w:Tz}{h:au}{a:S6}{vs:List (Key×aA)} (dd:h.DictOf (dB prog w) a vs):∃ f,h.MapOf (optKind prog w) a f/\f af=af:=by
 obtain ⟨o,es,ep,ho,hx,hd,hk,_⟩:=dd;refine ⟨λk=>findBy By es k,⟨o,es,ep,ho,hx,hd,λe he=>?_,λk=>rfl⟩,?_⟩
 ·obtain ⟨k,h1,h2⟩:=hk e he;exact ⟨aa k,h1,h2⟩
 ·show (Array.find? (λe=>By af e.key) es).map (·.val)=af;have:Array.find? (λe=>By af e.key) es=af:=by rw[Array.find?_eq_none];intro e he q;obtain ⟨k,h1,_⟩:=hk e he;rw[jh q] at h1;rcases dP (show jy k .none=ah from h1) with ⟨i,t,rfl,e⟩|⟨x,t,rfl,e⟩<;>exact nomatch e
  rw[this];rfl
section
theorem RDs.atI {K:SA} (r:RDs K m H vs ds) (e:BT.atP ds i=aa d):∃ v,L2.atI vs i=aa v/\RD K m H v d:=by unfold BT.atP at e;unfold L2.atI;obtain ⟨j,h1,h2⟩:=Option.bind_eq_some_iff.mp e;obtain ⟨v,q1,q2⟩:=r.get h2;refine ⟨v,?_,q2⟩;rw[r.length];show ((BT.place ds.length i).bind λj=>vs[j]?)=aa v;rw[h1];exact q1
theorem E6 {x y:BT.W}{h:BT.HH}{z:BT.W}{h':BT.HH} (e:BT.ES x y h=aa (z,h')) :
 (∃ kvs k d,x=.k (.t kvs)/\y=.p (.str k)/\BT.dU k kvs=aa d/\z=.p d/\h'=h)\/(∃ kvs e k d,x=.k (.l kvs)/\y=.p e/\BT.pZ e=aa k/\BT.ff kvs k=aa d/\z=.p d/\h'=h)\/∃ d d' b,BT.rd x h=aa d/\BT.rd y h=aa d'/\BT.fE d d'=aa b/\z=.p b/\h'=h:=by
 unfold BT.ES at e;split at e
 ·rename_i kvs;obtain ⟨b,e1,e2⟩:=dQ e;cases e2;cases kvs with
  | t kvs =>
   cases y with
   | p d =>
    cases d with
    | str x=>exact .inl ⟨kvs,_,b,rfl,rfl,e1,rfl,rfl⟩| _=>exact cS e1
   | _=>exact cS e1
  | l kvs =>
   cases y with
   | p d =>
    obtain ⟨k,g1,g2⟩:=Option.bind_eq_some_iff.mp (show (BT.pZ d).bind (BT.ff kvs)=aa b from e1);exact .inr (.inl ⟨kvs,d,k,b,rfl,rfl,g1,g2,rfl,rfl⟩)
   | _=>exact cS e1
 ·refine .inr (.inr ?_);cases e1:BT.rd x h with
  | none=>rw[e1] at e;exact cS e
  | some d =>
   cases e2:BT.rd y h with
   | none=>rw[e1,e2] at e;exact cS e
   | some d' =>
    rw[e1,e2] at e;obtain ⟨q,eq,er⟩:=dQ e;cases er;exact ⟨d,d',q,rfl,rfl,eq,rfl,rfl⟩
theorem BB {K:SA}:∀ {es:List (az×V)}{kvs:List (az×BT.D)}{vs:List (Key×aA)},RDk K es kvs->KV (es.map λq=>((Sum.inr q.1:Key),q.2)) vs->BT.dU k kvs=aa d →
 ∃ u v,valueAt vs (Sum.inr k)=aa u/\RelV v u/\∀ m H,RD K m H v d
 | _,_,_,.nil,_,e=>by simp[BT.dU] at e
 | _,_,_,@RDk.cons _ x v dd es kvs r t,q,e=>by
  cases q with
  | @cons p z l1 l2 q1 q2 =>
   obtain ⟨z1,z2⟩:=z;obtain ⟨q11,q12⟩:=q1;simp only at q11 q12;subst q11;rw[BT.dU] at e
   by_cases c:k=x
   ·rw[if_pos c] at e;cases e;subst c;exact ⟨z2,v,by simp[valueAt],q12,r⟩
   ·rw[if_neg c] at e;obtain ⟨u,v',h1,h2,h3⟩:=BB t q2 e;refine ⟨u,v',?_,h2,h3⟩;have ne:¬ ((Sum.inr x:Key)=Sum.inr k):=λz=>c (Sum.inr.inj z).symm;simp only[valueAt] at h1 ⊢;rw[Wt (by simpa using ne)];exact h1
theorem mS (h:PyData.strOk x=ah) (hc:c∈x.cps.toList):PyData.strOk ⟨#[c]⟩=ah:=by simp only[PyData.strOk,Array.all_eq_true_iff_forall_mem] at h ⊢;intro y hy;simp at hy;subst hy;exact h y (by simpa using hc)
theorem Jk:IxR X (rOp X.prog X.w X.K BT.ES):=by
 intro value slice zt s σ H v u v' u' Q I rv ru h hs;obtain ⟨m,h,x,y,z,h',R,rx,ry,e,post⟩:=h;rcases E6 e with ⟨kvs,k,d,rfl,rfl,e1,rfl,rfl⟩|⟨kvs,e',k,d,rfl,rfl,e0,e1,rfl,rfl⟩|⟨d,d',b,e1,e2,e3,rfl,rfl⟩
 ·cases rx with
  | @k a es _ kd rk =>
   cases rv;cases ry with
   | p ry =>
    cases ry with
    | str _ ok =>
     obtain ⟨t,rfl⟩:=ru;obtain ⟨hm,vs,kv,dd⟩:=kd;obtain ⟨w',z,h1,h2,h3⟩:=BB rk kv e1;have D:=dd s.heap I.kIn;refine Yq (ops:=[.ref a,.str k t]) D.typeIs slot_dict_getitem.lookup ?_ hs;exact wpAny_getItem_of (knd:=dB X.prog X.w) (fF _ _ k t) D.mapOf h1 ⟨z,H,I.tok _,h2,post.here R (h3 _ _)⟩
 ·cases rx with
  | @kl a ob ws _ hh rk =>
   cases rv;cases ry with
   | p ry =>
    have ek:=Bw ry e0;subst ek;cases vR I (.inr ⟨_,hh.1⟩) rk k with
    | no _ _ _ g1 _=>rw[g1] at e1;exact cS e1
    | is vs dd n x v1 u1 g1 g2 g3 g4 =>
     rw[g1] at e1;cases e1;refine Yq (ops:=[.ref a,u']) dd.typeIs slot_dict_getitem.lookup ?_ hs;exact wpAny_getItem_of (knd:=dB X.prog X.w) (A7 ru) dd.mapOf g2 ⟨v1,H,I.tok _,g3,post.here R g4⟩
 ·have r1:=fj R rx e1;have r2:=fj R ry e2;cases d<;>cases d'<;>first|exact cS e3|simp only[BT.gw,BT.dG,BT.jE] at e3
  ·split at e3
   ·rename_i c;obtain ⟨cc,e4,e5⟩:=dQ e3;subst e5;obtain ⟨rfl,ok⟩:=r1.str;cases r2.int;have:=fW;refine IG value slice zt s σ H _ _ _ _ Q I rv ru ⟨_,_,cc,rfl,rfl,by lia,e4,post.here R (.str _ (mS ok ?_))⟩ hs;obtain ⟨j,h1,h2⟩:=Option.bind_eq_some_iff.mp e4;exact TQ h2
   exact cS e3
  ·obtain ⟨a,vs,rfl,ha,ra⟩:=r1.tup;cases r2.int;obtain ⟨z,q1,q2⟩:=ra.atI e3;exact IF value slice zt s σ H _ _ _ _ Q I rv ru ⟨a,vs,_,z,rfl,rfl,ha,q1,post.here R q2⟩ hs
  ·obtain ⟨a,vs,rfl,ha,ra⟩:=r1.lst;cases r2.int;obtain ⟨z,q1,q2⟩:=ra.atI e3;exact EF value slice zt s σ H _ _ _ _ Q I rv ru ⟨a,vs,_,z,rfl,rfl,ha.sq,q1,post.here R q2⟩ hs
theorem lP (n d:Nat) (o:Option Int):BT.clip n d o=HT.sIx n d o:=by
 cases o with
 | none=>rfl
 | some v =>
  simp only[BT.clip,HT.sIx];split;rfl
  ·split;lia;lia
theorem qa {E:aA->SL->Prop}{lo:Option Int} (ht:IsTup s.heap t xz) (hs:s.heap.IsSliceOf sl vl vu .none) (pl:Yg vl lo) (pu:Yg vu hi)
 (hw:HT.sIx xz.size 0 lo=0/\HT.sIx xz.size xz.size hi=xz.size) (h:Q (.ref t) s):ay (Ti prog w) A (WH (.ref t) (.ref sl)) Q E s:=by
 obtain ⟨os,hos,hcs,hds⟩:=id hs;have hTs:s.TypeIs (.ref sl) "slice":=⟨os,hos,hcs⟩;unfold WH
 try with_reducible refine Ul ?_
 first|refine SD (av ?_)|skip
 refine SD (XJ ht.typeIs (by decide) ?_);refine SD (Ur (name:=SE "__getitem__") ht.typeIs T7
  (U4 T7 ht.typeIs Xe ?_ (Xr _ _)))
 show ay _ _ (VG (.ref t) >>= _) _ _ s;refine SD (Y5 ht ?_);refine SD (X9 hTs ?_);rw[if_pos (by decide)];refine SD (HT.iV hs pl pu ?_);have hno:(((HT.sIx xz.size 0 lo:Nat):Int)==0&&(1:Int)==1&&(HT.sIx xz.size xz.size hi - HT.sIx xz.size 0 lo)==xz.size)=ah:=by rw[hw.1,hw.2];simp
 show ay _ _ (if (((HT.sIx xz.size 0 lo:Nat):Int)==0&&(1:Int)==1&&(HT.sIx xz.size xz.size hi - HT.sIx xz.size 0 lo)==xz.size)=ah then _ else _) _ _ s;rw[if_pos hno];unfold Builtin.Tuple.tupleIsExact;refine SD (SD (X9 ht.typeIs (av ?_)));rw[if_pos (by decide)];refine SD (YO ?_)
 first
  | exact av ⟨_,rfl,av h⟩
  | exact av ⟨_,rfl,h⟩
  | exact SD (av (av ⟨_,rfl,av h⟩))
inductive rSl (P:Td) (w:Tz) (K:SA) (v:V) (lo hi:Option Int) (H:Hp) (Q:VK):Prop where
 | mk (m:List S6) (h:BT.HH) (x:BT.W) (d b:BT.D) (R:RH K m H h) (rx:RW P w K m H v x) (e:BT.rd x h=aa d) (e2:BT.nF d lo hi=aa b) (p:Post P w K m H (.p b) h Q):rSl P w K v lo hi H Q
theorem RDs.cut {K:SA} (r:RDs K m H vs ds) (lo hi:Option Int):RDs K m H (tU vs lo hi) (BT.cut ds lo hi):=by unfold tU BT.cut;rw[lP,lP,r.length];exact (r.drop _).take _
theorem zY {lo:Option Int} (h1:HT.sIx ds.length 0 lo=0) (h2:HT.sIx ds.length ds.length hi=ds.length):BT.cut ds lo hi=ds:=by unfold BT.cut;rw[lP,lP,h1,h2];simp
theorem osl:SlR X (rSl X.prog X.w X.K):=by
 intro zt s σ H v v' vl vu lo hi sl Q I rv hs pl pu h;obtain ⟨m,h,x,d,b,R,rx,e1,e2,post⟩:=h;have r1:=fj R rx e1;cases d<;>simp only[BT.nF] at e2<;>try contradiction
 ·cases e2;obtain ⟨a,vs,rfl,ha,ra⟩:=r1.tup;cases rv
  by_cases c:HT.sIx vs.length 0 lo=0/\HT.sIx vs.length vs.length hi=vs.length
  ·obtain ⟨its,q1,q2,_⟩:=I.tuple ha;have hl:its.toArray.size=vs.length:=by rw[SQ];exact q1.length.symm
   refine ⟨"tuple",_,PyProof.Rows.slot_tuple_getitem.lookup,q2.typeIs,qa q2 hs pl pu (by rw[hl];exact c) ⟨.ref a,H,I,rfl,?_⟩⟩;cases r1 with
   | d r =>
    refine post.here R ?_;rw[zY (by rw[← ra.length];exact c.1) (by rw[← ra.length];exact c.2)];exact r
  exact IE zt s σ H (.ref a) (.ref a) vl vu lo hi sl Q I rfl hs pl pu ⟨a,vs,rfl,ha,c,λp hp=>jV R hp (ra.cut lo hi) post⟩
 ·cases e2;obtain ⟨a,vs,rfl,ha,ra⟩:=r1.lst;exact EG zt s σ H _ _ vl vu lo hi sl Q I rv hs pl pu ⟨a,vs,rfl,ha.sq,λp hp=>jW R hp (ra.cut lo hi) post⟩
end
theorem xK (m:BT.Me) (d:BT.D) (as:List BT.W) (h:BT.HH):BT.meW m (.p d) as h=(match BT.eW as with|some ds=>(BT.meD m d ds).map λx=>(.p x,h)|none=>af):=by cases m<;>rfl
section
inductive rMe (P:Td) (w:Tz) (K:SA) (me:BT.Me) (v:V) (vs:List V) (H:Hp) (Q:VK):Prop where
 | mk (m:List S6) (h:BT.HH) (x:BT.W) (ws:List BT.W) (z:BT.W) (h':BT.HH) (R:RH K m H h) (rx:RW P w K m H v x) (rs:RWs P w K m H vs ws) (e:BT.meW me x ws h=aa (z,h')) (p:Post P w K m H z h' Q):rMe P w K me v vs H Q
theorem getD_some {α:Type}{xs:List α}{n:Nat}{a:α} (h:xs[n]?=aa a):n < xs.length:=by
 rcases UG n xs.length with z|z
 exact z;rw[Tv z] at h;exact cS h
theorem zZ:MtR X "list.append" (rMe X.prog X.w X.K .append):=by
 intro zt s σ H v vs v' us Q I rv rus h;obtain ⟨m,h,x,ws,z,h',R,rx,rws,e,post⟩:=h;cases x with
 | p d=>cases ws with
  | nil=>exact cS e| cons _ _=>rw[xK] at e;split at e<;>(try exact cS e)
 | r n =>
  cases rws with
  | nil=>(first|exact cS e|simp[BT.meW] at e)
  | @cons y wy _ _ ry t =>
   cases t with
   | cons _ _=>cases ry<;>(first|exact cS e|simp[BT.meW] at e)
   | nil =>
    cases ry with
    | p ry =>
     rw[BT.vG] at e;cases g:BT.lat h n with
     | none=>rw[g] at e;exact cS e
     | some xs =>
      rw[g] at e;simp only at e;obtain ⟨c,e⟩:=dR e;cases e;cases rx with
      | @r a _ hn =>
       obtain ⟨us',hH,r⟩:=R.cell n a xs hn g;have:=fW;have hl:=r.length;exact zL zt s σ H _ _ _ _ Q I rv rus ⟨a,us',y,rfl,rfl,hH,by lia,post _ _ m (jG (TQ hn) hH) (R.set hn hH (r.append (.cons ry .nil))) (.p .non)⟩
    | _=>(first|exact cS e|simp[BT.meW] at e)
 | _=>(first|exact cS e|simp[BT.meW] at e)
theorem BD {α:Type}{xs:List α}{d:α} (h:xs.getLast?=aa d):xs[xs.length - 1]?=aa d:=by rw[← List.getLast?_eq_getElem?];exact h
theorem Jl:MtR X "list.pop" (rMe X.prog X.w X.K .pop):=by
 intro zt s σ H v vs v' us Q I rv rus h;obtain ⟨m,h,x,ws,z,h',R,rx,rws,e,post⟩:=h;cases x with
 | p d=>cases ws with
  | nil=>exact cS e| cons _ _=>rw[xK] at e;split at e<;>(try exact cS e)
 | r n =>
  cases rws with
  | cons _ _=>(first|exact cS e|simp[BT.meW] at e)
  | nil =>
   rw[BT.ER] at e;cases g:BT.lat h n with
   | none=>rw[g] at e;exact cS e
   | some xs =>
    rw[g] at e;simp only at e;cases gl:xs.getLast? with
    | none=>rw[gl] at e;exact cS e
    | some d =>
     rw[gl] at e;cases e;cases rx with
     | @r a _ hn =>
      obtain ⟨us',hH,r⟩:=R.cell n a xs hn g;have hl:=r.length;obtain ⟨y,hy,ry⟩:=r.get (BD gl);have x1:Ext m H m (upd H a (.lst us'.dropLast)):=jG (TQ hn) hH;exact IK zt s σ H _ _ _ _ Q I rv rus ⟨a,us',y,rfl,rfl,hH,by rw[hl];exact hy,post _ _ m x1 (R.set hn hH r.dropLast) (.p (ry.ext x1))⟩
 | _=>(first|exact cS e|simp[BT.meW] at e)
theorem BE (I:Inv X zt σ H s) (hH:H l=aa (.lst xs)) (hB:LL X.K H b zs) (hz:xs.length+zs.length<=ak) (q:Q .non (upd H l (.lst (xs++zs)))) :
 ay (Ti X.prog X.w) X.A (call (.builtin "list.extend") [.ref l,.ref b]) (EP X zt σ Q) X.xe s:=by
 obtain ⟨z,its,n,r,hl,e⟩:=I.EJ hH;obtain ⟨z2,its2,n2,r2,hl2,e2⟩:=rdL I hB;have hsz:its.toArray.size+its2.toArray.size<=ak:=by rw[SQ,SQ];lia
 have hlong:¬ (!its.toArray.isEmpty&&Ut (its.toArray.size+its2.toArray.size))=ah:=by rw[oq hsz,Bool.and_false];exact TJ
 refine Vk F.slot_list_extend ⟨_,e,rfl⟩ F.entry_list_extend (F.args_list_extend_2 _ _)
  (AutoSeq1.list_extend_list_list_0 l its.toArray n b its2.toArray n2 hlong (by rw[SQ];lia) (by lia)) ⟨e,e2,?_⟩
 refine ⟨.non,_,I.EI (its':=its++its2) hH e (by simp) (r.append r2) ?_,rfl,q⟩;rw[SN];lia
theorem E7 (I:Inv X zt σ H s) (hH:H l=aa (.lst xs)) (hB:SqT X.K H b zs) (hz:xs.length+zs.length<=ak) (q:Q .non (upd H l (.lst (xs++zs)))) :
 ay (Ti X.prog X.w) X.A (call (.builtin "list.extend") [.ref l,.ref b]) (EP X zt σ Q) X.xe s:=by
 obtain ⟨z,its,n,r,hl,e⟩:=I.EJ hH;obtain ⟨its2,r2,p2,_⟩:=I.tuple hB;obtain ⟨⟨cls,dd,data,sl⟩,e2,hc,n2,hd⟩:=id p2;simp only at hc hd;subst hc hd;have hl2:=r2.length;have hsz:its.toArray.size+its2.toArray.size<=ak:=by rw[SQ,SQ];lia
 have hlong:¬ (!its.toArray.isEmpty&&Ut (its.toArray.size+its2.toArray.size))=ah:=by rw[oq hsz,Bool.and_false];exact TJ
 refine Vk F.slot_list_extend ⟨_,e,rfl⟩ F.entry_list_extend (F.args_list_extend_2 _ _)
  (nJ l its.toArray n b its2.toArray n2 dd sl hlong (by rw[SQ];lia) (by lia)) ⟨e,e2,?_⟩
 refine ⟨.non,_,I.EI (its':=its++its2) hH e (by simp) (r.append r2) ?_,rfl,q⟩;rw[SN];lia
theorem Aa:MtR X "list.extend" (rMe X.prog X.w X.K .extend):=by
 intro zt s σ H v vs v' us Q I rv rus h;obtain ⟨m,h,x,ws,z,h',R,rx,rws,e,post⟩:=h;cases x with
 | p d=>cases ws with
  | nil=>exact cS e| cons _ _=>rw[xK] at e;split at e<;>(try exact cS e)
 | r n =>
  cases rws with
  | nil=>(first|exact cS e|simp[BT.meW] at e)
  | @cons y wy _ _ ry t =>
   cases t with
   | cons _ _=>(first|exact cS e|simp[BT.meW] at e)
   | nil =>
    rw[BT.vH] at e;cases g:BT.lat h n with
    | none=>rw[g] at e;exact cS e
    | some xs =>
     cases g2:(BT.rd wy h).bind BT.rm with
     | none=>rw[g,g2] at e;exact cS e
     | some ys =>
      rw[g,g2] at e;simp only at e;obtain ⟨c,e⟩:=dR e;cases e;obtain ⟨d,e1,e2⟩:=Option.bind_eq_some_iff.mp g2;have r2:=fj R ry e1;cases rx with
      | @r a _ hn =>
       obtain ⟨us',hH,r⟩:=R.cell n a xs hn g;cases rv;obtain ⟨u,rfl,ru⟩:=rus.one;have:=fW;have hl:=r.length;cases d<;>simp only[BT.rm] at e2<;>try contradiction
       ·cases e2;obtain ⟨b,vb,rfl,hb,rb⟩:=r2.tup;cases ru;have hl2:=rb.length;exact E7 I hH hb (by lia) (post _ _ m (jG (TQ hn) hH) (R.set hn hH (r.append rb)) (.p .non))
       ·cases e2;obtain ⟨b,vb,rfl,hb,rb⟩:=r2.lst;cases ru;have hl2:=rb.length;exact BE I hH hb (by lia) (post _ _ m (jG (TQ hn) hH) (R.set hn hH (r.append rb)) (.p .non))
 | _=>(first|exact cS e|simp[BT.meW] at e)
theorem RWs.pure {K:SA}:∀ {vs:List V}{ws:List BT.W}{ds:List BT.D},RWs P w K m H vs ws->BT.eW ws=aa ds->RDs K m H vs ds:=by
 intro vs ws
 induction ws generalizing vs with
 | nil =>
  intro ds r e;cases r;cases e;exact .nil
 | cons x ws ih =>
  intro ds r e;cases r with
  | cons r t =>
   cases r with
   | p r =>
    simp only[BT.eW] at e;obtain ⟨q,e1,e2⟩:=dQ e;subst e2;exact .cons r (ih t e1)
   | _=>exact cS e
end
section
inductive rBi (P:Td) (w:Tz) (K:SA) (b:BT.Bi) (mu:Bool) (vs:List V) (H:Hp) (Q:VK):Prop where
 | mk (m:List S6) (h:BT.HH) (ws:List BT.W) (z:BT.W) (h':BT.HH) (R:RH K m H h) (rs:RWs P w K m H vs ws) (e:BT.kBi b mu ws h=aa (z,h')) (p:Post P w K m H z h' Q):rBi P w K b mu vs H Q
inductive RRs (K:SA) (m:List S6) (H:Hp):List V->List BT.D->Prop where
 | nil:RRs K m H [] []
 | cons {v:V}{d:BT.D}{vs:List V}{ds:List BT.D} (r:RR K m H v d) (t:RRs K m H vs ds):RRs K m H (v::vs) (d::ds)
theorem iS {K:SA} (R:RH K m H h):∀ {vs:List V}{ws:List BT.W}{ds:List BT.D},RWs P w K m H vs ws->BT.rds ws h=aa ds->RRs K m H vs ds
 | _,_,_,.nil,e=>by cases e;exact .nil
 | _,_,_,.cons r t,e=>by simp only[BT.rds] at e;obtain ⟨d,e1,e2⟩:=Option.bind_eq_some_iff.mp e;obtain ⟨q,e3,e4⟩:=dQ e2;subst e4;exact .cons (fj R r e1) (iS R t e3)
inductive BiI (b:BT.Bi) (mu:Bool) (ws:List BT.W) (h:BT.HH) (z:BT.W) (h':BT.HH):Prop where
 | mk (ds:List BT.D) (d:BT.D) (h1:BT.rds ws h=aa ds) (h2:BT.biD b ds=aa d) (h3:(mu=ai/\z=.p d/\h'=h)\/∃ xs,mu=ah/\d=.lst xs/\z=.r h.length/\h'=h++[.l xs]):BiI b mu ws h z h'
theorem oW (e:BT.kBi b mu ws h=aa (z,h')):BiI b mu ws h z h':=by
 unfold BT.kBi at e;cases e1:BT.rds ws h with
 | none=>rw[e1] at e;exact cS e
 | some ds =>
  rw[e1] at e;simp only at e;cases e2:BT.biD b ds with
  | none=>rw[e2] at e;exact cS e
  | some d =>
   rw[e2] at e;simp only at e;cases mu with
   | false=>cases e;exact ⟨ds,d,e1,e2,.inl ⟨rfl,rfl,rfl⟩⟩
   | true =>
    simp only[if_true] at e;cases d<;>simp only at e<;>try contradiction
    cases e;exact ⟨ds,_,e1,e2,.inr ⟨_,rfl,rfl,rfl,rfl⟩⟩
theorem RRs.one {K:SA}{m:List S6}{H:Hp}{vs:List V}{d:BT.D} (r:RRs K m H vs [d]):∃ v,vs=[v]/\RR K m H v d:=by
 cases r with
 | cons r t=>cases t;exact ⟨_,rfl,r⟩
theorem Jm:gp X (.builtin "len") (rBi X.prog X.w X.K .len ai):=by
 intro zt s σ H vs us Q I rus h;obtain ⟨m,h,ws,z,h',R,rws,e,post⟩:=h;obtain ⟨ds,d,e1,e2,⟨_,rfl,rfl⟩|⟨_,q,_⟩⟩:=oW e
 ·have rr:=iS R rws e1
  match ds,e2 with
  | [.tup xs],e2 =>
   cases e2;obtain ⟨v,rfl,r⟩:=rr.one;obtain ⟨a,vt,rfl,ha,ra⟩:=r.tup;exact lI zt s σ H _ us Q I rus ⟨a,vt,rfl,.inr ha,by rw[ra.length];exact post.here R (.int _)⟩
  | [.lst xs],e2 =>
   cases e2;obtain ⟨v,rfl,r⟩:=rr.one;obtain ⟨a,vt,rfl,ha,ra⟩:=r.lst;exact lI zt s σ H _ us Q I rus ⟨a,vt,rfl,.inl ha.sq,by rw[ra.length];exact post.here R (.int _)⟩
  | [.str x],e2 =>
   rw[BT.zR] at e2;split at e2
   ·rename_i c;cases e2;obtain ⟨v,rfl,r⟩:=rr.one;obtain ⟨rfl,_⟩:=r.str;have:=fW;exact qX zt s σ H _ us Q I rus ⟨x,rfl,by lia,post.here R (.int _)⟩
   exact cS e2
 exact BT.dS q
theorem Jo:gp X (.type "int") (rBi X.prog X.w X.K .int ai):=by
 intro zt s σ H vs us Q I rus h;obtain ⟨m,h,ws,z,h',R,rws,e,post⟩:=h;obtain ⟨ds,d,e1,e2,⟨_,rfl,rfl⟩|⟨_,q,_⟩⟩:=oW e
 ·have rr:=iS R rws e1
  match ds,e2 with
  | [.int i],e2 =>
   cases e2;obtain ⟨v,rfl,r⟩:=rr.one;cases r.int;exact qm zt s σ H _ us Q I rus (.inl ⟨i,rfl,post.here R (.int _)⟩)
  | [.bl i],e2 =>
   cases e2;obtain ⟨v,rfl,r⟩:=rr.one;cases r.bl;exact qm zt s σ H _ us Q I rus (.inr ⟨i,rfl,post.here R (.int _)⟩)
 exact BT.dS q
theorem xM:gp X (.type "list") (rBi X.prog X.w X.K .list mu):=by
 intro zt s σ H vs us Q I rus h;obtain ⟨m,h,ws,z,h',R,rws,e,post⟩:=h;obtain ⟨ds,d,e1,e2,hz⟩:=oW e;have rr:=iS R rws e1;have fin:∀ {p:S6}{vt:List V}{xs:List BT.D},d=.lst xs->H p=af->RDs X.K m H vt xs->Q (.ref p) (upd H p (.lst vt)):=by
  intro p vt xs ed hp r;rcases hz with ⟨_,rfl,rfl⟩|⟨ys,_,e3,rfl,rfl⟩
  subst ed;exact jW R hp r post;rw[ed] at e3;cases e3;exact xG R hp r post
 match ds,e2 with
 | [.tup xs],e2 =>
  cases e2;obtain ⟨v,rfl,r⟩:=rr.one;obtain ⟨a,vt,rfl,ha,ra⟩:=r.tup;exact lJ zt s σ H _ us Q I rus ⟨a,vt,rfl,.inr ha,λp hp=>fin rfl hp ra⟩
 | [.lst xs],e2 =>
  cases e2;obtain ⟨v,rfl,r⟩:=rr.one;obtain ⟨a,vt,rfl,ha,ra⟩:=r.lst;exact lJ zt s σ H _ us Q I rus ⟨a,vt,rfl,.inl ha.sq,λp hp=>fin rfl hp ra⟩
theorem lQ {K:SA}:∀ {ns:List Int}{vs:List V},RDs K m H vs (ns.map BT.D.int)->vs=ns.map V.int
 | [],vs,r=>by cases r;rfl
 | n::ns,vs,r=>by
  cases r with
  | cons r t=>cases r;rw[lQ t];rfl
theorem BH:gp X (.type "tuple") (rBi X.prog X.w X.K .tuple ai):=by
 intro zt s σ H vs us Q I rus h;obtain ⟨m,h,ws,z,h',R,rws,e,post⟩:=h;obtain ⟨ds,d,e1,e2,⟨_,rfl,rfl⟩|⟨_,q,_⟩⟩:=oW e
 ·have rr:=iS R rws e1
  match ds,e2 with
  | [.tup xs],e2 =>
   cases e2;obtain ⟨v,rfl,r⟩:=rr.one;obtain ⟨a,vt,rfl,ha,ra⟩:=r.tup;refine kI zt s σ H _ us Q I rus ⟨a,vt,rfl,.inr ⟨ha,?_⟩⟩;cases r with
   | d r=>exact post.here R r
  | [.lst xs],e2 =>
   cases e2;obtain ⟨v,rfl,r⟩:=rr.one;obtain ⟨a,vt,rfl,ha,ra⟩:=r.lst;exact kI zt s σ H _ us Q I rus ⟨a,vt,rfl,.inl ⟨ha.sq,λp hp=>jV R hp ra post⟩⟩
 exact BT.dS q
noncomputable def tyD:BT.D->String
 | .non=>"NoneType"| .bl _=>"bool"| .int _=>"int"| .str _=>"str"| .tup _=>"tuple"| .lst _=>"list"
theorem E8 {E:aA->SL->Prop}
 (I:Inv X zt σ H s) (r:RR X.K m H v d) (rv:RelV v u) (e:UE X.K (.type (tyD d)) (.type c)=aa b) (h:∀ tk,Q (.bool b) { s with toks:=tk }) :
 ay (Ti X.prog X.w) A (call (.builtin "isinstance") [u,.type c]) Q E s:=by
 cases d with
 | non=>cases r.non;cases rv;exact U1 PySem.W.kitx_none I.kIn True.intro e (λz=>nomatch z) h| bl y=>cases r.bl;cases rv;exact U1 PySem.W.kitx_bool I.kIn True.intro e (λz=>nomatch z) h| int i=>cases r.int;obtain ⟨t,rfl⟩:=rv;exact U1 PySem.W.kitx_int I.kIn True.intro e (λz=>nomatch z) h| str y=>obtain ⟨rfl,_⟩:=r.str;obtain ⟨t,rfl⟩:=rv;exact U1 PySem.W.kitx_str I.kIn True.intro e (λz=>nomatch z) h
 | tup xs =>
  obtain ⟨a,vt,rfl,ha,_⟩:=r.tup;cases rv;obtain ⟨its,_,⟨o,h1,h2,_⟩,_⟩:=I.tuple ha;exact U1 PySem.W.kitx_tuple I.kIn ⟨o,h1,h2⟩ e (λz=>nomatch z) h
 | lst xs =>
  obtain ⟨a,vt,rfl,ha,_⟩:=r.lst;cases rv;obtain ⟨_,its,n,_,_,h1⟩:=rdL I ha;exact U1 PySem.W.kitx_list I.kIn ⟨_,h1,rfl⟩ e (λz=>nomatch z) h
theorem BI (K:SA) (t:String):UE K (.type t) (.type t)=aa ah:=by unfold UE;rw[if_pos (by simp)]
theorem BJ (h:uq b=aa (c,f)) (d:BT.D):BT.biD b [d]=aa (.bl (f d)):=by
 cases b<;>simp only[uq] at h<;>try contradiction
 all_goals (cases h;rfl)
theorem BK (h:uq b=aa (c,f)) (K:SA) (d:BT.D):UE K (.type (tyD d)) (.type c)=aa (f d):=by
 cases b<;>simp only[uq] at h<;>try contradiction
 all_goals (cases h;cases d)
 all_goals first
  | exact BI K _
  | (simp only[tyD];unfold UE;rw[if_neg (by decide)];unfold PySem.W.kitCls;first|rfl|kernel_rfl|decide +kernel)
end
end BS
end
section
namespace BX
open PySem PySem.Spec PyProof.Rows
section
variable {prog:Td}{w:Tz}{A:Ub}{R:Result->SL->Prop}{I:S6}{fp wr:List S6}{n:Nat}{P:Nat->aA->Prop}{St:Nat->au->Prop}{kw:List (az×aA)}
end
end BX
end
section
namespace BS
open PySem PySem.Spec PyProof.Rows L2
variable {K:SA}
noncomputable abbrev FT:=BT.FK->List BT.W->BT.HH->Option (BT.W×BT.HH)
inductive spF (P:Td) (w:Tz) (K:SA) (g:List BT.W->BT.HH->Option (BT.W×BT.HH)) (vs:List V) (H:Hp) (Q:VK) (E:XK):Prop where
 | mk (m:List S6) (ws:List BT.W) (h:BT.HH) (z:BT.W) (h':BT.HH) (R:RH K m H h) (r:RWs P w K m H vs ws) (e:g ws h=aa (z,h')) (p:Post P w K m H z h' Q):spF P w K g vs H Q E
inductive tD (X:Cx) (F:FT) (G:az->Option BT.W) (e:BT.E) (σ:L2.St) (H:Hp) (Q:VK):Prop where
 | mk (m:List S6) (s:BT.Sl) (h:BT.HH) (z:BT.W) (h':BT.HH) (R:RH X.K m H h) (S:RS X.prog X.w X.K m H σ s) (q:BT.ev F G e s h=aa (z,h')) (p:Post X.prog X.w X.K m H z h' Q):tD X F G e σ H Q
inductive tDs (X:Cx) (F:FT) (G:az->Option BT.W) (es:BT.Es) (σ:L2.St) (H:Hp) (Q:List V->Hp->Prop):Prop where
 | mk (m:List S6) (s:BT.Sl) (h:BT.HH) (zs:List BT.W) (h':BT.HH) (R:RH X.K m H h) (S:RS X.prog X.w X.K m H σ s) (q:BT.evs F G es s h=aa (zs,h')) (p:∀ vs H' m',Ext m H m' H'->RH X.K m' H' h'->RWs X.prog X.w X.K m' H' vs zs->Q vs H'):tDs X F G es σ H Q
inductive tDT (X:Cx) (F:FT) (G:az->Option BT.W) (e:BT.E) (σ:L2.St) (H:Hp) (Q:Bool->Hp->Prop):Prop where
 | mk (m:List S6) (s:BT.Sl) (h:BT.HH) (b:Bool) (h':BT.HH) (R:RH X.K m H h) (S:RS X.prog X.w X.K m H σ s) (q:BT.ev F G e s h=aa (.p (.bl b),h')) (p:∀ H' m',Ext m H m' H'->RH X.K m' H' h'->Q b H'):tDT X F G e σ H Q
def BN (P:Td) (w:Tz) (K:SA) (mg:az->Option aA) (base:au) (k L:Nat) (g:List BT.W->BT.HH->Option (BT.W×BT.HH)):Prop :=
 ∀ (A:Ub) (outer:List Env) (s:SL) (H:Hp) (f:S6) (us:List aA) (vs cvs:List V) (m:List S6) (ws:List BT.W) (cs:List BT.Cp) (h:BT.HH) (z:BT.W) (h':BT.HH) (Q:VK) (E:XK),f9 k A->zJ P w K mg base A outer s H->dD vs us →
  RH K m H h->RWs P w K m H vs ws->BT.noC ws=ah->oS m H f L cvs->RCs K m H cvs cs->g (ws++cs.map BT.Cp.w) h=aa (z,h')->Post P w K m H z h' Q->ao (Ti P w) A (.call (.ref f) ⟨us,[]⟩) (CR CX0 outer P w H s Q E) s
structure LX (X:Cx) (x:az):Prop where
 mem:x∈BT.iK
 ex:∃ c P,UN X.K x=aa (c,P)/\X.env.code=.ref c/\PySem.W.CodeHd X.base c P/\∀ y∈BT.iK,∀ c2,UN X.K y=aa (c2,P)->y=x
 ql:X.env.qual=x++".<locals>."
 bm:∃ bm ob,X.mg "__builtins__"=aa (.ref bm)/\bm≠Vy/\X.base.get? bm=aa ob/\ob.cls=.type "module"/\ob.dict=aa Vy/\ob.data=.plain
noncomputable def Ni:List az:=["len","abs","int","list","tuple","isinstance","str","bool","range","reversed","enumerate","zip","min","max","sorted","sum","all","any","set","ValueError","dict"]
inductive OkC (P:Td) (w:Tz) (K:SA) (mg:az->Option aA) (base:au) (A:Ub) (f:az) (sp:Sp):Prop where
 | mk (fa:S6) (fd:UQ) (ps:List az) (k:Nat) (h1:mg f=aa (.ref fa)) (h2:TM K (.ref fa)=ah) (h3:Binds K fd ps []) (h4:f9 k A) (h5:gH P w K mg base CX0 k fa fd ps sp):OkC P w K mg base A f sp
inductive OkM (P:Td) (w:Tz) (K:SA) (mg:az->Option aA) (base:au) (A:Ub) (CX:CXT) (c m:az) (sp:Sp):Prop where
 | mk (C g:S6) (fd:UQ) (ps:List az) (k:Nat) (h1:uu K c C) (h2:Iz K C m g) (h3:Binds K fd ps []) (h4:f9 k A) (h5:gH P w K mg base CX k g fd ps sp):OkM P w K mg base A CX c m sp
inductive OkN (P:Td) (w:Tz) (K:SA) (mg:az->Option aA) (base:au) (A:Ub) (c:az) (sp:Sp):Prop where
 | mk (C g:S6) (fd:UQ) (ps:List az) (k:Nat) (h1:uu K c C) (h2:mg c=aa (.ref C)) (h3:Mk K C g) (h4:Binds K fd ps []) (h5:f9 (k+1) A) (h6:gH P w K mg base CX0 k g fd ps sp):OkN P w K mg base A c sp
structure Ok (X:Cx) (F:FT) (G:az->Option BT.W) (sc:Um) (N:List az):Prop where
 hsc:X.env.scope=sc
 hN:X.N=N
 nd:X.N.Nodup
 calm:gq N=ah->X.calm=ah
 hu:X.A.units+150 < cLine
 own:Xw (Ti X.prog X.w) X.A X.env X.xe
 glob:∀ x z,G x=aa z->∃ u v,X.mg x=aa u/\RelV v u/\∀ m H,RW X.prog X.w X.K m H v z
 call:∀ (f:az) ws h r,F (.f f) ws h=aa r->OkC X.prog X.w X.K X.mg X.base X.A f (spF X.prog X.w X.K (F (.f f)))
 meth:∀ (c m:az) ws h r,F (.m c m) ws h=aa r->OkM X.prog X.w X.K X.mg X.base X.A CX0 c m (spF X.prog X.w X.K (F (.m c m)))
 mkc:∀ (c:az) ws h r,F (.m c "__init__") ws h=aa r->OkN X.prog X.w X.K X.mg X.base X.A c (spF X.prog X.w X.K (F (.m c "__init__")))
 blt:∀ x∈Ni,X.mg x=af
 lam:∀ (L:Nat) ws h r,F (.l L) ws h=aa r->∃ k,f9 k X.A/\BN X.prog X.w X.K X.mg X.base k L (F (.l L))
 lamx:(∀ x,X.fn x=ah)->∀ x,N.contains (BT.iQ x)=ah->LX X x
theorem PE.weak (h:PE X e t) (q:∀ σ H Q,t' σ H Q->t σ H Q):PE X e t':=λzt s σ H Q I hw=>h zt s σ H Q I (q _ _ _ hw)
theorem PT.weak (h:PT X e t) (q:∀ σ H Q,t' σ H Q->t σ H Q):PT X e t':=λzt s σ H Q I hw=>h zt s σ H Q I (q _ _ _ hw)
theorem PW.weak (h:PW X e t) (q:∀ σ H Q,t' σ H Q->t σ H Q):PW X e t':=λwh zt s σ H Q I hw=>h wh zt s σ H Q I (q _ _ _ hw)
theorem PA.weak (h:PA X es t) (q:∀ σ H Q,t' σ H Q->t σ H Q):PA X es t':=λpos zt s σ H Q I hw=>h pos zt s σ H Q I (q _ _ _ hw)
theorem cY (h:noStar e=ah):T5 (e::es) env=(ai,eval e env)::T5 es env:=by cases e<;>first|rfl|exact BT.dS h
theorem BO (h:rK b=ah):xu b:=λo i=>by cases b<;>first|rfl|exact BT.dS h
theorem nP (h:d9 o=ah):Zc o name env (eval o env)=eval o env:=by
 cases o with
 | Call fn as ks p =>
  cases fn with
  | Attribute _ _ _=>rfl| _=>exact BT.dS h
 | _=>first|rfl|exact cS h
noncomputable def dm:List SR->Bool
 | []=>ah| e::es=>noStar e&&dm es
theorem fm:∀ {es:List SR},dm es=ah->(VS pos (T5 es env)).any (·.1)=ai
 | [],_=>rfl
 | e::es,h=>by simp only[dm,SM] at h;rw[cY h.1];show (ai||(VS pos (T5 es env)).any (·.1))=ai;rw[fm h.2];rfl
theorem lR:∀ {es:List SR},dm es=ah->(VS pos (T5 es env)).all (λx=>!x.1)=ah
 | [],_=>rfl
 | e::es,h=>by simp only[dm,SM] at h;rw[cY h.1];show (!ai&&(VS pos (T5 es env)).all (λx=>!x.1))=ah;rw[lR h.2];rfl
noncomputable def Nj:Tq->Prop
 | .es _ xs=>dm xs=ah| _=>True
theorem BP (h:CQ sc N t):Nj t:=by
 induction h with
 | es_nil=>exact rfl
 | es_cons hs _ _ _ ih =>
  show (noStar _&&dm _)=ah;rw[SM];exact ⟨hs,ih⟩
 | _=>exact True.intro
theorem mT (h:CEs sc N as es):dm es=ah:=BP h
noncomputable def noM:Tq->Prop
 | .es (.cons _ _) []=>False| _=>True
theorem Jp (h:CQ sc N t):noM t:=by
 induction h with
 | _=>exact True.intro
theorem vS (h:CEs sc N (.cons a r) []):False:=Jp h
section
theorem rX (he:∀ s h,BT.ev F G e s h=BT.bnd (BT.ev F G a s h) (BT.k2 (BT.ev F G b s) f)) (σ:L2.St) (H:Hp) (Q:VK) (q:tD X F G e σ H Q) :
 tOp (rOp X.prog X.w X.K f) (tD X F G a) (tD X F G b) σ H Q:=by
 obtain ⟨m,s,h,z,h',R,S,ee,post⟩:=q;rw[he] at ee;obtain ⟨x,h1,e1,e2⟩:=cW ee;simp only[BT.k2] at e2;obtain ⟨y,h2,e3,e4⟩:=cW e2;refine ⟨m,s,h,x,h1,R,S,e1,λv H1 m1 x1 R1 r1=>?_⟩;refine ⟨m1,s,h1,y,h2,R1,S.ext x1,e3,λu H2 m2 x2 R2 r2=>?_⟩;exact ⟨m2,h2,x,y,z,h',R2,r1.ext x2,r2,e4,λw' H3 m3 x3 R3 r3=>post w' H3 m3 ((x1.trans x2).trans x3) R3 r3⟩
theorem lS (h:∀ σ H Q,tD X F G e σ H Q->t σ H Q) (σ:L2.St) (H:Hp) (Q:Bool->Hp->Prop) (q:tDT X F G e σ H Q):AX t σ H Q:=by
 obtain ⟨m,s,h0,b,h',R,S,ee,post⟩:=q;refine h σ H _ ⟨m,s,h0,_,h',R,S,ee,λv H' m' x R' r=>?_⟩;cases r with
 | p r=>cases r;exact ⟨b,rfl,post H' m' x R'⟩
theorem opB (h:Hq o op=ah):OpR X (US op) (rOp X.prog X.w X.K (BT.rG o)):=by rw[of_decide_eq_true h];cases o;exact Je;exact Jf;exact Jh;exact Jg;exact EZ
theorem Nk:∀ {es:List (az×V)}{kvs:List (az×BT.D)}{K:SA},RDk K es kvs->KV (es.map λq=>((Sum.inr q.1:Key),q.2)) vs->(valueAt vs (Sum.inr k)).isSome=(BT.dU k kvs).isSome:=by
 intro es
 induction es generalizing vs with
 | nil =>
  intro kvs K r q;cases r;cases q;rfl
 | cons p es ih =>
  intro kvs K r q;cases r with
  | @cons x v dd _ kvs r t =>
   cases q with
   | @cons p z l1 l2 q1 q2 =>
    obtain ⟨z1,z2⟩:=z;obtain ⟨q11,q12⟩:=q1;simp only at q11 q12;subst q11;rw[BT.dU]
    by_cases c:k=x
    ·subst c;simp[valueAt]
    ·rw[if_neg c];have ne:¬ ((Sum.inr x:Key)=Sum.inr k):=λz=>c (Sum.inr.inj z).symm;have:=ih t q2;simp only[valueAt] at this ⊢;rw[Wt (by simpa using ne)];exact this
theorem opC (O:Ok X F G sc N) (h:EY o op=ah):OpR X (Uj op) (rOp X.prog X.w X.K (BT.lK o)):=by
 rw[of_decide_eq_true h];cases o;exact Nf O.hu;exact Ng O.hu;exact rT LR rfl rfl λ_ _=>rfl;exact rT LS rfl rfl λ_ _=>rfl;exact rT LU rfl rfl λ_ _=>rfl;exact rT LV rfl rfl λ_ _=>rfl;exact Ji;exact E5
 ·refine Jj O.hu ?_;intro kvs x b m H v u v' u' zt σ s Q I rv ru rx rk e q;cases kvs with
  | t kvs =>
   cases x with
   | p d =>
    cases d<;>first|exact cS e|skip
    ·obtain rfl:=S9 e;cases rk with
     | @k a es _ kd rk =>
      cases ru;cases rx with
      | p rx =>
       cases rx;cases rv;obtain ⟨hm,vs,kv,dd⟩:=kd;obtain ⟨f,mo,fn⟩:=map_none (dd s.heap I.kIn);refine Yx (knd:=optKind X.prog X.w) (k:=af) rfl hm mo ?_;rw[fn];exact ⟨.bl _,H,I.tok _,rfl,q⟩
    obtain rfl:=S9 e;cases rk with
    | @k a es _ kd rk =>
     cases ru;cases rx with
     | p rx =>
      cases rx with
      | str x ok =>
       obtain ⟨t,rfl⟩:=rv;obtain ⟨hm,vs,kv,dd⟩:=kd;have D:=dd s.heap I.kIn;refine Yx (knd:=dB X.prog X.w) (fF _ _ _ t) hm D.mapOf ?_;rw[Nk rk kv];exact ⟨.bl _,H,I.tok _,rfl,q⟩
   | _=>exact cS e
  | l kvs =>
   cases x with
   | p d =>
    obtain ⟨k,g1,g2⟩:=dQ (show (BT.pZ d).map (λk=>(BT.ff kvs k).isSome)=aa b from e);subst g2;cases rk with
    | @kl a ob ws _ hh rk =>
     cases ru;cases rx with
     | p rx =>
      have ek:=Bw rx g1;subst ek;cases vR I (.inr ⟨_,hh.1⟩) rk k with
      | no vs dd n g1 g2 =>
       refine Yx (knd:=dB X.prog X.w) (A7 rv) n dd.mapOf ?_;rw[g2];exact ⟨.bl _,H,I.tok _,rfl,by rw[g1] at q;exact q⟩
      | is vs dd n x v1 u1 g1 g2 g3 g4 =>
       refine Yx (knd:=dB X.prog X.w) (A7 rv) n dd.mapOf ?_;rw[g2];exact ⟨.bl _,H,I.tok _,rfl,by rw[g1] at q;exact q⟩
   | _=>exact cS e
end
section
variable {X:Cx}{F:FT}{G:az->Option BT.W}{sc:Um}{N:List az}
theorem E9 (O:Ok X F G sc N) (x:az):X.env.kindOf x=sc.names.lookup x:=by rw[← O.hsc];rfl
theorem gK (h:d7 x=ah):(x==("__debug__":az))=ai/\(x==("__classdict__":az))=ai/\x≠"__name__":=by simp only[d7,SM,Wf] at h;exact ⟨h.1.1,h.1.2,λe=>by rw[e] at h;simp at h⟩
theorem eX (O:Ok X F G sc N) (h:d8 sc x=ah):Gl X x:=by show X.env.kindOf x=_;rw[E9 O];exact eq_of_beq h
theorem Jq (O:Ok X F G sc N) (h:xF sc x=ah):Vis X.env.scope x:=by
 rw[O.hsc];unfold xF at h;unfold Vis;cases e:sc.names.lookup x with
 | none=>rw[e] at h;exact BT.dS h
 | some k=>rw[e] at h;cases k<;>first|(exact .inl rfl)|(exact .inr (.inl rfl))|(exact .inr (.inr rfl))|exact BT.dS h
theorem Fb (O:Ok X F G sc N) (h2:N[i]?=aa y) (h3:xF sc y=ah) (h4:d7 y=ah):PE X (.Name y pos) (tD X F G (.var i)):=by
 obtain ⟨d1,d2,_⟩:=gK h4;refine PE.weak (Ia (i:=i) (by rw[O.hN];exact h2) (Jq O h3) d1 d2) fun σ H Q q=>?_;obtain ⟨m,s,h,z,h',R,S,ee,post⟩:=q;simp only[BT.ev] at ee;split at ee
 ·rename_i w e;cases ee;obtain ⟨v,hv,r⟩:=S.get i _ e;exact ⟨v,hv,post v H m (.refl _ _) R r⟩
 exact cS ee
theorem Fc (h:Hr d c=ah):PE X (.Constant c k pos) (tD X F G (.cst d)):=by
 have fin:∀ {v:V},(∀ m H,RD X.K m H v d)->∀ σ H Q,tD X F G (.cst d) σ H Q->tC v σ H Q:=λr σ H Q q=>by obtain ⟨m,s,h,z,h',R,S,ee,post⟩:=q;simp only[BT.ev] at ee;cases ee;exact post _ H m (.refl _ _) R (.p (r m H))
 cases d<;>cases c<;>first|exact BT.dS h|skip
 exact PE.weak Ib (fin λ_ _=>.non);cases eq_of_beq h;exact PE.weak Ls (fin λ_ _=>.bl _);cases eq_of_beq h;exact PE.weak AH (fin λ_ _=>.int _)
 ·have h:=Bool.and_eq_true_iff.mp h;cases eq_of_beq h.1;exact PE.weak Ic (fin λ_ _=>.str _ h.2)
theorem Fd (O:Ok X F G sc N) (h2:d8 sc y=ah) (h3:d7 y=ah):PE X (.Name y pos) (tD X F G (.glo y)):=by obtain ⟨d1,d2,_⟩:=gK h3;intro zt s σ H Q I q;obtain ⟨m,s',h,z,h',R,S,ee,post⟩:=q;simp only[BT.ev] at ee;obtain ⟨w,e1,e2⟩:=dQ ee;cases e2;obtain ⟨u,v,hm,r,rw⟩:=O.glob _ _ e1;exact wY (eX O h2) hm r d1 zt s σ H Q I (post v H m (.refl _ _) R (rw m H))
theorem lT (he:∀ s h,BT.ev F G e s h=BT.bnd (BT.evs F G as s h) k) (q:tD X F G e σ H Q)
 (h1:∀ m h xs z h' vs H1,RH X.K m H1 h->RWs X.prog X.w X.K m H1 vs xs->k xs h=aa (z,h')->Post X.prog X.w X.K m H1 z h' Q->R' vs H1):tDs X F G as σ H R':=by
 obtain ⟨m,s,h,z,h',R,S,ee,post⟩:=q;rw[he] at ee;obtain ⟨x,g,e1,e2⟩:=cW ee;exact ⟨m,s,h,x,g,R,S,e1,λv H1 m1 x1 R1 r1=>h1 m1 g x z h' v H1 R1 r1 e2 λw' H3 m3 x3 R3 r3=>post w' H3 m3 (x1.trans x3) R3 r3⟩
theorem ty_list (R:RH X.K m H h) (r:RW X.prog X.w X.K m H v (.r n)) (ok:BT.oM (.r n) h=ah):tyV X.K "list" v H:=by
 cases r with
 | @r a _ hn =>
  obtain ⟨xs,e⟩:=Option.isSome_iff_exists.mp ok;obtain ⟨vs,e,_⟩:=R.cell n a xs hn e;exact .inl ⟨rfl,vs,.inl (.inl e)⟩
theorem Fe (e:BT.kMe m ea x h=aa r):BT.oM x h=ah/\BT.bnd (ea h) (BT.meW m x)=aa r:=by unfold BT.kMe at e;split at e;rename_i c;exact ⟨c,e⟩;exact cS e
theorem QW (hm:m=.append\/m=.pop\/m=.extend) (e:BT.meW m x ws h=aa (z,h')):∃ n,x=.r n:=by
 cases x with
 | r n=>exact ⟨n,rfl⟩
 | p d =>
  rcases hm with rfl|rfl|rfl<;>cases ws<;>rw[xK] at e<;>(split at e<;>(try exact cS e))<;>exact cS e
 | k q =>
  rcases hm with rfl|rfl|rfl<;>cases ws<;>(first|exact cS e|simp[BT.meW] at e)
 | x _ =>
  rcases hm with rfl|rfl|rfl<;>cases ws<;>(first|exact cS e|simp[BT.meW] at e)
 | c _ _ =>
  rcases hm with rfl|rfl|rfl<;>cases ws<;>(first|exact cS e|simp[BT.meW] at e)
 | o q =>
  rcases hm with rfl|rfl|rfl<;>cases ws<;>(first|exact cS e|simp[BT.meW] at e)
end
section
theorem rY {X:Cx}{e a:BT.E}{k:BT.Sl->BT.W->BT.HH->Option (BT.W×BT.HH)} (he:∀ s h,BT.ev F G e s h=BT.bnd (BT.ev F G a s h) (k s)) {σ:L2.St}{H:Hp}{Q:VK} (q:tD X F G e σ H Q) {R':V->Hp->Prop}
 (h1:∀ m s h x z h' v H1,RH X.K m H1 h->RS X.prog X.w X.K m H1 σ s->RW X.prog X.w X.K m H1 v x->k s x h=aa (z,h')->Post X.prog X.w X.K m H1 z h' Q->R' v H1):tD X F G a σ H R':=by
 obtain ⟨m,s,h,z,h',R,S,ee,post⟩:=q;rw[he] at ee;obtain ⟨x,g,e1,e2⟩:=cW ee;exact ⟨m,s,h,x,g,R,S,e1,λv H1 m1 x1 R1 r1=>h1 m1 s g x z h' v H1 R1 (S.ext x1) r1 e2 λw' H3 m3 x3 R3 r3=>post w' H3 m3 (x1.trans x3) R3 r3⟩
theorem Jr {X:Cx}{e a:BT.E}{k:BT.Sl->Bool->BT.HH->Option (BT.W×BT.HH)}{kk:BT.Sl->BT.W->BT.HH->Option (BT.W×BT.HH)} (he:∀ s h,BT.ev F G e s h=BT.bnd (BT.ev F G a s h) (kk s))
 (hk:∀ s x h r,kk s x h=aa r->∃ b,x=.p (.bl b)/\k s b h=aa r) {σ:L2.St}{H:Hp}{Q:VK} (q:tD X F G e σ H Q) {R':Bool->Hp->Prop}
 (h1:∀ m s h b z h' H1,RH X.K m H1 h->RS X.prog X.w X.K m H1 σ s->k s b h=aa (z,h')->Post X.prog X.w X.K m H1 z h' Q->R' b H1):tDT X F G a σ H R':=by
 obtain ⟨m,s,h,z,h',R,S,ee,post⟩:=q;rw[he] at ee;obtain ⟨x,g,e1,e2⟩:=cW ee;obtain ⟨b,rfl,e3⟩:=hk _ _ _ _ e2;exact ⟨m,s,h,b,g,R,S,e1,λH1 m1 x1 R1=>h1 m1 s g b z h' H1 R1 (S.ext x1) e3 λw' H3 m3 x3 R3 r3=>post w' H3 m3 (x1.trans x3) R3 r3⟩
theorem mU (r:RW P w K m H v (.p (.bl b))):v=.bl b:=by cases r with|p r=>cases r;rfl
theorem xN (e:BT.EV eb x h=aa r):∃ b,x=.p (.bl b)/\(if b=ah then eb h else aa (.p (.bl ai),h))=aa r:=by
 cases x with
 | p d =>
  cases d<;>simp only[BT.EV] at e<;>try contradiction
  exact ⟨_,rfl,e⟩
 | _=>exact cS e
theorem BQ (e:BT.kOr eb x h=aa r):∃ b,x=.p (.bl b)/\(if b=ah then aa (.p (.bl ah),h) else eb h)=aa r:=by
 cases x with
 | p d =>
  cases d<;>simp only[BT.kOr] at e<;>try contradiction
  exact ⟨_,rfl,e⟩
 | _=>exact cS e
theorem Ff (e:BT.EW ea eb x h=aa r):∃ b,x=.p (.bl b)/\(if b=ah then ea h else eb h)=aa r:=by
 cases x with
 | p d =>
  cases d<;>simp only[BT.EW] at e<;>try contradiction
  exact ⟨_,rfl,e⟩
 | _=>exact cS e
theorem xO (e:BT.EU x h=aa r):∃ b,x=.p (.bl b)/\r=(.p (.bl (!b)),h):=by
 cases x with
 | p d =>
  cases d<;>simp only[BT.EU] at e<;>try contradiction
  cases e;exact ⟨_,rfl,rfl⟩
 | _=>exact cS e
theorem Fg (e:BT.ET x h=aa r):∃ i,x=.p (.int i)/\r=(.p (.int (-i)),h):=by
 cases x with
 | p d =>
  cases d<;>simp only[BT.ET] at e<;>try contradiction
  cases e;exact ⟨_,rfl,rfl⟩
 | _=>exact cS e
theorem xP {X:Cx}{a b:BT.E} (σ:L2.St) (H:Hp) (Q:VK) (q:tD X F G (.and a b) σ H Q):G3 (tD X F G a) (tD X F G b) σ H Q:=by
 refine rY (k:=λs=>BT.EV (BT.ev F G b s)) (λs h=>by simp only[BT.ev]) q λm s h x z h' v H1 R S r e post=>?_;obtain ⟨c,rfl,e2⟩:=xN e;refine ⟨c,mU r,?_⟩;cases c with
 | true=>rw[if_pos rfl] at e2 ⊢;exact ⟨m,s,h,z,h',R,S,e2,post⟩| false=>rw[if_neg (by decide)] at e2 ⊢;cases e2;exact post.here R (.bl _)
theorem BU {X:Cx}{a b:BT.E} (σ:L2.St) (H:Hp) (Q:VK) (q:tD X F G (.or a b) σ H Q):Lx (tD X F G a) (tD X F G b) σ H Q:=by
 refine rY (k:=λs=>BT.kOr (BT.ev F G b s)) (λs h=>by simp only[BT.ev]) q λm s h x z h' v H1 R S r e post=>?_;obtain ⟨c,rfl,e2⟩:=BQ e;refine ⟨c,mU r,?_⟩;cases c with
 | true=>rw[if_pos rfl] at e2 ⊢;cases e2;exact post.here R (.bl _)| false=>rw[if_neg (by decide)] at e2 ⊢;exact ⟨m,s,h,z,h',R,S,e2,post⟩
theorem xQ (σ:L2.St) (H:Hp) (Q:Bool->Hp->Prop) (q:tDT X F G (.and a b) σ H Q):Lu (tDT X F G a) (tDT X F G b) σ H Q:=by
 obtain ⟨m,s,h,c,h',R,S,ee,post⟩:=q;simp only[BT.ev] at ee;obtain ⟨x,g,e1,e2⟩:=cW ee;obtain ⟨d,rfl,e3⟩:=xN e2;refine ⟨m,s,h,d,g,R,S,e1,λH1 m1 x1 R1=>?_⟩;cases d with
 | true=>rw[if_pos rfl] at e3 ⊢;exact ⟨m1,s,g,c,h',R1,S.ext x1,e3,λH2 m2 x2 R2=>post H2 m2 (x1.trans x2) R2⟩| false=>rw[if_neg (by decide)] at e3 ⊢;cases e3;exact post H1 m1 x1 R1
theorem BV (σ:L2.St) (H:Hp) (Q:Bool->Hp->Prop) (q:tDT X F G (.or a b) σ H Q):tOr (tDT X F G a) (tDT X F G b) σ H Q:=by
 obtain ⟨m,s,h,c,h',R,S,ee,post⟩:=q;simp only[BT.ev] at ee;obtain ⟨x,g,e1,e2⟩:=cW ee;obtain ⟨d,rfl,e3⟩:=BQ e2;refine ⟨m,s,h,d,g,R,S,e1,λH1 m1 x1 R1=>?_⟩;cases d with
 | true=>rw[if_pos rfl] at e3 ⊢;cases e3;exact post H1 m1 x1 R1| false=>rw[if_neg (by decide)] at e3 ⊢;exact ⟨m1,s,g,c,h',R1,S.ext x1,e3,λH2 m2 x2 R2=>post H2 m2 (x1.trans x2) R2⟩
theorem Fi (σ:L2.St) (H:Hp) (Q:Bool->Hp->Prop) (q:tDT X F G (.not a) σ H Q):Lv (tDT X F G a) σ H Q:=by obtain ⟨m,s,h,c,h',R,S,ee,post⟩:=q;simp only[BT.ev] at ee;obtain ⟨x,g,e1,e2⟩:=cW ee;obtain ⟨d,rfl,e3⟩:=xO e2;cases e3;exact ⟨m,s,h,d,h',R,S,e1,λH1 m1 x1 R1=>post H1 m1 x1 R1⟩
theorem Fj {X:Cx}{a:BT.E} (σ:L2.St) (H:Hp) (Q:VK) (q:tD X F G (.not a) σ H Q):G4 (tD X F G a) σ H Q:=by refine rY (k:=λs=>BT.EU) (λs h=>by simp only[BT.ev]) q λm s h x z h' v H1 R S r e post=>?_;obtain ⟨c,rfl,e2⟩:=xO e;cases e2;exact ⟨c,mU r,post.here R (.bl _)⟩
theorem Js {X:Cx}{c a b:BT.E} (σ:L2.St) (H:Hp) (Q:VK) (q:tD X F G (.ite c a b) σ H Q):tIf (tDT X F G c) (tD X F G a) (tD X F G b) σ H Q:=by
 refine Jr (k:=λs t h=>if t=ah then BT.ev F G a s h else BT.ev F G b s h) (kk:=λs=>BT.EW (BT.ev F G a s) (BT.ev F G b s)) (λs h=>by simp only[BT.ev]) (λs x h r e=>Ff e) q λm s h t z h' H1 R S e post=>?_;cases t with
 | true=>rw[if_pos rfl] at e ⊢;exact ⟨m,s,h,z,h',R,S,e,post⟩| false=>rw[if_neg (by decide)] at e ⊢;exact ⟨m,s,h,z,h',R,S,e,post⟩
theorem Jt {X:Cx}{a:BT.E} (σ:L2.St) (H:Hp) (Q:VK) (q:tD X F G (.neg a) σ H Q):tUn (rU λi=>.int (-i)) (tD X F G a) σ H Q:=by refine rY (k:=λs=>BT.ET) (λs h=>by simp only[BT.ev]) q λm s h x z h' v H1 R S r e post=>?_;obtain ⟨c,rfl,e2⟩:=Fg e;cases e2;cases r with|p r=>cases r;exact ⟨c,rfl,post.here R (.int _)⟩
theorem uw (σ:L2.St) (H:Hp) (Q:VK) (q:tD X F G (.chain o o' a b c) σ H Q) :
 vq (rOp X.prog X.w X.K (BT.lK o)) (rOp X.prog X.w X.K (BT.lK o')) (tD X F G a) (tD X F G b) (tD X F G c) σ H Q:=by
 obtain ⟨m,s,h,z,h',R,S,ee,post⟩:=q;simp only[BT.ev] at ee;obtain ⟨x,h1,e1,e2⟩:=cW ee;simp only[BT.k2] at e2;obtain ⟨y,h2,e3,e4⟩:=cW e2;refine ⟨m,s,h,x,h1,R,S,e1,λv H1 m1 x1 R1 r1=>?_⟩;refine ⟨m1,s,h1,y,h2,R1,S.ext x1,e3,λu H2 m2 x2 R2 r2=>?_⟩;unfold BT.oCh at e4;cases g1:BT.rd x h2 with
 | none=>rw[g1] at e4;exact cS e4
 | some d =>
  cases y with
  | p d' =>
   rw[g1] at e4;simp only at e4;have ho:∀ (o:BT.Cm) (x':BT.W) (hh:BT.HH) dd,BT.rd x' hh=aa dd->∀ y' dd',BT.rd y' hh=aa dd'->BT.lK o x' y' hh=(BT.gR o dd dd').map λz=>(.p (.bl z),hh):=by
    intro o x' hh dd q1 y' dd' q2;unfold BT.lK;cases y' with
    | p _=>simp only[q1,q2]| r _=>simp only[q1,q2]| _=>exact cS q2
   cases g3:BT.gR o d d' with
   | none=>rw[g3] at e4;exact cS e4
   | some t =>
    rw[g3] at e4;refine ⟨m2,h2,x,.p d',.p (.bl t),h2,R2,r1.ext x2,r2,by rw[ho o x h2 d g1 (.p d') d' rfl,g3];rfl,λv3 H3 m3 x3 R3 r3=>⟨t,mU r3,?_⟩⟩;cases t with
    | false =>
     rw[if_neg (by decide)];cases e4;exact post _ H3 m3 ((x1.trans x2).trans x3) R3 (.p (.bl _))
    | true =>
     rw[if_pos rfl];obtain ⟨w3,h3,e5,e6⟩:=cW e4;refine ⟨m3,s,h2,w3,h3,R3,((S.ext x1).ext x2).ext x3,e5,λv4 H4 m4 x4 R4 r4=>?_⟩;unfold BT.Mx at e6;cases g4:BT.rd w3 h3 with
     | none=>rw[g4] at e6;exact cS e6
     | some f =>
      rw[g4] at e6;simp only at e6;refine ⟨m4,h3,.p d',w3,z,h',R4,(r2.ext x3).ext x4,r4,by rw[ho o' (.p d') h3 d' rfl w3 f g4];exact e6,λv5 H5 m5 x5 R5 r5=>post v5 H5 m5 ((((x1.trans x2).trans x3).trans x4).trans x5) R5 r5⟩
  | _=>rw[g1] at e4;exact cS e4
theorem Ju {lo:BT.Es} (hl:∀ σ H (Q:Option Int->Hp->Prop),(∃ m s h l zs h',RH X.K m H h/\RS X.prog X.w X.K m H σ s/\BT.evs F G lo s h=aa (zs,h')/\(BT.eW zs).bind BT.qZ=aa l/\∀ H' m',Ext m H m' H'->RH X.K m' H' h'->Q l H')->tl σ H Q)
 (hh:∀ σ H (Q:Option Int->Hp->Prop),(∃ m s h l zs h',RH X.K m H h/\RS X.prog X.w X.K m H σ s/\BT.evs F G hi s h=aa (zs,h')/\(BT.eW zs).bind BT.qZ=aa l/\∀ H' m',Ext m H m' H'->RH X.K m' H' h'->Q l H')->th σ H Q)
 (σ:L2.St) (H:Hp) (Q:VK) (q:tD X F G (.slc a lo hi) σ H Q):tSl (rSl X.prog X.w X.K) (tD X F G a) tl th σ H Q:=by
 obtain ⟨m,s,h,z,h',R,S,ee,post⟩:=q;simp only[BT.ev] at ee;obtain ⟨x,h1,e1,e2⟩:=cW ee;simp only[BT.MB] at e2;obtain ⟨ls,h2,e3,e4⟩:=cW e2;simp only[BT.MA] at e4;obtain ⟨us,h3,e5,e6⟩:=cW e4;unfold BT.Mz at e6;cases g1:BT.rd x h3 with
 | none=>rw[g1] at e6;exact cS e6
 | some d =>
  cases g2:(BT.eW ls).bind BT.qZ with
  | none=>rw[g1,g2] at e6;exact cS e6
  | some l =>
   cases g3:(BT.eW us).bind BT.qZ with
   | none=>rw[g1,g2,g3] at e6;exact cS e6
   | some u =>
    rw[g1,g2,g3] at e6;simp only at e6;obtain ⟨b,e7,e8⟩:=dQ e6;cases e8;refine ⟨m,s,h,x,h1,R,S,e1,λv H1 m1 x1 R1 r1=>hl σ H1 _ ⟨m1,s,h1,l,ls,h2,R1,S.ext x1,e3,g2,λH2 m2 x2 R2=>hh σ H2 _ ⟨m2,s,h2,u,us,h',R2,(S.ext x1).ext x2,e5,g3,λH3 m3 x3 R3=>?_⟩⟩⟩;exact ⟨m3,h',x,d,b,R3,(r1.ext x2).ext x3,g1,e7,λv5 H5 m5 x5 R5 r5=>post v5 H5 m5 (((x1.trans x2).trans x3).trans x5) R5 r5⟩
end
section
theorem xR (hs:sp=spF X.prog X.w X.K (F (.f f))) (q:tD X F G (.call f as) σ H Q):A0 sp [] E0 (tDs X F G as) σ H Q:=by subst hs;refine lT (k:=λws h=>F (.f f) ws h) (λs h=>by simp only[BT.ev]) q λm h xs z h' vs H1 R r e post=>?_;rw[Ug];exact ⟨m,xs,h,z,h',R,r,e,post⟩
theorem nQ (q:tDs X F G .nil σ H Q):IA σ H Q:=by obtain ⟨m,s,h,zs,h',R,S,ee,post⟩:=q;simp only[BT.evs] at ee;cases ee;exact post [] H m (.refl _ _) R .nil
theorem BW (O:Ok X F G sc N) (hg:d8 sc f=ah) (hn:d7 f=ah) (hc:CEs sc N as es) (ha:PA X es (tDs X F G as)) :
 PE X (.Call (.Name f p) es [] pos) (tD X F G (.call f as)):=by
 have hst:=mT hc;intro zt s σ H Q I q;have q0:=q;obtain ⟨m,s',h,z,h',R,S,ee,post⟩:=q;simp only[BT.ev] at ee;obtain ⟨ws,h1,e1,e2⟩:=cW ee;obtain ⟨fa,fd,ps,k,hm,hk,hb,hr,ok⟩:=O.call _ _ _ _ e2;cases es with
 | nil =>
  cases as with
  | cons a r=>exact (vS hc).elim| nil=>exact (PE.weak (tS ok hr (eX O hg) hm hk hb .nil G8 (gK hn).1) (fun σ H Q z=>nQ (xR (X:=X) rfl z))) zt s σ H Q I q0
 | cons e es =>
  simp only[dm,SM] at hst;exact (PE.weak (xo ok hr (eX O hg) hm hk hb .nil G8 ha (gK hn).1 (cY hst.1) (fm hst.2)) (fun σ H Q z=>xR rfl z)) zt s σ H Q I q0
theorem vU {id:String} (pa:YX T) (slot:Slot T name id)
 (hty:typeOf (.builtin id)=pure (.type "method_descriptor")) (hm:MtR X id (rMe X.prog X.w X.K me)) (hb:d9 oe=ah) (hl:(apos.endLine==cpos.line)=ah) (hlen:es.length < 20) (ho:PE X oe (tD X F G o)) (hc:CEs sc N as es) (ha:PA X es (tDs X F G as))
 (ty:∀ (m:List S6) (h h2:BT.HH) (H:Hp) (v:V) (x:BT.W) ws r,RH X.K m H h->RW X.prog X.w X.K m H v x->BT.oM x h=ah->BT.meW me x ws h2=aa r->(∃ σ s,RS X.prog X.w X.K m H σ s/\∃ h0,BT.ev F G o s h0=aa (x,h))->tyV X.K T v H) :
 PE X (.Call (.Attribute oe name apos) es [] cpos) (tD X F G (.me me o as)):=by
 have hst:=mT hc;have key:∀ σ H Q,tD X F G (.me me o as) σ H Q->tBM X.K T (rMe X.prog X.w X.K me) (tD X F G o) (tDs X F G as) σ H Q:=by intro σ H Q q;obtain ⟨m,s,h,z,h',R,S,ee,post⟩:=q;simp only[BT.ev] at ee;obtain ⟨x,h1,e1,e2⟩:=cW ee;obtain ⟨ok,e2⟩:=Fe e2;obtain ⟨ws,h2,e3,e4⟩:=cW e2;refine ⟨m,s,h,x,h1,R,S,e1,λv H1 m1 x1 R1 r1=>⟨ty m1 h1 h2 H1 v x ws _ R1 r1 ok e4 ⟨σ,s,S.ext x1,h,e1⟩,m1,s,h1,ws,h2,R1,S.ext x1,e3,λvs H2 m2 x2 R2 r2=>?_⟩⟩;exact ⟨m2,h2,x,ws,z,h',R2,r1.ext x2,r2,e4,λv5 H5 m5 x5 R5 r5=>post v5 H5 m5 ((x1.trans x2).trans x5) R5 r5⟩
 cases es with
 | nil =>
  cases as with
  | cons a r=>exact (vS hc).elim
  | nil =>
   refine PE.weak (IJ pa slot hty hm ho (nP hb) hl) fun σ H Q q=>?_;obtain ⟨m,s,h,z,h',R,S,ee,post⟩:=key σ H Q q;exact ⟨m,s,h,z,h',R,S,ee,λv H1 m1 x1 R1 r1=>⟨(post v H1 m1 x1 R1 r1).1,nQ (post v H1 m1 x1 R1 r1).2⟩⟩
 | cons e es =>
  simp only[dm,SM] at hst;refine PE.weak (L4 pa slot hty hm ho ha (nP hb) ?_ hl (cY hst.1) (fm hst.2)) key;rw[lR (es:=e::es) (by simp only[dm,SM];exact hst)];have h30:decide ((e::es).length+([]:List WL).length+(if ([]:List WL).isEmpty then 0 else 1) < 30)=ah:=decide_eq_true (by
   simp only[SX,Uo,Xk,if_true] at hlen ⊢;lia)
  rw[h30];rfl
theorem ux (q:tD X F G (.bi b mu as) σ H Q):tCB (rBi X.prog X.w X.K b mu) (tDs X F G as) σ H Q:=by refine lT (k:=λws h=>BT.kBi b mu ws h) (λs h=>by simp only[BT.ev]) q λm h xs z h' vs H1 R r e post=>?_;exact ⟨m,h,xs,z,h',R,r,e,post⟩
theorem Jv (O:Ok X F G sc N) (hu:gq N=ah) (hb:Hs b mu x=ah) (hg:d8 sc x=ah) (hst:dm (e::es)=ah) (ha:PA X (e::es) (tDs X F G as)) :
 PE X (.Call (.Name x p) (e::es) [] pos) (tD X F G (.bi b mu as)):=by
 simp only[dm,SM] at hst;have hx:Bm b mu=aa x:=eq_of_beq hb;have hB:=O.blt;cases b<;>cases mu<;>first|exact cS hx|(change aa _=aa _ at hx)
 all_goals (cases hx)
 exact PE.weak (jC Jm (eX O hg) (hB _ (by decide)) PySem.boot_len ha (by decide) (by decide) (cY hst.1) (fm hst.2)) (fun σ H Q z=>ux z);exact PE.weak (gZ Jo (eX O hg) (hB _ (by decide)) (by decide +kernel) ha (by decide) (by decide) (cY hst.1) (fm hst.2)) (fun σ H Q z=>ux z);exact PE.weak (gZ xM (eX O hg) (hB _ (by decide)) (by decide +kernel) ha (by decide) (by decide) (cY hst.1) (fm hst.2)) (fun σ H Q z=>ux z);exact PE.weak (gZ xM (eX O hg) (hB _ (by decide)) (by decide +kernel) ha (by decide) (by decide) (cY hst.1) (fm hst.2)) (fun σ H Q z=>ux z);exact PE.weak (gZ BH (eX O hg) (hB _ (by decide)) (by decide +kernel) ha (by decide) (by decide) (cY hst.1) (fm hst.2)) (fun σ H Q z=>ux z)
theorem Ab (hb:uq b=aa (c,f)):gp X (.builtin "isinstance") (λvs H Q=>∃ v,vs=[v,.ty c]/\rBi X.prog X.w X.K b ai [v] H Q):=by
 intro zt s σ H vs us Q I rus h;obtain ⟨v,rfl,m,h,ws,z,h',R,rws,e,post⟩:=h;obtain ⟨u,u2,rfl,ru,ru2⟩:=rus.two;cases ru2;obtain ⟨ds,d,e1,e2,⟨_,rfl,rfl⟩|⟨_,q,_⟩⟩:=oW e
 ·have rr:=iS R rws e1;cases rr with
  | cons r t =>
   cases t;rw[BJ hb] at e2;cases e2;exact E8 I r ru (BK hb X.K _) λtk=>⟨.bl _,H,I.tok tk,rfl,post.here R (.bl _)⟩
 exact BT.dS q
theorem BY (O:Ok X F G sc N) (hb:uq b=aa (c,f)) (hg:d8 sc "isinstance"=ah) (hg2:d8 sc (SE c)=ah) (hst:noStar e=ah) (ha:PE X e (tD X F G a)) :
 PE X (.Call (.Name "isinstance" p) [e,.Name (SE c) p2] [] pos) (tD X F G (.bi b ai (.cons a .nil))):=by
 have hB:=O.blt;have hc:PE X (.Name (SE c) p2) (tC (.ty c)):=by
  cases b<;>simp only[uq] at hb<;>try contradiction
  all_goals (cases hb)
  exact lE (eX O hg2) (hB _ (by decide)) (u:=.type "int") (by decide +kernel) rfl (by decide) (by decide);exact lE (eX O hg2) (hB _ (by decide)) (u:=.type "bool") (by decide +kernel) rfl (by decide) (by decide);exact lE (eX O hg2) (hB _ (by decide)) (u:=.type "str") (by decide +kernel) rfl (by decide) (by decide);exact lE (eX O hg2) (hB _ (by decide)) (u:=.type "tuple") (by decide +kernel) rfl (by decide) (by decide)
 refine PE.weak (jC (Ab hb) (eX O hg) (hB _ (by decide)) (by decide +kernel) (gE ha (gE hc mL) (cY hst)) (by decide) (by decide) (cY hst) rfl) fun σ H Q q=>?_;obtain ⟨m,s,h,z,h',R,S,ee,post⟩:=q;simp only[BT.ev,BT.evs] at ee;obtain ⟨ws,h1,e1,e2⟩:=cW ee;obtain ⟨x,h2,e3,e4⟩:=cW e1;simp only[BT.oO,BT.cZ,BT.je] at e4;cases e4;refine ⟨m,s,h,x,h1,R,S,e3,λv H1 m1 x1 R1 r1=>?_⟩;exact ⟨v,rfl,m1,h1,[x],z,h',R1,.cons r1 .nil,e2,λv5 H5 m5 x5 R5 r5=>post v5 H5 m5 (x1.trans x5) R5 r5⟩
theorem Jw (σ:L2.St) (H:Hp) (Q:VK) (q:tD X F G (.tup as) σ H Q):LW (tDs X F G as) σ H Q:=by
 refine lT (k:=λws h=>BT.IX ws h) (λs h=>by simp only[BT.ev]) q λm h xs z h' vs H1 R r e post=>?_;unfold BT.IX at e;cases g:BT.eW xs with
 | none=>rw[g] at e;exact cS e
 | some ds =>
  rw[g] at e;simp only at e;obtain ⟨c,e⟩:=dR e;cases e;have rd:=r.pure g;have:=fW;have hl:=rd.length;exact ⟨by lia,λp hp=>jV R hp rd post⟩
theorem Jx (σ:L2.St) (H:Hp) (Q:VK) (q:tD X F G (.lst mu as) σ H Q):LY (tDs X F G as) σ H Q:=by
 refine lT (k:=λws h=>BT.IY mu ws h) (λs h=>by simp only[BT.ev]) q λm h xs z h' vs H1 R r e post=>?_;unfold BT.IY at e;cases g:BT.eW xs with
 | none=>rw[g] at e;exact cS e
 | some ds =>
  rw[g] at e;simp only at e;split at e
  ·rename_i c;have rd:=r.pure g;have:=fW;have hl:=rd.length;have ez:BT.new mu ds h=(z,h'):=S9 e;exact ⟨by lia,λp hp=>xH (mu:=mu) R hp rd (by rw[ez];exact post)⟩
  exact cS e
theorem cons_of (σ:L2.St) (H:Hp) (Q:List V->Hp->Prop) (q:tDs X F G (.cons a as) σ H Q):G7 (tD X F G a) (tDs X F G as) σ H Q:=by obtain ⟨m,s,h,zs,h',R,S,ee,post⟩:=q;simp only[BT.evs] at ee;obtain ⟨x,h1,e1,e2⟩:=cW ee;simp only[BT.oO] at e2;obtain ⟨xs,h2,e3,e4⟩:=cW e2;simp only[BT.je] at e4;cases e4;exact ⟨m,s,h,x,h1,R,S,e1,λv H1 m1 x1 R1 r1=>⟨m1,s,h1,xs,h',R1,S.ext x1,e3,λvs H2 m2 x2 R2 r2=>post _ H2 m2 (x1.trans x2) R2 (.cons (r1.ext x2) r2)⟩⟩
end
section
variable {K:SA}
end
section
def Nl (o:BT.Bin):TIp:=λx y H Q=>∃ i j z,x=.int i/\y=.int j/\BT.qY o (.int i) (.int j)=aa (.int z)/\Q (.int z) H
noncomputable def Hv:BT.Bin->Yt->Bool
 | .add,.Add=>ah| .sub,.Sub=>ah| .mul,.Mult=>ah| _,_=>ai
theorem Fk (h:Hv o op=ah):PIp X op (Nl o):=by
 rintro zt s σ H x y u v Q I rx ry ⟨i,j,z,rfl,rfl,e,q⟩
 obtain ⟨t,rfl⟩:=(show ∃ t,u=Xs i t from rx);obtain ⟨t',rfl⟩:=(show ∃ t',v=Xs j t' from ry);cases o<;>cases op<;>cases h;cases e;exact PyProof.Rows.iadd_int ⟨.int (i+j),H,I.tok _,⟨_,rfl⟩,q⟩;cases e;exact PyProof.Rows.isub_int ⟨.int (i - j),H,I.tok _,⟨_,rfl⟩,q⟩
 ·rw[BT.uc] at e;obtain ⟨c,e⟩:=dR e;cases e;have hc:Ew i j:=by
   rcases Vx _ _ ▸ c with c|c
   exact .inl (rP c);exact .inr (rP c)
  exact PyProof.Rows.imul_int ⟨.int (i*j),H,I.tok _,⟨_,rfl⟩,q⟩ hc.ok
theorem Fo (h:BT.qY o d e=aa z):∃ i j k,d=.int i/\e=.int j/\z=.int k:=by
 cases d with
 | int i =>
  cases e with
  | int j =>
   refine ⟨i,j,?_⟩;cases o with
   | add=>exact ⟨_,rfl,rfl,(S9 h).symm⟩| sub=>exact ⟨_,rfl,rfl,(S9 h).symm⟩
   | mul =>
    rw[BT.uc] at h;split at h;exact ⟨_,rfl,rfl,(S9 h).symm⟩;exact cS h
   | _=>exact cS h
  | _=>cases o<;>exact cS h
 | _=>cases o<;>exact cS h
end
section
variable {K:SA}
end
section
end
section
variable {K:SA}
def Nn (H H':Hp):Prop:=(∀ a vs,Rd H a (.tup vs)->Rd H' a (.tup vs))/\∀ a vs,Rd H a (.lst vs)->Rd H' a (.lst vs)
mutual
theorem RD.tr (q:Nn H H'):∀ {v:V}{d:BT.D},RD K m H v d->RD K m H' v d
 | _,_,.non=>.non| _,_,.bl b=>.bl b| _,_,.int i=>.int i| _,_,.str y h=>.str y h| _,_,.tup h r=>.tup (h.elim (λz=>.inl ⟨q.1 _ _ z.1,z.2⟩) .inr) (RDs.tr q r)| _,_,.lst h r=>.lst (h.elim (λz=>.inl ⟨q.2 _ _ z.1,z.2⟩) .inr) (RDs.tr q r)
theorem RDs.tr (q:Nn H H'):∀ {vs:List V}{ds:List BT.D},RDs K m H vs ds->RDs K m H' vs ds
 | _,_,.nil=>.nil| _,_,.cons r t=>.cons (RD.tr q r) (RDs.tr q t)
end
end
open Classical in
noncomputable def hid (cl:List (az×S6)) (H:Hp):Hp:=λb=>if ∃ x,cl.lookup x=aa b then af else H b
open Classical in
noncomputable def ret (cl:List (az×S6)) (H0 H:Hp):Hp:=λb=>if ∃ x,cl.lookup x=aa b then H0 b else H b
section
end
noncomputable def Np (P:Td) (w:Tz) (K:SA) (mg:az->Option aA) (base:au) (N:List az) (q:az) (sc:Um) (cl:List (az×S6)) (f c':S6) (A:Ub) (outer:List Env) (s:SL) (H:Hp):Cx where
 prog:=P
 w:=w
 K:=K
 mg:=mg
 base:=base
 A:=A.deeper (Wo q sc s.heap.objs.size f (.ref c') cl)
 N:=N
 s₀:=s
 H₀:=hid cl H
 env:=Wo q sc s.heap.objs.size f (.ref c') cl
 outer:=outer
 stack:=Wo q sc s.heap.objs.size f (.ref c') cl::outer
 ex:=[]
 calm:=ah
 fn:=λ_=>ai
 pn:=[]
 xe:=λ_ _=>False
section
end
def Ac (x C:S6) (h:au):Prop:=∃ o,h.get? x=aa o/\o.cls=.ref C
section
open PySem.W PySem.Calls PySem.Builtin PySem.Builtin.ObjectAttr PySem.Builtin.Getset_descriptor
variable {E:aA->SL->Prop}{K:SA}
theorem Ac.look (I:Ac x C h):Looks M h (typeOf (.ref x)) (.ref C):=by obtain ⟨o,e,c⟩:=I;exact c ▸ (Looks.ld e).andThen .now
theorem Jy (X:K.In s.heap) (I:Ac x C s.heap) (hm:mroIn K C (.type "object")=aa ah) (h:R (.ok (.ret (.ref C))) s):ao (Ti prog w) A (.call (.builtin "getset_descriptor.__get__") ⟨[.builtin "object.__class__",.ref x,tp],[]⟩) R s:=by
 obtain ⟨hp,g0,dr,tk0,os0⟩:=s;have l0:=I.look (M:=Ti prog w);have l1:=looks_mroIn (M:=Ti prog w) X hm;refine codeAny_call_builtin KF.slot_gs.plain KF.entry_gs (KF.slot_gs.check _ _ _ _ _ _ _ _ KF.type_class (KF.args_gs _ _ _) ?_)
 (unfold Builtin.«getset_descriptor.__get__» descrGet;rw[dga_obj])
 refine SD (av ?_)
 (unfold descrGetter descrCheckInstance descrNameAndClass isInstance;simp only[KF.owner_class])
 repeat lk
 refine ⟨Code.quiet_builtin _ (by decide +kernel),codeAny_builtin KF.entry_class ?_⟩
 (unfold Builtin.«object.__class__» shownTypeOf;repeat lk)
 exact h
theorem Fp (X:K.In h) (h1:findIn K (.ref C) nm=aa (aa a)) (h2:specialIn K a "__get__"=aa (aa g)) (h3:takesIn K a=aa ah):Looks M h (find (.ref x) (.ref C) nm) (.bind g a):=by have l1:=looks_findIn (M:=M) X h1;have l2:Looks M h (getOf (aa a)) (aa g):=looks_specialIn X h2;have l3:Looks M h (dataDescriptor? (aa a) (aa g)) (aa (g,a)):=(looks_takesIn (M:=M) X h3).andThen .now;exact l1.andThen (l2.andThen (l3.andThen (Looks.tag .now)))
theorem Nq (X:K.In s.heap) (I:Ac x C s.heap) (c:az) (xt:XT K c C) (h:R (.ok (.ret (.ref C))) s) :
 ao (Ti prog w) A (.call (.builtin "BaseException.__getattribute__") ⟨[.ref x,.str "__class__" tk],[]⟩) R s:=by
 have l4:=looks_mroIn (M:=Ti prog w) X xt.mrb;have l0:=I.look (M:=Ti prog w);have l2:=Fp (M:=Ti prog w) (x:=x) X xt.fnd xt.spc xt.tak;obtain ⟨hp,g0,dr,tk0,os0⟩:=s;have hk:builtinKind "BaseException.__getattribute__"=aa .slot:=by decide +kernel
 have hsplit:splitId "BaseException.__getattribute__"=aa ("BaseException","__getattribute__"):=by decide +kernel
 have ha:=PySem.F.args_bexc_ga (.ref x) (.str "__class__" tk);refine codeAny_call_builtin PySem.F.attrBase_ValueError.ga.plain PySem.F.entry_bexc_ga ?_;simp only[checkBuiltinCall,hk,hsplit];refine SD ?_;unfold isInstance
 repeat lk
 refine wpAny_run (A:=A.in1) (h:=af) (c:=.call (.builtin "getset_descriptor.__get__") ⟨[.builtin "object.__class__",.ref x,.ref C],[]⟩) (Jy (s:=⟨hp,g0,dr,tk0,os0⟩) X I xt.mro ?_);exact av (av h)
theorem Fq (X:K.In s.heap) (I:Ac x C s.heap) (c:az) (xt:XT K c C) (h:Q (aa (.ref C)) { s with toks:=s.toks+1 }):ay (Ti prog w) A (getAttr? (.ref x) "__class__") Q E s:=by
 obtain ⟨hp,g0,dr,tk0,os0⟩:=s;have l0:=I.look (M:=Ti prog w);have l1:=looks_findIn (M:=Ti prog w) X xt.ga;have l3:=looks_findIn (M:=Ti prog w) X xt.nga;have f3:=PySem.F.attrBase_ValueError.ga.bind (.ref x);have hx2:(VO "BaseException.__getattribute__"==VO "object.__getattribute__")=ai:=by decide +kernel
 have hx1:(onTheHeap (U5 C)&&VO "BaseException.__getattribute__"==VO "object.__getattribute__")=ai:=by rw[hx2];rfl
 (unfold getAttr? getAttrBy? getAttrBy)
 refine SD (wpAny_mkText (SD (WG (Ul (SD (l0.at (SD (l1.at ?_))))))));show ay _ _ (if (onTheHeap (U5 C)&&VO "BaseException.__getattribute__"==VO "object.__getattribute__")=ah then _ else getAttrByItsOwn (.ref x) (.str "__class__" tk0) (.ref C) (.builtin "BaseException.__getattribute__") ai ai) _ _ (⟨hp,g0,dr,tk0+1,os0⟩:SL);rw[if_neg (by rw[hx1];exact TJ)];unfold getAttrByItsOwn;refine SD (l3.at ?_);refine SD (WG (Ul ?_));show ay _ _ (boundAndCalled (.builtin "BaseException.__getattribute__") (.ref x) (.str "__class__" tk0)) _ _ _;unfold boundAndCalled;rw[f3];refine SD (av ?_);show ay _ _ (call (.builtin "BaseException.__getattribute__") [.ref x,.str "__class__" tk0]) _ _ _;refine UA (wpAny_call (Nq (s:=⟨hp,g0,dr,tk0+1,os0⟩) (R:=wants (λv s'=>v=.ref C/\s'=(⟨hp,g0,dr,tk0+1,os0⟩:SL)) λ_ _=>False) X I c xt ⟨rfl,rfl⟩)) (λv s' z=>?_) λ_ _ z=>z.elim;obtain ⟨rfl,rfl⟩:=z;exact handed_on rfl (av h)
theorem BZ (c:az) (xt:XT K c C):KitX K (.ref x) (.ref C) (Ac x C) where
 ty:=λ_ _ _ I=>I.look
 it:=λM h X I=>by
  obtain ⟨cd,hc,_⟩:=any_some xt.dct;unfold clsIn at hc;split at hc
  ·rename_i ho;exact λA' Q' E' s' k q=>by unfold isType loadHead;exact SD (wpAny_loadPart (k _ _ (X _ _ ho)) (av q))
  exact cS hc
 ne:=λh tp dd its n sl X htp=>by
  obtain ⟨cd,hc,_⟩:=any_some xt.dct;refine Bool.eq_false_iff.mpr λq=>?_;have e:=Value.ref.inj (beq_iff_eq.mp q);subst e;unfold clsIn at hc;split at hc
  ·rename_i ho;exact nomatch (X _ _ ho).symm.trans htp
  exact cS hc
 ca:=λX I k=>Fq X I c xt k
end
theorem B0 {E:aA->SL->Prop} (I:Inv X zt σ H s) (h1:H a=aa (.ext (excAt X.K c a)))
 (hk:∀ C,XT X.K c C->UE X.K (.ref C) cv=aa b) (q:∀ tk,Q (.bool b) { s with toks:=tk }):ay (Ti X.prog X.w) X.A (call (.builtin "isinstance") [.ref a,cv]) Q E s:=by
 obtain ⟨⟨o,C,_,xt,e1,e2⟩,_,_⟩:=I.hok a _ h1;exact U1 (BZ c xt) I.kIn ⟨o,e1,e2⟩ (hk C xt) (by intro z;cases z) q
section
theorem Ft (O:Ok X F G sc N) (hx:Bp cn=ah) (hn:d7 cn=ah) (hg:d8 sc "isinstance"=ah) (hg2:d8 sc cn=ah) (hst:noStar e=ah) (ha:PE X e (tD X F G a)) :
 PE X (.Call (.Name "isinstance" p) [e,.Name cn p2] [] pos) (tD X F G (.isx cn a)):=by
 have hB:=O.blt;have key:∀ {σ:L2.St}{H:Hp}{Q:VK},tD X F G (.isx cn a) σ H Q->tD X F G a σ H λv H1=>∃ ad c,v=.ref ad/\H1 ad=aa (.ext (excAt X.K c ad))/\(∃ C,XT X.K c C)/\BT.vK c cn=ah/\Q (.bl (BT.nI c cn)) H1:=λ{σ H Q} q=>by
  obtain ⟨m,s,h,z,h',R,S,ee,post⟩:=q;simp only[BT.ev] at ee;obtain ⟨x,h1,e1,e2⟩:=cW ee;refine ⟨m,s,h,x,h1,R,S,e1,λv H1 m1 x1 R1 r1=>?_⟩;cases x with
  | x c =>
   cases r1 with
   | x q1 q2 xt =>
    have e2:(if BT.vK c cn=ah then aa (BT.W.p (.bl (BT.nI c cn)),h1) else af)=aa (z,h'):=e2;obtain ⟨hu,e2⟩:=dR e2;cases e2;exact ⟨_,c,rfl,q1,xt,hu,post _ H1 m1 x1 R1 (.p (.bl _))⟩
  | _=>exact cS e2
 by_cases hv:cn="ValueError"
 ·subst hv;have hc:PE X (.Name "ValueError" p2) (tC (.ty "ValueError")):=lE (eX O hg2) (hB _ (by decide)) (u:=.type "ValueError") (by decide +kernel) rfl (by decide) (by decide);have call:gp X (.builtin "isinstance") (λvs H Q=>∃ ad c,vs=[.ref ad,.ty "ValueError"]/\H ad=aa (.ext (excAt X.K c ad))/\Q (.bl (BT.nI c "ValueError")) H):=by
   intro zt s σ H vs us Q I rus h;obtain ⟨ad,c,rfl,q1,q⟩:=h;obtain ⟨u,u2,rfl,ru,ru2⟩:=rus.two;cases ru;cases ru2;exact B0 I q1 (λC xt=>xt.val) λtk=>⟨.bl _,H,I.tok tk,rfl,by
    have:BT.nI c "ValueError"=ah:=by unfold BT.nI;simp
    rw[← this];exact q⟩
  refine PE.weak (jC call (eX O hg) (hB _ (by decide)) (by decide +kernel) (gE ha (gE hc mL) (cY hst)) (by decide) (by decide) (cY hst) rfl) fun σ H Q q=>?_;obtain ⟨m,s,h,z,h',R,S,ee,post⟩:=key q;refine ⟨m,s,h,z,h',R,S,ee,λv H1 m1 x1 R1 r1=>?_⟩;obtain ⟨ad,c,rfl,q1,_,_,q3⟩:=post v H1 m1 x1 R1 r1;exact ⟨ad,c,rfl,q1,q3⟩
 ·have hx':ur cn=ah:=by unfold Bp at hx;rw[Vx] at hx;exact hx.resolve_right λz=>hv (eq_of_beq z)
  have dbg:(cn==("__debug__":az))=ai:=by unfold d7 at hn;simp only[SM] at hn;simpa using hn.1.1
  have hc:PE X (.Name cn p2) (fun σ H Q=>∃ D,X.mg cn=aa (.ref D)/\Q (.ref D) H):=λzt s σ H Q I ⟨D,hm,q⟩=>wY (v:=.ref D) (eX O hg2) hm rfl dbg zt s σ H Q I q;have call:gp X (.builtin "isinstance") (λvs H Q=>∃ ad c D,vs=[.ref ad,.ref D]/\CN X.K cn D/\BT.vK c cn=ah/\H ad=aa (.ext (excAt X.K c ad))/\Q (.bl (BT.nI c cn)) H):=by intro zt s σ H vs us Q I rus h;obtain ⟨ad,c,D,rfl,hD,hu,q1,q⟩:=h;obtain ⟨u,u2,rfl,ru,ru2⟩:=rus.two;cases ru;cases ru2;refine B0 I q1 (λC xt=>?_) λtk=>⟨.bl _,H,I.tok tk,rfl,q⟩;obtain ⟨D',h1,h2⟩:=xt.own cn hx' hu;rw[hD.inj h1];exact h2
  have K2:PE X (.Call (.Name "isinstance" p) [e,.Name cn p2] [] pos) _:=jC call (eX O hg) (hB _ (by decide)) (by decide +kernel) (gE ha (gE hc mL) (cY hst)) (by decide) (by decide) (cY hst) rfl;intro zt s0 σ H Q I q;refine K2 zt s0 σ H Q I ?_;obtain ⟨m,s,h,z,h',R,S,ee,post⟩:=key q;refine ⟨m,s,h,z,h',R,S,ee,λv H1 m1 x1 R1 r1=>?_⟩;obtain ⟨ad,c,rfl,q1,⟨C,xt⟩,hu,q3⟩:=post v H1 m1 x1 R1 r1;obtain ⟨D,hD,_⟩:=xt.own cn hx' hu;exact ⟨D,Ua I.mod.kin I.mod.glob hD,ad,c,D,rfl,hD,hu,q1,q3⟩
end
section
variable {X:Cx}
end
structure qb (K:SA) (J:It) (m0:List S6) (H0:Hp) (ds:List BT.D) (C:BT.HH->Prop):Prop where
 go:∀ m H h (i:Nat),Ext m0 H0 m H->RH K m H h->C h->i < ds.length->J.go i H
 yld:∀ m H h (i:Nat) x H' d,Ext m0 H0 m H->RH K m H h->C h->ds[i]?=aa d->J.yld i H x H'->Ext m H m H'/\Le H H'/\RD K m H' x d
 stop:∀ m H h,Ext m0 H0 m H->RH K m H h->C h->J.stop ds.length H
def xS (sr:BT.Sr) (ws:List BT.W):Prop:=BT.iG ws=ah\/(sr=.seq/\∃ q,ws=[.r q])
def qc (ws:List BT.W) (ds:List BT.D) (h:BT.HH):Prop:=∀ q,ws=[.r q]->BT.lat h q=aa ds
theorem xS.p (h:xS sr ws) (n:sr≠.seq):BT.iG ws=ah:=h.resolve_right λz=>n z.1
theorem ji (a:BT.iG ws=ah):qc ws ds h:=λq e=>by subst e;exact BT.dS a
noncomputable def Itv (K:SA) (a:S6) (n:Nat):It :=
 ⟨λi H=>i < n/\∃ xs,SqL K H a xs/\xs.length=n,λi H x H'=>H'=H/\∀ xs,SqL K H a xs->xs[n - 1 - i]?=aa x,λi H=>i=n⟩
theorem B3 (a it:S6) (n:Nat):Turn P w K tg (Itv K a n) [it] it (λi h=>h.IsRevIter it a ((n:Int) - 1 - i)) where
 mem:=by simp
 obj:=λi h st b hb=>by
  have e:b=it:=by simpa using hb
  subst e;obtain ⟨o,e,c,d⟩:=st;exact ⟨o,e,λv z=>by rw[d] at z;cases z⟩
 keep:=λi h h' st k=>st.at λo e=>k it (by simp) o e
 item:=by
  intro X hP hw hK hc i zt s σ H E I hf st hg;subst hP hw hK;obtain ⟨hi,xs,hq,hx⟩:=hg;obtain ⟨its,rv,p,hz⟩:=I.list hq;have hl:=rv.length;have hj:n - 1 - i < xs.length:=by lia
  obtain ⟨u,hu,ru⟩:=rv.get (Tc hj);obtain ⟨f0,f1,f2,f3,f4,f5⟩:=hf it (by simp);have ei:((n:Int) - 1 - (i:Int))=(((n - 1 - i:Nat)):Int):=by lia
  have st':s.heap.IsRevIter it a (((n - 1 - i:Nat)):Int):=by rw[← ei];exact st
  refine wpAny_pyNext_rev_item st' p.isList (x:=u) (by simpa using hu) λh' st'' sb=>?_;have I1:Inv X zt σ H { s with heap:=h' }:=I.turned (t':=s.toks) (λb o hb e=>(sb.2 b hb).trans e) f0 f1 f3 f4 f5;obtain ⟨o,e,c,d⟩:=id st'';refine ⟨u,rfl,tR (s:={ s with heap:=h' }) e c d (by decide) ⟨_,H,I1,ru,⟨rfl,λys hy=>by rw[I.oi hy hq];exact Tc hj⟩,?_,λb hb=>(hf b hb).1⟩⟩;have e2:(((n - 1 - i:Nat)):Int) - 1=(n:Int) - 1 - ((i+1:Nat):Int):=by lia
  rw[e2] at st'';exact st''
 done:=by
  intro X hP hw hK hc i zt s σ H E I hf st hg;subst hP hw hK;have hg:i=n:=hg;subst hg;obtain ⟨f0,f1,f2,f3,f4,f5⟩:=hf it (by simp);have e1:(i:Int) - 1 - (i:Int)=-1:=by lia
  have st':s.heap.IsRevIter it a (-1):=by rw[← e1];exact st
  exact wpAny_pyNext_rev_end (I.ok.hd hc) st' λh' eb=>⟨rfl,I.turned (t':=s.toks) (λb o hb e=>eb b o hb e) f0 f1 f3 f4 f5⟩
 self:=λ_ _ _ _ _ st h=>wpAny_pyIter_revIter st h
theorem Inv.xT {X:Cx}{zt:List (S6×aq)}{σ:L2.St}{H H':Hp}{s:SL}{h':au}{fp:List S6}{tk:Nat} (I:Inv X zt σ H s) (hf:∀ b∈fp,oj X zt H b)
 (k:∀ b o,b∉fp->s.heap.get? b=aa o->h'.get? b=aa o) (hs:∀ b,b < s.heap.objs.size->H' b=H b) (hok:HOk X.prog X.w H' h'):Inv X zt σ H' { s with heap:=h',toks:=tk }:=by
 have hlt:∀ b u,H b=aa u->H' b=aa u:=λb u e=>by rw[hs b (I.hok.lt e)];exact e
 refine I.step (g':=s.gens) (d':=s.drawn) (ch:=fp) (λb hb=>?_) (λb o _ _ hc e _=>k b o hc e) (λb o _ _ hc e _=>⟨o.slots,k b o hc e⟩) (λb o _ e n=>by rw[hs b (SW e)];exact n)
  (λb o hc e=>⟨o,k b o hc e⟩) (λb xs e=>hlt b _ e) (λb o u e=>hlt b _ e) (λb ps e=>⟨#[],by rw[hlt b _ e];simp⟩) (λm hm=>?_) hok I.bare
 ·obtain ⟨_,f1,_,f3,f4,f5⟩:=hf b hb;exact ⟨f3,f1,f4,f5⟩
 ·obtain ⟨o,es,ep,ho,r⟩:=hm;exact ⟨o,es,ep,k _ o (λz=>(hf _ z).2.1 rfl) ho,r⟩
inductive iD (X:Cx) (F:FT) (G:az->Option BT.W) (sr:BT.Sr) (sa:BT.Es) (σ:L2.St) (H:Hp) (R:It->Hp->Prop):Prop where
 | mk (m:List S6) (s:BT.Sl) (h:BT.HH) (ws:List BT.W) (h':BT.HH) (ds:List BT.D) (RR:RH X.K m H h) (S:RS X.prog X.w X.K m H σ s) (e:BT.evs F G sa s h=aa (ws,h')) (e2:(BT.rds ws h').bind (BT.gu sr)=aa ds) (ha:xS sr ws)
  (p:∀ H' m' J,Ext m H m' H'->RH X.K m' H' h'->qb X.K J m' H' ds (qc ws ds)->R J H'):iD X F G sr sa σ H R
theorem PI.weak (h:PI X tg e t) (q:∀ σ H R,t' σ H R->t σ H R):PI X tg e t':=λzt s σ H R I hw=>h zt s σ H R I (q _ _ _ hw)
section
theorem Fv (h:(Rd H0 a (.lst vs)/\a∉m0)\/KL K a vs) (r:RDs K m0 H0 vs ds):qb K (Itl K a) m0 H0 ds C:=by
 have k:∀ {m H},Ext m0 H0 m H->SqL K H a vs:=λx=>LL.sq (h.elim (λq=>.inl (Rd.ext x q.1 q.2).1) .inr);refine ⟨λm H hh i x _ _ hi=>?_,λm H hh i v H' d x RR _ hd y=>?_,λm H _ x _ _=>⟨vs,k x,by rw[r.length];exact SY _⟩⟩;exact ⟨vs,_,k x,Tc (by rw[r.length];exact hi)⟩
 ·obtain ⟨rfl,y⟩:=y;obtain ⟨u,h1,h2⟩:=(r.ext x).get hd;have:=y vs (k x);rw[h1] at this;cases this;exact ⟨.refl _ _,λ_ _ e=>e,h2⟩
theorem Jz (h:(Rd H0 a (.tup vs)/\a∉m0)\/KT K a vs) (r:RDs K m0 H0 vs ds):qb K (Itt K a) m0 H0 ds C:=by
 have k:∀ {m H},Ext m0 H0 m H->SqT K H a vs:=λx=>h.elim (λq=>.inl (Rd.ext x q.1 q.2).1) λ⟨o,its,n,q,_⟩=>.inr ⟨o,its,n,q⟩;refine ⟨λm H hh i x _ _ hi=>?_,λm H hh i v H' d x RR _ hd y=>?_,λm H _ x _ _=>⟨vs,k x,by rw[r.length];exact SY _⟩⟩;exact ⟨vs,_,k x,Tc (by rw[r.length];exact hi)⟩
 ·obtain ⟨rfl,y⟩:=y;obtain ⟨u,h1,h2⟩:=(r.ext x).get hd;have:=y vs (k x);rw[h1] at this;cases this;exact ⟨.refl _ _,λ_ _ e=>e,h2⟩
theorem JA (h:(Rd H0 a (.lst vs)/\a∉m0)\/KL K a vs) (r:RDs K m0 H0 vs ds):qb K (Itv K a ds.length) m0 H0 ds.reverse C:=by
 have k:∀ {m H},Ext m0 H0 m H->SqL K H a vs:=λx=>LL.sq (h.elim (λq=>.inl (Rd.ext x q.1 q.2).1) .inr);refine ⟨λm H hh i x _ _ hi=>?_,λm H hh i v H' d x RR _ hd y=>?_,λm H _ x _ _=>by show ds.reverse.length=ds.length;simp⟩;exact ⟨by simpa using hi,vs,k x,r.length⟩
 ·obtain ⟨rfl,y⟩:=y;have hi:i < ds.length:=by have:=getD_some hd;simpa using this
  have hd':ds[ds.length - 1 - i]?=aa d:=by rw[YD hi] at hd;exact hd
  obtain ⟨u,h1,h2⟩:=(r.ext x).get hd';have:=y vs (k x);rw[h1] at this;cases this;exact ⟨.refl _ _,λ_ _ e=>e,h2⟩
theorem JB (lo:Int) (n:Nat):qb K (Itr lo n) m0 H0 (BT.upto lo n) C:=by
 have hl:(BT.upto lo n).length=n:=by simp[BT.upto]
 refine ⟨λm H hh i x _ _ hi=>by rw[hl] at hi;exact hi,λm H hh i v H' d x RR _ hd y=>?_,λm H _ x _ _=>by rw[hl];exact SY n⟩;obtain ⟨rfl,rfl⟩:=y;have:d=.int (lo+i):=by
  have hi:i < n:=by have:=getD_some hd;rw[hl] at this;exact this
  simp only[BT.upto,Uu] at hd;rw[YY hi] at hd;simpa using hd.symm
 subst this;exact ⟨.refl _ _,λ_ _ e=>e,.int _⟩
theorem xU:∀ {ws:List BT.W},BT.iG ws=ah->∃ ds:List BT.D,ws=ds.map BT.W.p:=by
 intro ws
 induction ws with
 | nil=>exact λ_=>⟨[],rfl⟩
 | cons w ws ih =>
  intro h;cases w with
  | p d =>
   obtain ⟨ds,rfl⟩:=ih h;exact ⟨d::ds,rfl⟩
  | _=>exact BT.dS h
theorem vV (h:BT.HH) (ds:List BT.D):BT.rds (ds.map BT.W.p) h=aa ds:=by
 induction ds with
 | nil=>rfl
 | cons d ds ih =>
  show (BT.rds (ds.map BT.W.p) h).map (d :: ·)=_;rw[ih];rfl
theorem B4 (hs:sr=.seq\/sr=.rev\/sr=.rng1) (e:(BT.rds ws h).bind (BT.gu sr)=aa ds) (ha:BT.iG ws=ah):∃ d,ws=[.p d]/\BT.gu sr [d]=aa ds:=by
 obtain ⟨xs,rfl⟩:=xU ha;rw[vV,Ue] at e;cases xs with
 | nil=>rcases hs with rfl|rfl|rfl<;>exact cS e
 | cons d xs =>
  cases xs with
  | nil=>exact ⟨d,rfl,e⟩
  | cons d2 xs=>rcases hs with rfl|rfl|rfl<;>cases d<;>exact cS e
theorem nR (e:BT.evs F G (.cons a .nil) s h=aa (ws,h')):∃ w,ws=[w]/\BT.ev F G a s h=aa (w,h'):=by simp only[BT.evs] at e;obtain ⟨w,g,e1,e2⟩:=cW e;simp only[BT.oO,BT.cZ,BT.je] at e2;cases e2;exact ⟨w,rfl,e1⟩
theorem Fw (hq:m0[q]?=aa a):qb K (Itl K a) m0 H0 ds (qc [.r q] ds):=by
 have k:∀ {m H h},Ext m0 H0 m H->RH K m H h->qc [.r q] ds h->∃ vs,SqL K H a vs/\RDs K m H vs ds:=λ{m H h} x RR c=>by
  obtain ⟨e,rfl,_⟩:=x.pre;have e1:(m0++e)[q]?=aa a:=by rw[Tf (List.getElem?_eq_some_iff.mp hq).1];exact hq
  obtain ⟨vs,c1,c2⟩:=RR.cell q a ds e1 (c q rfl);exact ⟨vs,LL.sq (.inl (.inl c1)),c2⟩
 refine ⟨λm H hh i x RR c hi=>?_,λm H hh i v H' d x RR c hd y=>?_,λm H hh x RR c=>?_⟩
 ·obtain ⟨vs,k1,k2⟩:=k x RR c;exact ⟨vs,_,k1,Tc (by rw[k2.length];exact hi)⟩
 ·obtain ⟨vs,k1,k2⟩:=k x RR c;obtain ⟨rfl,y⟩:=y;obtain ⟨u,h1,h2⟩:=k2.get hd;have:=y vs k1;rw[h1] at this;cases this;exact ⟨.refl _ _,λ_ _ e=>e,h2⟩
 ·obtain ⟨vs,k1,k2⟩:=k x RR c;exact ⟨vs,k1,by rw[k2.length];exact SY _⟩
theorem Fx (he:PE X x (tD X F G a)):PI X tg x (iD X F G .seq (.cons a .nil)):=by
 intro zt s σ H R I q;obtain ⟨m,s',h,ws,h',ds,RR,S,e,e2,ha,post⟩:=q;rcases ha with ha|⟨_,q,rfl⟩
 case inr =>
  obtain ⟨w,ew,e4⟩:=nR e;cases ew;have g:BT.lat h' q=aa ds:=by
   simp only[BT.rds,BT.rd,Vq] at e2;cases g:BT.lat h' q with
   | none=>rw[g] at e2;exact cS e2| some xs=>rw[g] at e2;cases e2;rfl
  refine xm he zt s σ H R I ⟨m,s',h,_,h',RR,S,e4,λv H1 m1 x1 R1 r1=>?_⟩;cases r1 with
  | @r a n hn =>
   obtain ⟨vs,c1,c2⟩:=R1.cell q a ds hn g;exact ⟨a,rfl,⟨vs,LL.sq (.inl (.inl c1))⟩,post H1 m1 _ x1 R1 (Fw hn)⟩
 obtain ⟨d,rfl,e3⟩:=B4 (.inl rfl) e2 ha;obtain ⟨w,ew,e4⟩:=nR e;cases ew;rw[BT.Bb] at e3;cases d<;>simp only[BT.rm] at e3<;>try contradiction
 ·cases e3;refine Im he zt s σ H R I ⟨m,s',h,_,h',RR,S,e4,λv H1 m1 x1 R1 r1=>?_⟩;cases r1 with
  | p r1 =>
   cases r1 with
   | @tup a vs _ h r=>exact ⟨a,rfl,⟨vs,h.elim (λq=>.inl q.1) λ⟨o,its,n,q,_⟩=>.inr ⟨o,its,n,q⟩⟩,post H1 m1 _ x1 R1 (Jz h r)⟩
 ·cases e3;refine xm he zt s σ H R I ⟨m,s',h,_,h',RR,S,e4,λv H1 m1 x1 R1 r1=>?_⟩;cases r1 with
  | p r1 =>
   cases r1 with
   | @lst a vs _ h r=>exact ⟨a,rfl,⟨vs,LL.sq (h.elim (λq=>.inl q.1) .inr)⟩,post H1 m1 _ x1 R1 (Fv h r)⟩
theorem B5 (O:Ok X F G sc N) (hg:d8 sc "range"=ah) (hs:noStar e=ah) (ha:PA X [e] (tDs X F G sa)):PI X tg (.Call (.Name "range" p) [e] [] pos) (iD X F G .rng1 sa):=by
 refine PI.weak (zH (eX O hg) (O.blt _ (by decide)) ha (cY hs)) fun σ H R q=>?_;obtain ⟨m,s',h,ws,h',ds,RR,S,e,e2,ha,post⟩:=q;obtain ⟨d,rfl,e3⟩:=B4 (.inr (.inr rfl)) e2 (ha.p (λz=>by cases z));refine ⟨m,s',h,_,h',RR,S,e,λvs H1 m1 x1 R1 r1=>?_⟩;obtain ⟨j,rfl⟩:∃ j:Int,d=.int j:=by
  cases d with
  | int j=>exact ⟨j,rfl⟩| _=>exact absurd (show (af:Option (List BT.D))=aa _ from e3) (λz=>nomatch z)
 rw[BT.zS] at e3;obtain ⟨c,e3⟩:=dR e3;simp only[SM,decide_eq_true_eq] at c;cases e3;cases r1 with
 | cons r t =>
  cases t;cases r with
  | p r =>
   cases r;exact ⟨j,rfl,by lia,by lia,post H1 m1 _ x1 R1 (JB 0 j.toNat)⟩
theorem Fy (O:Ok X F G sc N) (hg:d8 sc "reversed"=ah) (hs:noStar e=ah) (he:PE X e (tD X F G a)):PI X tg (.Call (.Name "reversed" p) [e] [] pos) (iD X F G .rev (.cons a .nil)):=by
 intro zt s σ H R I q;obtain ⟨m,s',h,ws,h',ds,RR,S,e,e2,ha,post⟩:=q;obtain ⟨d,rfl,e3⟩:=B4 (.inr (.inl rfl)) e2 (ha.p (λz=>by cases z));obtain ⟨w,ew,e4⟩:=nR e;cases ew;obtain ⟨xs,rfl⟩:∃ xs:List BT.D,d=.lst xs:=by
  cases d with
  | lst xs=>exact ⟨xs,rfl⟩| _=>exact absurd (show (af:Option (List BT.D))=aa _ from e3) (λz=>nomatch z)
 ·cases e3;refine Call_ (kM (u:=.type "reversed") I (eX O hg) (O.blt _ (by decide)) (by decide +kernel) (UB (thn (gE he mL (cY hs) pos zt s σ H (λvs H1=>∃ a vt,vs=[.ref a]/\∃ m1,Ext m H m1 H1/\RH X.K m1 H1 h'/\((Rd H1 a (.lst vt)/\a∉m1)\/KL X.K a vt)/\RDs X.K m1 H1 vt xs) I ?_) λus s1 ⟨vs,H1,I1,r1,q1⟩=>?_) (cY hs) rfl))
  ·refine ⟨m,s',h,_,h',RR,S,e4,λv H1 m1 x1 R1 r1=>?_⟩;cases r1 with
   | p r1 =>
    cases r1 with
    | @lst a vt _ hh r=>exact ⟨a,vt,rfl,m1,x1,R1,hh,r⟩
  ·obtain ⟨a,vt,rfl,m1,x1,R1,hh,r⟩:=q1;obtain ⟨u,rfl,ru⟩:=vals1 r1;cases ru;obtain ⟨z,its,nn,rv,hl,ee⟩:=rdL I1 (hh.elim (λq=>.inl q.1) .inr);have hL:s1.heap.IsList a its.toArray:=⟨_,ee,rfl,_,rfl⟩;have hlen:=r.length;refine call_reversed_list hL ?_;have stt:({ s1 with heap:=s1.heap.push (revObj a ((its.toArray.size:Int) - 1)) }:SL).heap.IsRevIter s1.heap.objs.size a ((xs.length:Int) - 1 - ((0:Nat):Int)):=by refine ⟨_,Th _ rfl,rfl,?_⟩;show Data.fields #[.ref a,YQ ((its.toArray.size:Int) - 1)]=_;rw[SQ,← hl,hlen];simp
   refine wpAny_pyIter_revIter stt ?_;refine ⟨s1.heap.objs.size,[s1.heap.objs.size],_,_,H1,rfl,I1.kept (t':=s1.toks) λb o e=>SH _ e,B3 a _ xs.length,stt,λb hb=>?_,post H1 m1 _ x1 R1 (JA hh r)⟩;have e:b=s1.heap.objs.size:=by simpa using hb
   subst e;exact I1.zF (SY _) (I1.hok.fresh (SY _))
end
section
variable {K:SA}
theorem RKs.any (r:RKs K m H vs kvs) (k:Key):(vs.any λkv=>decide (kv.1=k))=kvs.any λkv=>decide (kv.1=k):=by
 induction r with
 | nil=>rfl| cons _ _ _ ih=>rw[VQ,VQ,ih]
theorem RKs.snoc (r:RKs K m H vs kvs) (k:Key) (hk:RD K m H (kV k) (BT.A9 k)) (q:RD K m H v d):RKs K m H (vs++[(k,v)]) (kvs++[(k,d)]):=by
 induction r with
 | nil=>exact .cons hk q .nil| cons h r _ ih=>exact .cons h r ih
theorem RKs.repl (r:RKs K m H vs kvs) (k:Key) (q:RD K m H v d):RKs K m H (vs.map λkv=>if kv.1=k then (kv.1,v) else kv) (kvs.map λkv=>if kv.1=k then (kv.1,d) else kv):=by
 induction r with
 | nil=>exact .nil
 | @cons j v1 d1 vs kvs hk r t ih =>
  rw[Tw,Tw]
  by_cases c:j=k
  rw[if_pos c,if_pos c];exact .cons hk q ih;rw[if_neg c,if_neg c];exact .cons hk r ih
theorem RKs.put (r:RKs K m H vs kvs) (k:Key) (hk:RD K m H (kV k) (BT.A9 k)) (q:RD K m H v d):RKs K m H (putK vs k v) (BT.oz kvs k d):=by unfold putK BT.oz;rw[r.any k];split;exact r.repl k q;exact r.snoc k hk q
end
section
variable {X:Cx}{F:FT}{G:az->Option BT.W}
noncomputable def Si:V->V->V->Hp->(Hp->Prop)->Prop:=λo i v H Q=>∃ p kvs k,o=.ref p/\i=kV k/\H p=aa (.dK kvs)/\kvs.length < ak/\Q (upd H p (.dK (putK kvs k v)))
end
section
variable {E:aA->SL->Prop}
end
section
variable {X:Cx}{F:FT}{G:az->Option BT.W}
end
section
variable {X:Cx}{F:FT}{G:az->Option BT.W}{K:SA}{m:List S6}{H:Hp}
theorem B6:∀ {qs:List (Key×V)}{us:List (Key×aA)}{ps:List (BT.Ky×BT.D)}{ws:List (Key×V)}{vs:List (Key×aA)}{kvs:List (BT.Ky×BT.D)},KV qs us->RKs K m H qs ps->KV ws vs->RKs K m H ws kvs →
 KV (qs.foldl (λc p=>putK c p.1 p.2) ws) (us.foldl (λc p=>stored c p.1 p.2) vs)/\RKs K m H (qs.foldl (λc p=>putK c p.1 p.2) ws) (ps.foldl (λc p=>BT.oz c p.1 p.2) kvs):=by
 intro qs
 induction qs with
 | nil =>
  intro us ps ws vs kvs h1 h2 h3 h4;cases h1;cases h2;exact ⟨h3,h4⟩
 | cons q qs ih =>
  intro us ps ws vs kvs h1 h2 h3 h4;cases h1 with
  | @cons _ u _ us a b =>
   cases h2 with
   | @cons k v d _ ps hk r t =>
    obtain ⟨a1,a2⟩:=a;have a1:k=u.1:=a1;refine ih (ws:=putK ws k v) (vs:=stored vs u.1 u.2) (kvs:=BT.oz kvs k d) b t ?_ (h4.put k hk r);rw[← a1];exact h3.put k a2
theorem uy:∀ (qs:List (Key×V)) (ws:List (Key×V)),(qs.foldl (λc p=>putK c p.1 p.2) ws).length<=ws.length+qs.length
 | [],ws=>SY _
 | q::qs,ws=>by have h1:=uy qs (putK ws q.1 q.2);have h2:=tZ ws q.1 q.2;simp only[XH,SX];lia
end
section
variable {F:FT}{G:az->Option BT.W}
end
section
variable {F:FT}{G:az->Option BT.W}
end
section
variable {X:Cx}{F:FT}{G:az->Option BT.W}
def MtX (X:Cx) (id:String) (k:BT.Tx):Prop:=∀ (zt:List (S6×aq)) (s:SL) (σ:L2.St) (H:Hp) (v:V) (vs:List V) (v':aA) (us:List aA) (Q:VK) (m:List S6) (h:BT.HH) (x:BT.W) (ws:List BT.W) (z:BT.W) (h':BT.HH),
 Inv X zt σ H s->RelV v v'->dD vs us->RH X.K m H h->RW X.prog X.w X.K m H v x->RWs X.prog X.w X.K m H vs ws->BT.kTx k (x::ws) h=aa (z,h')->Post X.prog X.w X.K m H z h' Q →
 ay (Ti X.prog X.w) X.A (call (.builtin id) (v'::us)) (EP X zt σ Q) X.xe s
def TyX (X:Cx) (T:String) (k:BT.Tx):Prop:=∀ (zt:List (S6×aq)) (s:SL) (σ:L2.St) (H:Hp) (v:V) (v':aA) (m:List S6) (x:BT.W) (ws:List BT.W) (h:BT.HH) (r:BT.W×BT.HH),
 Inv X zt σ H s->RelV v v'->RW X.prog X.w X.K m H v x->BT.kTx k (x::ws) h=aa r->s.TypeIs v' T/\∀ a,v'=.ref a->∃ ob,s.heap.get? a=aa ob/\ob.dict=af
theorem rZ {id:String} (pa:YX T) (slot:Slot T name id) (hty:typeOf (.builtin id)=pure (.type "method_descriptor")) (ty:TyX X T k) (hm:MtX X id k)
 (hb:d9 oe=ah) (hl:(apos.endLine==cpos.line)=ah) (hst:dm (e::es)=ah) (hlen:(e::es).length < 20) (ho:PE X oe (tD X F G o)) (ha:PA X (e::es) (tDs X F G as)):PE X (.Call (.Attribute oe name apos) (e::es) [] cpos) (tD X F G (.tx k (.cons o as))):=by
 intro zt s σ H Q I q;obtain ⟨m,sl,h,z,h',R,S,ee,post⟩:=q;simp only[BT.ev,BT.evs] at ee;obtain ⟨xs,h1,e1,e2⟩:=cW ee;obtain ⟨x,h2,e3,e4⟩:=cW e1;obtain ⟨ws,h3,e5,e6⟩:=cW e4;simp only[BT.je] at e6;cases e6;have hs2:noStar e=ah/\dm es=ah:=by simpa only[dm,SM] using hst
 have few:((VS cpos (T5 (e::es) X.env)).all (λx=>!x.1)&&(backToKw cpos (keywordEach [] X.env)).all (λx=>x.1.isSome)
 &&decide ((e::es).length+([]:List WL).length+(if ([]:List WL).isEmpty then 0 else 1) < 30))=ah:=by
  rw[lR hst];have h30:decide ((e::es).length+([]:List WL).length+(if ([]:List WL).isEmpty then 0 else 1) < 30)=ah:=decide_eq_true (by
   simp only[SX,Uo,Xk,if_true] at hlen ⊢;lia)
  rw[h30];rfl
 refine WQ (nP hb) few hl rfl (thn (ho zt s σ H (λv H1=>∃ m1,Ext m H m1 H1/\RH X.K m1 H1 h2/\RW X.prog X.w X.K m1 H1 v x) I ⟨m,sl,h,x,h2,R,S,e3,λv H1 m1 x1 R1 r1=>⟨m1,x1,R1,r1⟩⟩) λv s1 zq=>?_);obtain ⟨xv,H1,I1,r1,m1,x1,R1,w1⟩:=zq;obtain ⟨t1,t2⟩:=ty zt s1 σ H1 xv v m1 x ws h1 _ I1 r1 w1 e2;refine ⟨T,id,pa,slot,hty,t1,t2,?_⟩;have hA:=ha cpos zt s1 σ H1 (λvs H2=>∃ m2,Ext m1 H1 m2 H2/\RH X.K m2 H2 h1/\RWs X.prog X.w X.K m2 H2 vs ws) I1 ⟨m1,sl,h2,ws,h1,R1,S.ext x1,e5,λvs H2 m2 x2 R2 r2=>⟨m2,x2,R2,r2⟩⟩;rw[cY hs2.1] at hA ⊢;refine Vz (by show (ai||(VS cpos (T5 es X.env)).any (·.1))=ai;rw[fm hs2.2];rfl) (VM ?_);refine thn hA λus s2 zq=>?_;obtain ⟨vs,H2,I2,r2,m2,x2,R2,w2⟩:=zq;exact hm zt s2 σ H2 xv vs v us Q m2 h1 x ws z h' I2 r1 r2 R2 (w1.ext x2) w2 e2 λv5 H5 m5 x5 R5 r5=>post v5 H5 m5 ((x1.trans x2).trans x5) R5 r5
theorem gT (hk:k≠.dget) (e:BT.kTx k ws h=aa (z,h')):∃ ds d,BT.rds ws h=aa ds/\BT.txD k ds=aa d/\z=.p d/\h'=h:=by
 have e:((BT.rds ws h).bind λds=>(BT.txD k ds).map λd=>(BT.W.p d,h))=aa (z,h'):=by
  cases k with
  | dget=>exact absurd rfl hk| _=>exact e
 obtain ⟨ds,e1,e2⟩:=Option.bind_eq_some_iff.mp e;obtain ⟨d,e3,e4⟩:=dQ e2;cases e4;exact ⟨ds,d,e1,e3,rfl,rfl⟩
theorem uz {β:Type} [Decidable c] {a:Option β}{b:β} (h:(if c then a else af)=aa b):c/\a=aa b:=by
 by_cases z:c
 rw[if_pos z] at h;exact ⟨z,h⟩;rw[if_neg z] at h;exact cS h
theorem uA (e:BT.txD .join ds=aa d):∃ x ys ts,ds=[.str x,.lst ys]/\BT.strsOf ys=aa ts/\(ts.length<=4000/\x.length<=10/\∀ t∈ts,t.length<=4000)/\d=.str (SV x ts):=by
 match ds,e with
 | [.str x,.lst ys],e =>
  obtain ⟨ts,e1,e2⟩:=Option.bind_eq_some_iff.mp (show ((BT.strsOf ys).bind λts=>if ts.length<=4000/\x.length<=10/\∀ t∈ts,t.length<=4000 then aa (BT.D.str (SV x ts)) else af)=aa d from e);obtain ⟨c,e3⟩:=dR e2;exact ⟨x,ys,ts,rfl,e1,c,e3.symm⟩
theorem qz (e:BT.txD .split ds=aa d):∃ x y,ds=[.str x,.str y]/\(y.length=1/\x.length<=BT.lim)/\d=.lst ((Txt.split x y).map .str):=by
 match ds,e with
 | [.str x,.str y],e =>
  obtain ⟨c,e3⟩:=dR (show (if y.length=1/\x.length<=BT.lim then aa (BT.D.lst ((Txt.split x y).map .str)) else af)=aa d from e);exact ⟨x,y,rfl,c,e3.symm⟩
theorem kU (e:BT.rd w h=aa (.str x)):w=.p (.str x):=by
 cases w with
 | p d=>exact congrArg BT.W.p (S9 e)| r n=>obtain ⟨_,_,q⟩:=dQ (show (BT.lat h n).map BT.D.lst=aa (.str x) from e);cases q| _=>exact cS e
theorem gh (e:BT.rds (w::ws) h=aa ds):∃ d r,ds=d::r/\BT.rd w h=aa d/\BT.rds ws h=aa r:=by
 cases g:BT.rd w h with
 | none=>simp[BT.rds,g] at e
 | some d =>
  cases g2:BT.rds ws h with
  | none=>simp[BT.rds,g,g2] at e| some r=>simp[BT.rds,g,g2] at e;exact ⟨d,r,e.symm,rfl,rfl⟩
theorem Fz:∀ {vs:List V}{ys:List BT.D}{ts:List az}{us:List aA},RDs K m H vs ys->dD vs us->BT.strsOf ys=aa ts->∃ l:List (az×Tok),us=strValues l/\l.map (·.1)=ts/\∀ t∈ts,PyData.strOk t=ah:=by
 intro vs
 induction vs with
 | nil =>
  intro ys ts us r rv e;cases r;cases rv;cases e;exact ⟨[],rfl,rfl,λt ht=>absurd ht (by simp)⟩
 | cons v vs ih =>
  intro ys ts us r rv e;cases r with
  | @cons _ d _ ys r t =>
   cases rv with
   | @cons _ u _ us ru tv =>
    cases d with
    | str x =>
     obtain ⟨ts',e1,e2⟩:=dQ (show (BT.strsOf ys).map (x :: ·)=aa ts from e);subst e2;obtain ⟨l,q1,q2,q3⟩:=ih t tv e1;cases r with
     | str _ ok =>
      obtain ⟨tk,rfl⟩:=ru;refine ⟨(x,tk)::l,by rw[q1];rfl,by simp[q2],λy hy=>?_⟩;rcases List.mem_cons.mp hy with rfl|hy
      exact ok;exact q3 y hy
    | _=>exact cS e
theorem FA (x:az):∀ (ts:List az),PyData.strOk x=ah->(∀ t∈ts,PyData.strOk t=ah)->PyData.strOk (SV x ts)=ah:=by
 have ap:∀ a b:az,PyData.strOk a=ah->PyData.strOk b=ah->PyData.strOk (a++b)=ah:=by intro a b ha hb;unfold PyData.strOk at *;show (a.cps++b.cps).all _=ah;rw[Xh,ha,hb];rfl
 intro ts hx
 induction ts with
 | nil=>intro _;unfold SV PyData.strOk;simp[WJ]
 | cons t r ih =>
  intro h;cases r with
  | nil=>exact h t SG
  | cons u r =>
   show PyData.strOk (t++x++SV x (u::r))=ah;exact ap _ _ (ap _ _ (h t SG) hx) (ih λy hy=>h y (SI _ hy))
theorem FD (c:ts.length<=4000/\x.length<=10/\∀ t∈ts,t.length<=4000):JoinOk x ts=ah:=by
 unfold JoinOk;have:=StrLaws.joinFits (sep:=x) (texts:=ts) (B:=4000) c.2.2 (by
  have h1:=Nat.mul_le_mul c.1 (SY 4000);have h2:=Nat.mul_le_mul c.1 c.2.1;lia)
 rw[this];rfl
theorem ty_str (hk:k≠.dget) (h:∀ ds d,BT.txD k ds=aa d->∃ x r,ds=.str x::r):TyX X "str" k:=by
 intro zt s σ H v v' m x ws hh r I rv rw0 e;obtain ⟨ds,d,e1,e2,_,_⟩:=gT hk e;obtain ⟨y,r,rfl⟩:=h _ _ e2;obtain ⟨d0,r0,q1,q2,_⟩:=gh e1;cases q1;have ew:=kU q2;subst ew;cases rw0 with
 | p r =>
  cases r with
  | str _ ok =>
   obtain ⟨t,rfl⟩:=rv;exact ⟨typeIs_str s y t,λ_ e=>nomatch e⟩
theorem FF:MtX X "str.join" .join:=by
 intro zt s σ H v vs v' us Q m h x ws z h' I rv rus R w1 w2 e post;obtain ⟨ds,d,e1,e2,rfl,rfl⟩:=gT (k:=.join) (λq=>nomatch q) e;obtain ⟨sx,ys,ts,rfl,e3,c,rfl⟩:=uA e2;obtain ⟨d0,r0,q1,q2,q3⟩:=gh e1;cases q1;have ew:=kU q2;subst ew;have rr:=iS R w2 q3;obtain ⟨v2,rfl,r⟩:=rr.one;obtain ⟨a,vt,rfl,ha,ra⟩:=r.lst;obtain ⟨u,rfl,ru⟩:=vals1 rus;cases ru;cases w1 with
 | p r1 =>
  cases r1 with
  | str _ ok =>
   obtain ⟨t,rfl⟩:=rv;obtain ⟨its,q4,p,hz⟩:=I.list ha.sq;obtain ⟨l,rfl,hl,hs⟩:=Fz ra q4 e3;refine PySem.SC.join p.isList hl (FD c) λt' tk=>?_;rw[show Txt.join sx ts=SV sx ts from StrLaws.glued_eq_join sx ts];refine ⟨.str _,H,I.tok tk,⟨t',rfl⟩,?_⟩;exact post.here R (.str _ (FA sx ts ok hs))
theorem vW (h:PyData.strOk (a++b)=ah):PyData.strOk a=ah/\PyData.strOk b=ah:=by unfold PyData.strOk at *;have h:(a.cps++b.cps).all _=ah:=h;rw[Xh,SM] at h;exact h
theorem uB (y:az):∀ (ts:List az),PyData.strOk (SV y ts)=ah->∀ t∈ts,PyData.strOk t=ah
 | [],_,t,ht=>absurd ht (by simp)
 | [x],h,t,ht=>by
  have:t=x:=by simpa using ht
  subst this;exact h
 | x::u::r,h,t,ht=>by
  have h:PyData.strOk (x++y++SV y (u::r))=ah:=h;obtain ⟨h1,h2⟩:=vW h;rcases List.mem_cons.mp ht with rfl|ht
  exact (vW h1).1;exact uB y (u::r) h2 t ht
theorem qA (hy:y.length=1):∀ (ts:List az),ts.length<=(SV y ts).length+1
 | []=>UK _
 | [x]=>by simp
 | x::u::r=>by
  have ih:=qA hy (u::r);have e:(SV y (x::u::r)).length=x.length+y.length+(SV y (u::r)).length:=by show (x++y++SV y (u::r)).length=_;rw[UI,UI]
  simp only[SX] at ih ⊢;lia
theorem oX (I:Inv X zt σ H s) (R:RH X.K m H h) (hl:l.map (·.1)=ts) (hs:∀ t∈ts,PyData.strOk t=ah) (hn:ts.length<=200000) (post:Post X.prog X.w X.K m H (.p (.lst (ts.map .str))) h Q) :
 EP X zt σ Q (.ref s.heap.objs.size) { s with heap:=s.heap.push { cls:=.type "list",data:=.seq (strValues l).toArray },toks:=tk }:=by
 subst hl;have rv:∀ l:List (az×Tok),dD ((l.map (·.1)).map V.str) (strValues l):=by
  intro l
  induction l with
  | nil=>exact .nil| cons p l ih=>exact .cons ⟨p.2,rfl⟩ ih
 have rd:∀ l:List az,(∀ t∈l,PyData.strOk t=ah)->RDs X.K m H (l.map V.str) (l.map BT.D.str):=by
  intro l
  induction l with
  | nil=>intro _;exact .nil| cons t l ih=>intro h;exact .cons (.str t (h t SG)) (ih λy hy=>h y (SI _ hy))
 have sl:ak=16777216:=sizeLine_eq;have hr:=rv l;rw[SJ] at hn;refine ⟨.ref _,_,I.laid (a:=s.heap.objs.size) (o:=.lst ((l.map (·.1)).map V.str)) (t':=tk) (λb u q=>SH _ q) (SY _) ⟨by rw[SJ,SJ];lia,strValues l,0,hr,Th _ rfl⟩,rfl,jW R (I.hok.fresh (SY _)) (rd _ hs) post⟩
theorem B7:MtX X "str.split" .split:=by
 intro zt s σ H v vs v' us Q m h x ws z h' I rv rus R w1 w2 e post;obtain ⟨ds,d,e1,e2,rfl,rfl⟩:=gT (k:=.split) (λq=>nomatch q) e;obtain ⟨sx,sy,rfl,c,rfl⟩:=qz e2;obtain ⟨d0,r0,q1,q2,q3⟩:=gh e1;cases q1;have ew:=kU q2;subst ew;obtain ⟨d1,r1,q4,q5,q6⟩:=gh (w:=ws.headD (.p .non)) (ws:=ws.tail) (h:=h') (ds:=[BT.D.str sy]) (by
  cases ws with
  | nil=>cases q3
  | cons a b=>exact q3)
 cases ws with
 | nil=>cases q3
 | cons wy ws =>
  cases q4;have ey:=kU q5;have ey:wy=.p (.str sy):=ey;subst ey;cases w2 with
  | cons ry t2 =>
   have:ws=[]:=by
    cases ws with
    | nil=>rfl
    | cons a b =>
     obtain ⟨_,_,q7,_,_⟩:=gh (show BT.rds (a::b) h'=aa [] from q6);cases q7
   subst this;cases t2;obtain ⟨u,rfl,ru⟩:=vals1 rus;cases w1 with
   | p rx =>
    cases rx with
    | str _ ok =>
     cases ry with
     | p ry =>
      cases ry with
      | str _ ok2 =>
       obtain ⟨t,rfl⟩:=rv;obtain ⟨u,rfl⟩:=ru;have hy:(sy.length==0)=ai:=by rw[c.1];rfl
       have js:=Uy sx sy;have hs:=uB sy (Txt.split sx sy) (by rw[js];exact ok);have hm:=qA c.1 (Txt.split sx sy);rw[js] at hm;have cl:sx.length<=100000:=c.2;have hn:(Txt.split sx sy).length<=200000:=by lia
       have sl:ak=16777216:=sizeLine_eq;cases g1:(decide (sx.length < sy.length)||decide (X8 sx < X8 sy)) with
       | true =>
        have es:Txt.split sx sy=[sx]:=if_pos g1;refine Vk F.slot_str_split (typeIs_str _ _ _) F.entry_str_split (F.args_str_split_2 _ _) (meets_str_split_cannot_occur sx sy t u g1) ?_;exact oX (l:=[(sx,t)]) (tk:=s.toks) I R (ts:=Txt.split sx sy) (by rw[es];rfl) hs hn post
       | false =>
        cases g2:(Vi sx sy 0 sx.length (sx.length+1)).isEmpty with
        | true =>
         have es:Txt.split sx sy=[sx]:=(if_neg (by rw[g1];exact TJ)).trans (if_pos g2);refine Vk F.slot_str_split (typeIs_str _ _ _) F.entry_str_split (F.args_str_split_2 _ _) (meets_str_split_not_found sx sy t u g1 hy g2) ?_;exact oX (l:=[(sx,t)]) (tk:=s.toks) I R (ts:=Txt.split sx sy) (by rw[es];rfl) hs hn post
        | false =>
         have es:Txt.split sx sy=Builtin.Str.partsBetween sx (Vi sx sy 0 sx.length (sx.length+1)) sy.length:=(if_neg (by rw[g1];exact TJ)).trans (if_neg (by rw[g2];exact TJ));refine Vk F.slot_str_split (typeIs_str _ _ _) F.entry_str_split (F.args_str_split_2 _ _) (meets_str_split_sep sx sy t u g1 hy g2 (by lia) (by rw[← es];lia)) ?_;rw[← es,strsFrom_eq];exact oX (l:=numbered s.toks (Txt.split sx sy)) I R (ts:=Txt.split sx sy) (numbered_texts _ _) hs hn post
inductive rTx (P:Td) (w:Tz) (K:SA) (k:BT.Tx) (vs:List V) (H:Hp) (Q:VK):Prop where
 | mk (m:List S6) (h:BT.HH) (ws:List BT.W) (z:BT.W) (h':BT.HH) (R:RH K m H h) (rs:RWs P w K m H vs ws) (e:BT.kTx k ws h=aa (z,h')) (p:Post P w K m H z h' Q):rTx P w K k vs H Q
theorem B8 (q:tD X F G (.tx k as) σ H Q):tCB (rTx X.prog X.w X.K k) (tDs X F G as) σ H Q:=by refine lT (k:=λws h=>BT.kTx k ws h) (λs h=>by simp only[BT.ev]) q λm h xs z h' vs H1 R r e post=>?_;exact ⟨m,h,xs,z,h',R,r,e,post⟩
theorem JC (x:String):PyData.strOk (SE x)=ah:=by
 rw[Wx];unfold PyData.strOk;rw[Array.all_eq_true];intro i hi;rw[decide_eq_true_eq];have hc:∀ c:Char,c.toNat < 0x110000:=λc=>by
  rcases c.valid with h|h
  exact WK h (by decide);exact h.2
 simpa using hc _
theorem JD:gp X (.type "str") (rTx X.prog X.w X.K .str):=by
 intro zt s σ H vs us Q I rus h;obtain ⟨m,h,ws,z,h',R,rws,e,post⟩:=h;obtain ⟨ds,d,e1,e2,rfl,rfl⟩:=gT (k:=.str) (λq=>nomatch q) e;have rr:=iS R rws e1
 match ds,e2 with
 | [.int i],e2 =>
  obtain ⟨c,e3⟩:=dR (show (if BT.big i=ah then aa (BT.D.str (toString i)) else af)=aa d from e2);subst e3;obtain ⟨v,rfl,r⟩:=rr.one;cases r.int;have hb:i.natAbs < 2 ^ 64:=of_decide_eq_true c;refine qU zt s σ H _ us Q I rus ⟨i,rfl,?_,post.here R (.str _ (JC _))⟩;have:=Zj (n:=i.natAbs) (k:=64)
  by_cases z:i.natAbs=0
  rw[z];decide
  ·have:=(Zj z).mpr hb;lia
 | [.str x],e2 =>
  cases e2;obtain ⟨v,rfl,r⟩:=rr.one;obtain ⟨rfl,ok⟩:=r.str;obtain ⟨u,rfl,ru⟩:=vals1 rus;obtain ⟨t,rfl⟩:=ru;exact PySem.P.str_of_str ⟨.str x,H,I,⟨t,rfl⟩,post.here R (.str x ok)⟩
theorem JE:gp X (.type "int") (rTx X.prog X.w X.K .intS):=by
 intro zt s σ H vs us Q I rus h;obtain ⟨m,h,ws,z,h',R,rws,e,post⟩:=h;obtain ⟨ds,d,e1,e2,rfl,rfl⟩:=gT (k:=.intS) (λq=>nomatch q) e;have rr:=iS R rws e1
 match ds,e2 with
 | [.str x],e2 =>
  obtain ⟨c,e3⟩:=uz (show (if x.length<=640 then (Uv x).map BT.D.int else af)=aa d from e2);obtain ⟨n,e4,e5⟩:=dQ e3;subst e5;obtain ⟨v,rfl,r⟩:=rr.one;obtain ⟨rfl,ok⟩:=r.str;obtain ⟨u,rfl,ru⟩:=vals1 rus;obtain ⟨t,rfl⟩:=ru;exact PySem.W.KIN.call_text e4 c ⟨.int n,H,I.tok _,⟨_,rfl⟩,post.here R (.int _)⟩
theorem B9:∀ {vs:List V}{xs:List BT.D}{us:List aA}{bs:List Bool},RDs K m H vs xs->dD vs us->BT.boolsOf xs=aa bs->us=bs.map Wy:=by
 intro vs
 induction vs with
 | nil=>intro xs us bs r rv e;cases r;cases rv;cases e;rfl
 | cons v vs ih =>
  intro xs us bs r rv e;cases r with
  | @cons _ d _ xs r t =>
   cases rv with
   | @cons _ u _ us ru tv =>
    cases d with
    | bl b =>
     obtain ⟨bs',e1,e2⟩:=dQ (show (BT.boolsOf xs).map (b :: ·)=aa bs from e);subst e2;rw[ih t tv e1];cases r;cases ru;rfl
    | _=>exact cS e
theorem JF (hc:X.calm=ah):gp X (.builtin "all") (rTx X.prog X.w X.K .all):=by
 intro zt s σ H vs us Q I rus h;obtain ⟨m,h,ws,z,h',R,rws,e,post⟩:=h;obtain ⟨ds,d,e1,e2,rfl,rfl⟩:=gT (k:=.all) (λq=>nomatch q) e;have rr:=iS R rws e1
 match ds,e2 with
 | [.lst xs],e2 =>
  obtain ⟨bs,e3,e4⟩:=dQ (show (BT.boolsOf xs).map (λbs=>BT.D.bl (bs.all id))=aa d from e2);subst e4;obtain ⟨v,rfl,r⟩:=rr.one;obtain ⟨a,vt,rfl,ha,ra⟩:=r.lst;obtain ⟨u,rfl,ru⟩:=vals1 rus;cases ru;obtain ⟨its,q4,p,hz⟩:=I.list ha.sq;have ei:=B9 ra q4 e3;subst ei;have lt:a < s.heap.objs.size:=by obtain ⟨o,ho,_⟩:=p.isList;exact SW ho
  have hh:X.A.in1.handled=af:=I.ok.hd hc;refine call_all_walk (XM p.isList ⟨s.heap.objs.size,[s.heap.objs.size,a],[s.heap.objs.size],_,_,_,λi=>(bs[i]?).getD ah,rfl,Walks.list hh s.heap.objs.size a (Tn lt) (bs.map Wy).toArray,⟨⟨_,Th _ rfl,rfl,rfl⟩,p.isList.at λo e=>SH _ e⟩,?_,λh' tk hk=>?_⟩)
  ·intro i v s' Q' E' hv hq;have hv:((bs.map Wy).toArray)[i]?=aa v:=hv;rw[YC,Uu] at hv;obtain ⟨b,g1,g2⟩:=dQ hv;subst g2;have hq:Q' ((bs[i]?).getD ah) s':=hq;rw[g1] at hq;exact Uz hq
  ·have es:((U0 (bs.map Wy).toArray.size).all λi=>(bs[i]?).getD ah)=bs.all id:=by
    rw[SQ,SJ,Bool.eq_iff_iff,TU,TU];constructor
    ·intro q b hb;obtain ⟨i,hi,rfl⟩:=List.mem_iff_getElem.mp hb;have:=q i (List.mem_range.mpr hi);rw[Tc hi] at this;exact this
    ·intro q i hi;rw[Tc (List.mem_range.mp hi)];exact q _ (UX _)
   rw[es];refine ⟨.bl _,H,I.kept (t':=tk) λb o e=>hk b o ?_ (SH _ e),rfl,post.here R (.bl _)⟩;have:=SW e;simp;exact Tn this
noncomputable def oTx (k:BT.Tx) (x y:BT.W) (h:BT.HH):Option (BT.W×BT.HH):=BT.kTx k [x,y] h
theorem oY (σ:L2.St) (H:Hp) (Q:VK) (q:tD X F G (.tx k (.cons a (.cons b .nil))) σ H Q):tOp (rOp X.prog X.w X.K (oTx k)) (tD X F G a) (tD X F G b) σ H Q:=by obtain ⟨m,s,h,z,h',R,S,ee,post⟩:=q;simp only[BT.ev,BT.evs] at ee;obtain ⟨xs,h1,e1,e2⟩:=cW ee;obtain ⟨x,h2,e3,e4⟩:=cW e1;obtain ⟨ws,h3,e5,e6⟩:=cW e4;obtain ⟨y,h4,e7,e8⟩:=cW e5;simp only[BT.oO,BT.cZ,BT.je] at e8;cases e8;simp only[BT.je] at e6;cases e6;refine ⟨m,s,h,x,h2,R,S,e3,λv H1 m1 x1 R1 r1=>?_⟩;refine ⟨m1,s,h2,y,h1,R1,S.ext x1,e7,λu H2 m2 x2 R2 r2=>?_⟩;exact ⟨m2,h1,x,y,z,h',R2,r1.ext x2,r2,e2,λw' H3 m3 x3 R3 r3=>post w' H3 m3 ((x1.trans x2).trans x3) R3 r3⟩
theorem xV (e:BT.rds [w1,w2] h=aa ds) (q:ds=[.str x,.str y]):w1=.p (.str x)/\w2=.p (.str y):=by subst q;obtain ⟨d0,r0,q1,q2,q3⟩:=gh e;cases q1;obtain ⟨d1,r1,q4,q5,q6⟩:=gh q3;cases q4;exact ⟨kU q2,kU q5⟩
theorem Ca (hk:k=.inS\/k=.ninS) (e:BT.txD k ds=aa d):∃ x y,ds=[.str x,.str y]:=by
 rcases hk with rfl|rfl
 ·match ds,e with
  | [.str x,.str y],_=>exact ⟨x,y,rfl⟩
 ·match ds,e with
  | [.str x,.str y],_=>exact ⟨x,y,rfl⟩
theorem Hw:OpR X (Uj .In) (rOp X.prog X.w X.K (oTx .inS)):=by
 intro zt s σ H v u v' u' Q I rv ru h;obtain ⟨m,h,x,y,z,h',R,rx,ry,e,post⟩:=h;obtain ⟨ds,d,e1,e2,rfl,rfl⟩:=gT (k:=.inS) (λq=>nomatch q) e;obtain ⟨sx,sy,q⟩:=Ca (.inl rfl) e2;obtain ⟨rfl,rfl⟩:=xV e1 q;subst q;cases e2;cases rx with
 | p rx =>
  cases rx with
  | str _ ok =>
   cases ry with
   | p ry =>
    cases ry with
    | str _ ok2 =>
     obtain ⟨t,rfl⟩:=rv;obtain ⟨t2,rfl⟩:=ru;exact PySem.SB.contains ⟨.bl _,H,I,rfl,post.here R (.bl _)⟩
theorem Cb:OpR X (Uj .NotIn) (rOp X.prog X.w X.K (oTx .ninS)):=by
 intro zt s σ H v u v' u' Q I rv ru h;obtain ⟨m,h,x,y,z,h',R,rx,ry,e,post⟩:=h;obtain ⟨ds,d,e1,e2,rfl,rfl⟩:=gT (k:=.ninS) (λq=>nomatch q) e;obtain ⟨sx,sy,q⟩:=Ca (.inr rfl) e2;obtain ⟨rfl,rfl⟩:=xV e1 q;subst q;cases e2;cases rx with
 | p rx =>
  cases rx with
  | str _ ok =>
   cases ry with
   | p ry =>
    cases ry with
    | str _ ok2 =>
     obtain ⟨t,rfl⟩:=rv;obtain ⟨t2,rfl⟩:=ru;exact PySem.SB.notContains ⟨.bl _,H,I,rfl,post.here R (.bl _)⟩
inductive Hx (X:Cx) (m:List S6) (H:Hp) (s:SL) (a:S6) (o:Option BT.D) (k:Key):Prop where
 | mk (vs:List (Key×aA)) (dd:s.heap.DictOf (dB X.prog X.w) a vs) (n:(a==UV)=ai) (h:(o=af/\valueAt vs k=af)\/∃ x v u,o=aa x/\valueAt vs k=aa u/\RelV v u/\RD X.K m H v x):Hx X m H s a o k
theorem Nr:∀ {es:List (az×V)}{kvs:List (az×BT.D)},RDk K es kvs->KV (es.map λq=>((Sum.inr q.1:Key),q.2)) vs->(BT.dU k kvs=af/\valueAt vs (Sum.inr k)=af)\/∃ x v u,BT.dU k kvs=aa x/\valueAt vs (Sum.inr k)=aa u/\RelV v u/\RD K m H v x:=by
 intro es
 induction es generalizing vs with
 | nil =>
  intro kvs r q;cases r;cases q;exact .inl ⟨rfl,rfl⟩
 | cons p es ih =>
  intro kvs r q;cases r with
  | @cons x v dd _ kvs r t =>
   cases q with
   | @cons p z l1 l2 q1 q2 =>
    obtain ⟨z1,z2⟩:=z;obtain ⟨q11,q12⟩:=q1;simp only at q11 q12;subst q11;rw[BT.dU]
    by_cases c:k=x
    ·subst c;rw[if_pos rfl];exact .inr ⟨dd,v,z2,rfl,by simp[valueAt],q12,r m H⟩
    ·rw[if_neg c];have ne:¬ ((Sum.inr x:Key)=Sum.inr k):=λz=>c (Sum.inr.inj z).symm;have:=ih t q2;simp only[valueAt] at this ⊢;rw[Wt (by simpa using ne)];exact this
noncomputable def kdG:BT.Kd->az->Option BT.D
 | .t kvs,x=>BT.dU x kvs| .l kvs,x=>BT.ff kvs (.inr x)
theorem Cd (I:Inv X zt σ H s) (r:RW X.prog X.w X.K m H v (.k q)) (rv:RelV v u) (x:az) :
 ∃ a,u=.ref a/\Hx X m H s a (kdG q x) (.inr x):=by
 cases r with
 | @k a es kvs kd rk =>
  cases rv;obtain ⟨hm,vs,kv,dd⟩:=kd;exact ⟨a,rfl,vs,dd s.heap I.kIn,hm,Nr rk kv⟩
 | @kl a ob ws kvs hh rk =>
  cases rv;refine ⟨a,rfl,?_⟩;cases vR I (.inr ⟨_,hh.1⟩) rk (.inr x) with
  | no vs dd n g1 g2=>exact ⟨vs,dd,n,.inl ⟨g1,g2⟩⟩| is vs dd n y v1 u1 g1 g2 g3 g4=>exact ⟨vs,dd,n,.inr ⟨y,v1,u1,g1,g2,g3,g4⟩⟩
theorem uC (e:BT.kTx .dget (x::ws) h=aa (z,h')):∃ q y,x=.k q/\h'=h/\((ws=[.p .non]/\z=.p .non/\∃ kvs,q=.t kvs)\/(ws=[.p (.str y)]/\z=.p ((kdG q y).getD .non))\/∃ d,ws=[.p (.str y),.p d]/\z=.p ((kdG q y).getD d)):=by
 have no:∀ (o:Option (List BT.D)),(o.bind λds=>(BT.txD .dget ds).map λd=>(BT.W.p d,h))=aa (z,h')->False:=by intro o e;obtain ⟨ds,_,e2⟩:=Option.bind_eq_some_iff.mp e;obtain ⟨d,e3,_⟩:=dQ e2;exact cS (P:=False) (show (af:Option BT.D)=aa d from by rw[← e3];unfold BT.txD;rfl)
 cases x with
 | k q =>
  cases q with
  | t kvs =>
   have e:BT.Bh kvs ws h=aa (z,h'):=e;unfold BT.Bh at e;split at e;cases e;exact ⟨_,"",rfl,rfl,.inl ⟨rfl,rfl,_,rfl⟩⟩;cases e;exact ⟨_,_,rfl,rfl,.inr (.inl ⟨rfl,rfl⟩)⟩;cases e;exact ⟨_,_,rfl,rfl,.inr (.inr ⟨_,rfl,rfl⟩)⟩;exact cS e
  | l kvs =>
   have e:BT.vL kvs ws h=aa (z,h'):=e;unfold BT.vL at e;split at e;cases e;exact ⟨_,_,rfl,rfl,.inr (.inl ⟨rfl,rfl⟩)⟩;cases e;exact ⟨_,_,rfl,rfl,.inr (.inr ⟨_,rfl,rfl⟩)⟩;exact cS e
 | p d=>exact (no (BT.rds (.p d::ws) h) e).elim| r n=>exact (no (BT.rds (.r n::ws) h) e).elim| o n=>exact (no (BT.rds (.o n::ws) h) e).elim| c f cs=>exact (no (BT.rds (.c f cs::ws) h) e).elim| x c=>exact (no (BT.rds (.x c::ws) h) e).elim
theorem ty_dict:TyX X "dict" .dget:=by intro zt s σ H v v' m x ws hh r I rv rw0 e;obtain ⟨z,h'⟩:=r;obtain ⟨q,y,rfl,_,_⟩:=uC e;obtain ⟨a,rfl,vs,dd,n,_⟩:=Cd I rw0 rv y;refine ⟨dd.typeIs,λb eb=>?_⟩;cases eb;obtain ⟨o,es,ep,ho,hx,_⟩:=dd;exact ⟨o,ho,hx.2.1⟩
theorem Ce:MtX X "dict.get" .dget:=by
 intro zt s σ H v vs v' us Q m h x ws z h' I rv rus R w1 w2 e post;obtain ⟨q,y,rfl,rfl,hz⟩:=uC e;obtain ⟨a,rfl,vs',dd,n,hg⟩:=Cd I w1 rv y;rcases hz with ⟨rfl,rfl,kvs,rfl⟩|⟨rfl,rfl⟩|⟨d,rfl,rfl⟩
 ·cases w2 with
  | cons ry t =>
   cases t;obtain ⟨u,rfl,ru⟩:=vals1 rus;cases ry with
   | p ry =>
    cases ry;cases ru;obtain ⟨f,mo,fn⟩:=map_none dd;refine call_meetsIn U3 dd.typeIs Wh (X4 _ _) (meets_dict_get (optKind X.prog X.w) (k:=af) a rfl n) ⟨_,mo,?_⟩;rw[fn];exact ⟨.non,H,I.tok _,rfl,post.here R .non⟩
 ·cases w2 with
  | cons ry t =>
   cases t;obtain ⟨u,rfl,ru⟩:=vals1 rus;cases ry with
   | p ry =>
    cases ry with
    | str _ ok =>
     obtain ⟨t,rfl⟩:=ru;refine call_meetsIn U3 dd.typeIs Wh (X4 _ _) (meets_dict_get (dB X.prog X.w) a (fF _ _ y t) n) ⟨_,dd.mapOf,?_⟩;rcases hg with ⟨g1,g2⟩|⟨x,v1,u1,g1,g2,g3,g4⟩
     ·rw[g1] at post;rw[g2];exact ⟨.non,H,I.tok _,rfl,post.here R .non⟩
     ·rw[g1] at post;rw[g2];exact ⟨v1,H,I.tok _,g3,post.here R g4⟩
 ·cases w2 with
  | cons ry t =>
   cases t with
   | cons rd t =>
    cases t;obtain ⟨u,u2,rfl,ru,ru2⟩:=rus.two;cases ry with
    | p ry =>
     cases rd with
     | p rd =>
      cases ry with
      | str _ ok =>
       obtain ⟨t,rfl⟩:=ru;refine call_meetsIn U3 dd.typeIs Wh (PySem.F.args_dict_get_3 _ _ _) (meets_dict_get_default (dB X.prog X.w) a (fF _ _ y t) n u2) ⟨_,dd.mapOf,?_⟩;rcases hg with ⟨g1,g2⟩|⟨x,v1,u1,g1,g2,g3,g4⟩
       ·rw[g1] at post;rw[g2];exact ⟨_,H,I.tok _,ru2,post.here R rd⟩
       ·rw[g1] at post;rw[g2];exact ⟨v1,H,I.tok _,g3,post.here R g4⟩
end
section
end
section
variable {F:FT}{G:az->Option BT.W}
end
end BS
end
section
namespace BX
open PySem PyProof.Rows
section
variable {prog:Td}{w:Tz}{A:Ub}{E:aA->SL->Prop}{s:SL}{R:Result->SL->Prop}
end
section
variable {E:aA->SL->Prop}
end
end BX
namespace BS
open PySem PySem.Spec PyProof.Rows L2
section
end
end BS
end
section
namespace BS
open PySem PySem.Spec PyProof.Rows L2
section
end
noncomputable def oZ (sc:Um) (x:az):Bool:=match sc.names.lookup x with
 | some .local=>ah| some .cell=>ah| _=>ai
inductive CTs (sc:Um) (N:List az):List (Nat×az)->List SR->Prop where
 | nil:CTs sc N [] []
 | cons {i:Nat}{x:az}{p:Pos}{tg:List (Nat×az)}{es:List SR} (h1:N[i]?=aa x) (h2:oZ sc x=ah) (r:CTs sc N tg es):CTs sc N ((i,x)::tg) (.Name x p::es)
inductive CT (sc:Um) (N:List az):List (Nat×az)->SR->Prop where
 | one {i:Nat}{x:az}{p:Pos} (h1:N[i]?=aa x) (h2:oZ sc x=ah):CT sc N [(i,x)] (.Name x p)
 | tup {tg:List (Nat×az)}{es:List SR}{p:Pos}{k:Nat} (hl:Nat.ble 2 tg.length=ah) (h:CTs sc N tg es):CT sc N tg (.Tuple es k p)
section
theorem RS.set {K:SA} (S:RS P w K m H σ s) (r:RW P w K m H v z):RS P w K m H (σ.set i (aa v)) (s.set i (aa z)):=by
 refine ⟨by simp[S.len],λj y e=>?_⟩
 by_cases c:i=j
 ·subst c;have hl:i < s.length:=by
   rcases UG i s.length with q|q
   exact q;rw[Tv (by simpa using q)] at e;exact cS e
  rw[UL hl] at e;cases e;exact ⟨v,by rw[UL (by rw[S.len];exact hl)],r⟩
 ·rw[Ve c] at e;obtain ⟨u,h1,h2⟩:=S.get j y e;exact ⟨u,by rw[Ve c];exact h1,h2⟩
theorem o4 (O:Ok X F G sc N) (h:oZ sc x=ah):L2.Loc X.env.scope x:=by
 rw[O.hsc];unfold oZ at h;unfold L2.Loc;cases e:sc.names.lookup x with
 | none=>rw[e] at h;exact BT.dS h
 | some k=>rw[e] at h;cases k<;>first|(exact .inl rfl)|(exact .inr rfl)|exact BT.dS h
theorem nS (h:iR e=ah):∀ x,XS e env x=pure x:=by intro x;cases e<;>first|rfl|exact BT.dS h
def GOk (X:Cx) (tg:List (Nat×az)) (g:TG):Prop:=∀ (m:List S6) (H:Hp) (σ:L2.St) (s:BT.Sl) (x:V) (d:BT.D) (ds:List BT.D) (Q:L2.St->Hp->Prop),RS X.prog X.w X.K m H σ s->RD X.K m H x d->BT.target tg.length d=aa ds →
 (∀ σ',RS X.prog X.w X.K m H σ' (BT.sets tg ds s)->Q σ' H)->g x σ H Q
def QX (K:SA) (n:Nat) (t:TGs):TG:=λv σ H Q=>∃ a xs,v=.ref a/\(SqT K H a xs\/LL K H a xs)/\xs.length=n/\t xs σ H Q
theorem JG {X:Cx}{es:List SR}{k:Nat}{t:TGs}{n:Nat}{pos:Pos} (hc:X.calm=ah) (h:PGs X es t) (hn:(Vl es X.env).length=n) (hst:(Vl es X.env).findIdx? (·.1)=af):PG X (.Tuple es k pos) (QX X.K n t):=by
 intro zt s σ H v u Q I r hw;obtain ⟨a,xs,rfl,hq|hq,hl,hw⟩:=hw;exact Ik hc h hn hst zt s σ H _ u Q I r ⟨a,xs,rfl,hq,hl,hw⟩
 ·cases r;obtain ⟨z,its,n2,rv,hz,e⟩:=rdL I hq;rw[assign_Tuple];refine SD (VZ ?_);unfold unpack;rw[hn,hst];refine SD (Ul ?_);have sz:n=its.toArray.size:=by rw[SQ,← hl];exact hz
  rw[sz];refine PySem.W.kun_itemsOf (I.ok.hd hc) ⟨_,e,rfl,_,rfl⟩ λh' hx=>?_;have I1:Inv X zt σ H { s with heap:=h' }:=I.kept (t':=s.toks) λb o e=>hx b o (Tn (SW e)) e;exact h zt _ σ H xs _ Q I1 (by simpa using rv) hw
inductive GsO (X:Cx) (tg:List (Nat×az)) (es:List SR):Prop where
 | mk (gs:TGs) (h:PGs X es gs) (hn:(Vl es X.env).length=tg.length) (hs:(Vl es X.env).findIdx? (·.1)=af)
  (ok:∀ (m:List S6) (H:Hp) (σ:L2.St) (s:BT.Sl) (vs:List V) (ds:List BT.D) (Q:L2.St->Hp->Prop),RS X.prog X.w X.K m H σ s->RDs X.K m H vs ds->ds.length=tg.length->(∀ σ',RS X.prog X.w X.K m H σ' (BT.sets tg ds s)->Q σ' H)->gs vs σ H Q):GsO X tg es
theorem QY {X:Cx}{sc:Um}{N:List az} (O:Ok X F G sc N) {tg:List (Nat×az)}{es:List SR} (h:CTs sc N tg es) (hf:∀ q∈tg,X.fn q.2=ah\/X.env.scope.names.lookup q.2=aa .local):GsO X tg es:=by
 induction h with
 | nil =>
  refine ⟨LH,Er,rfl,rfl,λm H σ s vs ds Q S r hl q=>?_⟩;cases r with
  | nil=>exact ⟨rfl,q _ S⟩| cons _ _=>cases hl
 | @cons i x p tg es h1 h2 r ih =>
  obtain ⟨gs,hg,hn,hs,ok⟩:=ih λq hq=>hf q (SI _ hq);refine ⟨_,AN (xj (i:=i) O.nd (by rw[O.hN];exact h1) (o4 O h2) (hf (i,x) (by simp))) hg,congrArg (·+1) hn,?_,λm H σ s vs ds Q S r hl q=>?_⟩
  ·show ((ai,Xq (.Name x p) X.env)::Vl es X.env).findIdx? (·.1)=af;rw[List.findIdx?_cons];show (if ai=ah then _ else _)=_;rw[if_neg (by decide),hs];rfl
  ·cases r with
   | nil=>cases hl| @cons v d vs ds ra t=>exact ⟨v,vs,rfl,ok m H (σ.set i (aa v)) (s.set i (aa (.p d))) vs ds Q (S.set (.p ra)) t (Nat.succ.inj hl) q⟩
theorem sCT (O:Ok X F G sc N) (hc:X.calm=ah) (h:CT sc N tg te) (hf:∀ q∈tg,X.fn q.2=ah\/X.env.scope.names.lookup q.2=aa .local):∃ g,PG X te g/\GOk X tg g:=by
 cases h with
 | @one i x p h1 h2 =>
  refine ⟨_,xj (i:=i) O.nd (by rw[O.hN];exact h1) (o4 O h2) (hf (i,x) (by simp)),?_⟩;intro m H σ s v d ds Q S r e q;simp only[SX,Uo,Nat.zero_add,BT.uh] at e;cases e;exact q _ (S.set (.p r))
 | @tup tg es p k hl h =>
  obtain ⟨gs,hg,hn,hs,ok⟩:=QY O h hf;refine ⟨_,JG (n:=tg.length) hc hg hn hs,?_⟩;intro m H σ s v d ds Q S r e q;have h2:=Nat.le_of_ble_eq_true hl;unfold BT.target at e;rw[if_neg (by lia)] at e;cases r with
  | @tup a vs dd h r =>
   rw[BT.ug] at e;obtain ⟨c,e⟩:=dR e;subst e;exact ⟨a,vs,rfl,.inl (h.elim (λq=>.inl q.1) λ⟨o,its,n,q,_⟩=>.inr ⟨o,its,n,q⟩),by rw[r.length];exact c,ok m H σ s vs _ Q S r c q⟩
  | @lst a vs dd h r =>
   rw[BT.uf] at e;obtain ⟨c,e⟩:=dR e;subst e;exact ⟨a,vs,rfl,.inr (h.elim (λq=>.inl q.1) .inr),by rw[r.length];exact c,ok m H σ s vs _ Q S r c q⟩
  | _=>exact cS e
end
end BS
end
section
namespace BC
open PySem
section
theorem Ad {target:SR} (I:Nat->SL->Prop)
 (turn:∀ n s,I n s->ay (Ti prog w) A (YR it) (λr s₁=>match r with
  | none=>R (.ok .next) s₁
  | some v=>ay (Ti prog w) A (VB target it v) (λ_ s₀=>ay (Ti prog w) A (Xq target env v) (λ_ s₂ =>
   ay (Ti prog w) A (forIn ifs ah λc r=>if r=ah then do let ok ← isTrue c env (eval c env);pure (Wk ok) else pure (Wk r)) (λok s₃ =>
    if ok=ah then ay (Ti prog w) A (eval elt env) (λx s₄ =>
     ay (Ti prog w) A (call (.builtin "list.append") [acc,x]) (λ_ s₅=>∃ m,m < n/\I m s₅) (λ_ _=>False) s₄) (λ_ _=>False) s₃
    else ∃ m,m < n/\I m s₃) (λ_ _=>False) s₂) (λ_ _=>False) s₀) (λ_ _=>False) s₁) (λ_ _=>False) s)
 (n:Nat) (h:I n s):ao (Ti prog w) A (.compLoop (.ListComp elt [⟨target,iter,ifs,0⟩] scope pos) 0 it acc env) R s:=by
 refine codeAny_loop rfl I (λn s hI=>?_) n h;show ay _ A ((compTurn (.ListComp elt [⟨target,iter,ifs,0⟩] scope pos) 0 it acc env).onRaise (λx=>do Xn x env;theTreesLotGoes x)) _ _ s;refine wpAny_noted ?_;rw[compTurn_list];refine SD (VZ (SD (UA (turn n s hI) (λr s₁ h₁=>?_) λ_ _ h'=>h'.elim)));cases r with
 | none=>exact av h₁
 | some v =>
  refine SD (UA h₁ (λ_ s₀ h₀'=>?_) λ_ _ h'=>h'.elim);refine SD (UA h₀' (λ_ s₂ h₂=>SD (UA h₂ (λok s₃ h₃=>?_) λ_ _ h'=>h'.elim)) λ_ _ h'=>h'.elim);cases ok with
  | false=>exact av ⟨rfl,h₃⟩
  | true =>
   exact SD (SD (UA h₃ (λx s₄ h₄=>SD (UA h₄ (λ_ s₅ h₅=>av (av ⟨rfl,h₅⟩)) λ_ _ h'=>h'.elim)) λ_ _ h'=>h'.elim))
end
noncomputable def iT (cells:List (az×S6)):List (az×VC)->List (az×S6)->List (az×S6)
 | [],acc=>acc
 | (n,k)::r,acc=>if k==.free then (match cells.lookup n with|some c=>iT cells r ((n,c)::acc)|none=>iT cells r acc) else iT cells r acc
def r6 (cells:List (az×S6)) (names:List (az×VC)):Prop:=∀ x∈names,x.2=.free->∃ c,cells.lookup x.1=aa c
theorem o5:∀ (names:List (az×VC)) (acc:List (az×S6)),r6 env.cells names →
 (forIn names acc λx (r:List (az×S6))=>(if x.2==.free then do let c ← cellOf env x.1;pure (Wk ((x.1,c)::r)) else pure (Wk r):Sem (ForInStep (List (az×S6)))))=pure (iT env.cells names acc)
 | [],acc,_=>rfl
 | (n,k)::r,acc,h=>by
  have ih:=λacc=>o5 (env:=env) r acc λx hx=>h x (SI _ hx);rw[XG]
  by_cases c:k=.free
  ·subst c;obtain ⟨a,e⟩:=h (n,.free) SG rfl;have e:env.cells.lookup n=aa a:=e;simp only[iT,e];show (cellOf env n >>= _) >>= _=_;unfold cellOf;rw[e];exact ih _
  ·have cb:(k==UC)=ai:=by simpa using c
   simp only[iT,cb];exact ih _
theorem mV {α β:Type}{m m':Sem α}{f:α->Sem β} (h:m=m'):(m >>= f)=(m' >>= f):=by rw[h]
theorem o6 {scope:Um}{env:Env} (h:r6 env.cells scope.names):closureFor scope env=pure (iT env.cells scope.names []):=by have:=o5 (env:=env) scope.names [] h;unfold closureFor;exact (mV this).trans rfl
theorem r8:∀ {names:List (az×VC)}{acc:List (az×S6)},(∀ x c,acc.lookup x=aa c->cells.lookup x=aa c)->∀ x c,(iT cells names acc).lookup x=aa c->cells.lookup x=aa c
 | [],acc,h,x,c,e=>h x c e
 | (n,k)::r,acc,h,x,c,e=>by
  rw[iT] at e;split at e
  ·split at e
   ·rename_i a ea;refine r8 (λy b q=>?_) x c e;rw[Wp] at q;split at q
    ·rename_i hy;have:y=n:=by simpa using hy
     subst this;cases q;exact ea
    exact h y b q
   exact r8 h x c e
  exact r8 h x c e
theorem nT:∀ {names:List (az×VC)}{acc:List (az×S6)},(∃ c,acc.lookup x=aa c)->∃ c,(iT cells names acc).lookup x=aa c
 | [],acc,h=>h
 | (n,k)::r,acc,h=>by
  rw[iT];split
  ·split
   ·refine nT ?_;rw[Wp];split;exact ⟨_,rfl⟩;exact h
   exact nT h
  exact nT h
theorem r9:∀ {names:List (az×VC)}{acc:List (az×S6)},(x,UC)∈names->(∃ c,cells.lookup x=aa c)->∃ c,(iT cells names acc).lookup x=aa c
 | [],acc,h,_=>nomatch h
 | (n,k)::r,acc,h,q=>by
  rw[iT];rcases List.mem_cons.mp h with e|e
  ·cases e;obtain ⟨c,ec⟩:=q;rw[if_pos (by rfl),ec];refine nT ?_;exact ⟨c,by simp⟩
  ·split
   ·split;exact r9 e q;exact r9 e q
   exact r9 e q
end BC
end
section
namespace BS
open PySem PySem.Spec PyProof.Rows L2
variable {cond:BT.Es}
def o7 (F:FT) (G:az->Option BT.W) (sc:Um) (N:List az) (cond:BT.Es) (ifs:List SR):Prop :=
 (cond=.nil/\ifs=[])\/∃ c c',cond=.cons c .nil/\ifs=[c']/\∀ X',Ok X' F G sc N->PT X' c' (tDT X' F G c)
structure uD (sc:Um) (N tg:List az) (fv:List (Nat×az)) (scope:Um):Prop where
 k1:scope.kind=.function
 k2:sc.kind=.function
 cell:∀ y∈scope.names,y.2≠.cell
 loc:∀ y∈scope.names,y.2=.local->scope.names.lookup y.1=aa .local
 free:∀ y∈scope.names,y.2=.free->sc.names.lookup y.1=aa .cell
 fvs:∀ q∈fv,N[q.1]?=aa q.2/\(q.2,UC)∈scope.names/\sc.names.lookup q.2=aa .cell/\(dW scope sc).names.lookup q.2=aa .cell
 nd:(tg++fv.map (·.2)).Nodup
theorem qC:∀ {l:List az},oR l=ah->l.Nodup
 | [],_=>List.nodup_nil
 | x::r,h=>by simp only[oR,SM,Wf] at h;refine List.nodup_cons.mpr ⟨λz=>?_,qC h.2⟩;have:=h.1;simp[z] at this
theorem Hy (h:jf sc N tg fv scope=ah):uD sc N tg fv scope:=by
 simp only[jf,SM] at h;obtain ⟨⟨⟨⟨⟨⟨h1,h2⟩,h3⟩,h4⟩,h5⟩,h6⟩,h7⟩:=h;rw[TU] at h3 h4 h5 h6;refine ⟨eq_of_beq h1,eq_of_beq h2,λy hy e=>?_,λy hy e=>?_,λy hy e=>?_,λq hq=>?_,qC h7⟩
 ·have:=h3 y hy;rw[e] at this;simp at this
 ·have:=h4 y hy;rw[e] at this;simpa using this
 ·have:=h5 y hy;rw[e] at this;simpa using this
 ·have:=h6 q hq;simp only[SM] at this;obtain ⟨⟨⟨a,b⟩,c⟩,d⟩:=this;exact ⟨by simpa using a,by simpa using b,by simpa using c,by simpa using d⟩
theorem kW {sc:Um}{x:az}{k:VC} (hk:k=.cell\/k=.free):∀ {names:List (az×VC)},(∀ y∈names,y.2≠.cell) →
 (names.map λ(n,k)=>if (k==UC&&sc.kind==.function&&sc.names.lookup n==aa .cell) then (n,WN) else (n,k)).lookup x=aa k->(x,UC)∈names
 | [],_,h=>by simp at h
 | (n,q)::r,hc,h=>by
  have ih:=kW (sc:=sc) (x:=x) hk (names:=r) λy hy=>hc y (SI _ hy);replace h:List.lookup x ((if (q==UC&&sc.kind==.function&&sc.names.lookup n==aa .cell)=ah then (n,WN) else (n,q))::(r.map λ(n,k)=>if (k==UC&&sc.kind==.function&&sc.names.lookup n==aa .cell) then (n,WN) else (n,k)))=aa k:=h;have go:∀ (q':VC),(q'=q\/(q'=.cell/\q=.free))->List.lookup x ((n,q')::(r.map λ(n,k)=>if (k==UC&&sc.kind==.function&&sc.names.lookup n==aa .cell) then (n,WN) else (n,k)))=aa k->(x,UC)∈(n,q)::r:=by
   intro q' hq gl;rw[Wp] at gl;split at gl
   ·rename_i hx;have hx:x=n:=by simpa using hx
    subst hx;have e:q'=k:=S9 gl;have hqf:q=.free:=by
     rcases hq with rfl|⟨_,e2⟩
     ·rcases hk with z|z
      exact absurd (e.trans z) (hc (x,q') SG);exact e.trans z
     exact e2
    rw[hqf];exact SG
   exact SI _ (ih gl)
  by_cases c:(q==UC&&sc.kind==.function&&sc.names.lookup n==aa .cell)=ah
  ·rw[if_pos c] at h;refine go .cell (.inr ⟨rfl,?_⟩) h;simp only[SM] at c;exact eq_of_beq c.1.1
  ·rw[if_neg c] at h;exact go q (.inl rfl) h
noncomputable def blk (X:Cx) (N':List az) (s2:SL) (H1:Hp) (scope:Um) (C:S6) (fp:List S6):Cx :=
 { X with N:=N',s₀:=s2,H₀:=H1,env:=Yr scope (BC.iT X.env.cells scope.names []) C X.env,outer:=X.stack,stack:=X.stack,ex:=fp,fn:=λ_=>ai,pn:=[],xe:=λ_ _=>False }
section
variable {X:Cx}{F:FT}{G:az->Option BT.W}{sc:Um}{N:List az}{zt:List (S6×aq)}{σ:L2.St}{H1:Hp}{s2:SL}
theorem kK {scope:Um}{x:az}{c:S6} (e:(BC.iT X.env.cells scope.names []).lookup x=aa c):X.env.cells.lookup x=aa c :=
 BC.r8 (λ_ _ z=>by simp at z) x c e
theorem uE (hsc:X.env.scope=sc) (x:az):(Yr scope (BC.iT X.env.cells scope.names []) C X.env).kindOf x=(dW scope sc).names.lookup x:=by subst hsc;rfl
theorem xW (I1:Inv X zt σ H1 s2) (hsc:X.env.scope=sc) (cf:uD sc N tg fv scope) (hx:(x,UC)∈scope.names):∃ c,(BC.iT X.env.cells scope.names []).lookup x=aa c:=by refine BC.r9 hx (I1.ok.has x (.inl ?_));have:=cf.free _ hx rfl;rw[← hsc] at this;exact this
theorem JH (I1:Inv X zt σ H1 s2) (hsc:X.env.scope=sc) {scope:Um}{tg:List az}{fv:List (Nat×az)} (cf:uD sc N tg fv scope) {N':List az}{C:S6}{fp:List S6} (hC:C=s2.heap.objs.size+1)
 (hf:∀ b∈fp,oj X zt H1 b) (hlt:∀ b∈fp,b < s2.heap.objs.size):(blk X N' s2 H1 scope C fp).Ok where
 mod:=I1.ok.mod
 kind:=cf.k1
 glob:=I1.ok.glob
 blt:=I1.ok.blt
 above:=by show s2.heap.objs.size<=C;rw[hC];exact U8 _
 inj:=λx y c a b=>I1.ok.inj x y c (kK a) (kK b)
 has:=λx hx=>by
  refine xW I1 hsc cf ?_;have hx':(dW scope sc).names.lookup x=aa .cell\/(dW scope sc).names.lookup x=aa .free:=by rw[← uE hsc (C:=C)];exact hx
  rcases hx' with e|e
  exact kW (.inl rfl) cf.cell e;exact kW (.inr rfl) cf.cell e
 cab:=λx c z=>by cases z
 hd:=I1.ok.hd
 frames:=I1.ok.frames
 stk:=.inl rfl
 exf:=λb hb=>⟨λz=>by have l:=hlt b hb;have z:b=C:=z;rw[z,hC] at l;exact absurd l (Nat.not_lt.mpr (U8 _)),λx c e=>(hf b hb).2.2.2.2.1 x c (kK e)⟩
 bs:=I1.bs
 bsz:=SZ I1.ok.bsz I1.sz
 noex:=λb o e hb=>by
  have q:=(I1.ok.bs b o e).1;rcases (hf b hb).2.2.2.1 with z|z
  exact I1.ok.noex b o e z;exact absurd (SW q) (Nat.not_lt.mpr z)
 exfs:=λb hb z=>by
  rcases List.mem_cons.mp (I1.jA b z) with e|e
  exact (hf b hb).2.1 e;exact (hf b hb).2.2.1 e
 jc:=I1.stack
 frf:=I1.qR
end
noncomputable def lobj (us:List aA) (n:Nat):aq:={ cls:=.type "list",data:=.seq us.toArray n }
section
variable {X:Cx}{F:FT}{G:az->Option BT.W}{sc:Um}{N:List az}{zt:List (S6×aq)}{σ:L2.St}{H1:Hp}{s2:SL}
noncomputable def kX (n:Nat) (σ:L2.St) (fv:List (Nat×az)):L2.St:=Te n af++fv.map λq=>(σ[q.1]?).getD af
theorem xX (I1:Inv X zt σ H1 s2) (hsc:X.env.scope=sc) (hN:X.N=N) (cf:uD sc N tg fv scope) (hC:C=s2.heap.objs.size+1)
 (hf:∀ b∈fp,oj X zt H1 b) (hlt:∀ b∈fp,b < s2.heap.objs.size) (old:∀ b o,s2.heap.get? b=aa o->h1.get? b=aa o) (hns:h1.Ns C m) (hD:h1.get? s2.heap.objs.size=aa (lobj [] 0)) :
 Inv (blk X (tg++fv.map (·.2)) s2 H1 scope C fp) [(s2.heap.objs.size,lobj [] 0)] (kX tg.length σ fv) H1 { s2 with heap:=h1,toks:=tk } where
 ok:=JH I1 hsc cf hC hf hlt
 os:=rfl
 bare:=I1.bare
 base:=Un.kept old
 loc:=by
  refine ⟨m,hns,λi x v e1 e2 e3=>?_⟩;have e1:(tg++fv.map (·.2))[i]?=aa x:=e1;unfold kX at e2
  by_cases c:i < tg.length
  ·rw[Tf (by simpa using c),UF,if_pos c] at e2;cases e2
  ·rw[Uc (by simpa using c)] at e2;rw[Uc (by simpa using c)] at e1;simp only[U7,Uu] at e1 e2;cases g:fv[i - tg.length]? with
   | none=>rw[g] at e1;exact cS e1
   | some q =>
    rw[g] at e1 e2;simp only[Vq,UZ] at e1 e2;subst e1;obtain ⟨f1,f2,f3,f4⟩:=cf.fvs q (TQ g);have e2':σ[q.1]?=aa (aa v):=by
     cases gg:σ[q.1]? with
     | none=>rw[gg] at e2;exact cS e2| some o=>rw[gg] at e2;simp only[Zh] at e2;rw[e2]
    obtain ⟨m0,hn0,hl0⟩:=I1.loc;obtain ⟨u,ru,lk⟩:=hl0 q.1 q.2 v (by rw[hN];exact f1) e2' (by rw[hsc];exact .inr (.inl f3));refine ⟨u,ru,?_⟩;have kc:X.env.kindOf q.2=aa .cell:=by show X.env.scope.names.lookup q.2=_;rw[hsc];exact f3
    rcases lk with ⟨k,_⟩|⟨k,c,ec,o,ho,hd⟩
    rw[kc] at k;cases k
    ·obtain ⟨c',ec'⟩:=xW I1 hsc cf f2;have:=kK ec';rw[ec] at this;cases this;refine .inr ⟨.inl ?_,c,ec',o,old c o ho,hd⟩;show (Yr scope (BC.iT X.env.cells scope.names []) C X.env).kindOf q.2=_;rw[uE hsc];exact f4
 cell:=λx c e=>by obtain ⟨v,o,ho,hd⟩:=I1.cell x c (kK e);exact ⟨v,o,old c o ho,hd⟩
 free:=I1.hok.fresh (by show s2.heap.objs.size<=C;rw[hC];exact U8 _)
 freeC:=λx c e=>I1.freeC x c (kK e)
 pin:=λp hp=>by
  have e:p=(s2.heap.objs.size,lobj [] 0):=by have:p∈[]++[(s2.heap.objs.size,lobj [] 0)]:=hp;simpa using this
  subst e;refine ⟨hD,I1.hok.fresh (SY _),?_,?_,λv z=>by cases (show Data.seq _ _=Data.cell v from z)⟩
  ·show s2.heap.objs.size≠C;rw[hC];exact Tn (Vo _)
  ·intro z;obtain ⟨_,o,ho,_⟩:=I1.stack.mem z;exact absurd (SW ho) (UR _)
 hok:=I1.hok.kept old
 len:=by show (kX tg.length σ fv).length=(tg++fv.map (·.2)).length;simp[kX]
end
noncomputable def tgF:Nat->List az->List (Nat×az)
 | _,[]=>[]| k,x::r=>(k,x)::tgF (k+1) r
noncomputable abbrev tgI (tg:List az):List (Nat×az):=tgF 0 tg
theorem sd:∀ (tg:List az) (k:Nat),(tgF k tg).length=tg.length
 | [],_=>rfl| _::r,k=>congrArg (·+1) (sd r (k+1))
theorem xY {q:Nat×az}:∀ {tg:List az}{k:Nat},q∈tgF k tg->q.2∈tg
 | x::r,k,h=>by
  rcases List.mem_cons.mp h with rfl|h
  exact SG;exact SI _ (xY h)
theorem xZ (h:nmE te=aa x):∃ p,te=.Name x p:=by
 cases te with
 | Name y p=>cases h;exact ⟨p,rfl⟩| _=>exact absurd (show (af:Option az)=aa _ from h) (λz=>nomatch z)
theorem Cf (h:Jd te=a::l):∃ k p,te=.Tuple (a::l) k p:=by
 cases te with
 | Tuple xs k p=>cases h;exact ⟨k,p,rfl⟩| _=>exact absurd (show ([]:List SR)=_::_ from h) (λz=>nomatch z)
theorem Cg {sc:Um}{fs:List az}:∀ (tg:List az) {pre:List az}{es:List SR},tg.map aa=es.map nmE->(∀ x∈tg,oZ sc x=ah)->CTs sc (pre++(tg++fs)) (tgF pre.length tg) es
 | [],pre,es,e,_=>by
  cases es with
  | nil=>exact .nil| cons _ _=>cases e
 | x::r,pre,es,e,h=>by
  cases es with
  | nil=>cases e
  | cons a es =>
   obtain ⟨p,rfl⟩:=xZ (Yu e).symm;have q:=Cg (fs:=fs) r (pre:=pre++[x]) (List.tail_eq_of_cons_eq e) λy hy=>h y (SI _ hy);rw[TH,SN] at q;exact .cons (by simp) (h x SG) q
theorem ya (h:oQ sc tg te=ah):CT sc (tg++fs) (tgI tg) te/\(tgI tg).length=tg.length/\∀ q∈tgI tg,sc.names.lookup q.2=aa .local:=by
 have st:∀ {x:az},sc.names.lookup x=aa .local->oZ sc x=ah:=λe=>by unfold oZ;rw[e]
 unfold oQ at h;rw[SM,Vx,SM,TU] at h;obtain ⟨h,ha⟩:=h;have lo:∀ {x},x∈tg->sc.names.lookup x=aa .local:=λ{x} hx=>eq_of_beq (ha x hx);rcases h with h|⟨h1,h2⟩
 ·have e:=eq_of_beq h;cases tg with
  | nil=>exact absurd (congrArg WW e) (by simp)
  | cons x r =>
   cases r with
   | cons _ _=>exact absurd (congrArg WW e) (by simp)
   | nil =>
    obtain ⟨p,rfl⟩:=xZ (Yu e).symm;have l:sc.names.lookup x=aa .local:=lo SG;exact ⟨.one rfl (st l),rfl,λq hq=>by rw[List.mem_singleton.mp hq];exact l⟩
 ·have e:=eq_of_beq h2;cases g:Jd te with
  | nil=>rw[g] at e;cases tg with
   | nil=>exact BT.dS h1| cons _ _=>cases e
  | cons a l =>
   rw[g] at e;obtain ⟨k,p,rfl⟩:=Cf g;exact ⟨.tup (by rw[sd];exact h1) (Cg (pre:=[]) tg e λx hx=>st (lo hx)),sd _ _,λq hq=>lo (xY hq)⟩
theorem yb:∀ (tg:List az) (k:Nat) (ds:List BT.D) (sl:BT.Sl),ds.length=tg.length->k+tg.length<=sl.length->BT.sets (tgF k tg) ds sl=sl.take k++(ds.map BT.fR++sl.drop (k+tg.length))
 | [],k,ds,sl,h,_=>by cases List.length_eq_zero_iff.mp h;exact (TZ k sl).symm
 | x::r,k,ds,sl,h,hl=>by
  cases ds with
  | nil=>cases h
  | cons d ds =>
   rw[SX] at hl;have kl:k < sl.length:=by lia
   show BT.sets (tgF (k+1) r) ds (sl.set k (aa (.p d)))=_;rw[yb r (k+1) ds _ (Nat.succ.inj h) (by rw[List.length_set];lia),List.drop_set_of_lt (by lia),List.take_succ,UL kl,List.take_set,List.set_eq_of_length_le (by rw[Ui];lia),TH,show k+1+r.length=k+(x::r).length by rw[SX];lia];rfl
theorem vX {n:Nat}{d:BT.D}{ds:List BT.D} (h:BT.target n d=aa ds):ds.length=n:=by
 unfold BT.target at h
 by_cases c:n=1
 rw[if_pos c] at h;cases h;exact c.symm
 ·rw[if_neg c] at h;cases d with
  | tup xs=>rw[BT.ug] at h;obtain ⟨c,h⟩:=dR h;rw[← h];exact c| lst xs=>rw[BT.uf] at h;obtain ⟨c,h⟩:=dR h;rw[← h];exact c| _=>exact cS h
theorem yc (h:(tgI tg).length=tg.length) (h0:tg≠[]) (hd:BT.target tg.length d0=aa ds) (hl:sl.length=tg.length+fs.length) (hr:sl.drop tg.length=fs) :
 BT.sets (tgI tg) ds sl=ds.map BT.fR++fs/\(ds.map BT.fR++fs).length=tg.length+fs.length/\(ds.map BT.fR++fs).drop tg.length=fs:=by
 have hn:=vX hd;have g:=yb tg 0 ds sl hn (by lia);rw[Nat.zero_add,hr] at g;have le:(ds.map BT.fR).length=tg.length:=by rw[SJ];exact hn
 exact ⟨g,by rw[SN,le],by rw[← le];exact List.drop_left⟩
theorem j6:∀ {fv:List (Nat×az)}{fs:BT.Sl},BT.frees s fv=aa fs->fs.length=fv.length/\∀ (i:Nat) (q:Nat×az),fv[i]?=aa q->fs[i]?=s[q.1]?
 | [],fs,e=>by simp[BT.frees] at e;subst e;exact ⟨rfl,λi q z=>by simp at z⟩
 | q::r,fs,e=>by
  simp only[BT.frees] at e;cases g:s[q.1]? with
  | none=>rw[g] at e;exact cS e
  | some w =>
   rw[g] at e;obtain ⟨fs',e1,e2⟩:=dQ e;subst e2;obtain ⟨h1,h2⟩:=j6 e1;refine ⟨by simp[h1],λi p z=>?_⟩;cases i with
   | zero=>simp at z;subst z;simp[g]| succ i=>simpa using h2 i p (by simpa using z)
theorem qD {K:SA} (S:RS P w K m H σ s) (hf:BT.frees s fv=aa fs):RS P w K m H (kX n σ fv) (Te n af++fs):=by
 obtain ⟨h1,h2⟩:=j6 hf;refine ⟨by simp[kX,h1],λi y e=>?_⟩
 by_cases c:i < n
 ·rw[Tf (by simpa using c),UF,if_pos c] at e;cases e
 ·rw[Uc (by simpa using c)] at e;simp only[U7] at e;have hi:i - n < fv.length:=by
   rw[← h1];rcases UG (i - n) fs.length with z|z
   exact z;rw[Tv z] at e;exact cS e
  have g:=Tc hi;rw[h2 _ _ g] at e;obtain ⟨v,hv,r⟩:=S.get _ _ e;refine ⟨v,?_,r⟩;unfold kX;rw[Uc (by simpa using c)];simp only[U7,Uu,g,Vq,hv,Zh]
theorem FG {rest:List BT.D} (e:BT.dj f n (d::r) h=aa (rest,h2)) :
 ∃ xs o hA rest',BT.target n d=aa xs/\f xs h=aa (o,hA)/\BT.dj f n r hA=aa (rest',h2)/\rest=(match o with|some x=>x::rest'|none=>rest'):=by
 rw[BT.dj] at e;cases g:BT.target n d with
 | none=>rw[g] at e;exact cS e
 | some xs =>
  rw[g] at e;obtain ⟨o,hA,e1,e2⟩:=cW e;unfold BT.kG at e2;obtain ⟨rest',h3,e3,e4⟩:=cW e2;unfold BT.xA at e4;cases e4;exact ⟨xs,o,hA,rest',rfl,e1,e3,rfl⟩
theorem Un.behind (u:Un fs ex H H' h h1) (a:∀ b,b < h.objs.size->H2 b=H' b) (lt:∀ b o,H b=aa o->b < h.objs.size) (k:∀ b o,b < h.objs.size->h1.get? b=aa o->h2.get? b=aa o):Un fs ex H H2 h h2 where
 keep:=λb o e n c d=>k b o (SW e) (u.keep b o e n c d)
 slot:=λb o e n c d=>by obtain ⟨sl,q⟩:=u.slot b o e n c d;exact ⟨sl,k b _ (SW e) q⟩
 free:=λb o e n d=>by rw[a b (SW e)];exact u.free b o e n d
 there:=λb o e d=>by obtain ⟨o',q⟩:=u.there b o e d;exact ⟨o',k b o' (SW e) q⟩
 tups:=λb xs e=>by rw[a b (lt b _ e)];exact u.tups b xs e
 frzs:=λb o w e=>by rw[a b (lt b _ e)];exact u.frzs b o w e
 tbls:=λb ps e=>by rw[a b (lt b _ e)];exact u.tbls b ps e
section
theorem Ci (O:Ok X F G sc N) (hu:gq N=ah) (cf:uD sc N tg fv scope) :
 Ok (blk X (tg++fv.map (·.2)) s2 H1 scope C fp) F G (dW scope sc) (tg++fv.map (·.2)) where
 hsc:=by have:=O.hsc;subst this;rfl
 hN:=rfl
 nd:=cf.nd
 calm:=λ_=>O.calm hu
 hu:=O.hu
 own:=Wi
 glob:=O.glob
 call:=O.call
 meth:=O.meth
 mkc:=O.mkc
 blt:=O.blt
 lam:=O.lam
 lamx:=λh=>absurd (show ai=ah from h "") (by decide)
theorem Cj (e:BT.qx mu sr n (aa fs) ec ee ws h=aa z) (g:(BT.rds ws h).bind (BT.gu sr)=aa ds) :
 xS sr ws/\∃ f',(∀ xs h r,f' xs h=aa r->BT.dI ec ee fs xs h=aa r/\qc ws ds r.2)/\qc ws ds h/\BT.bnd (BT.dj f' n ds h) (BT.iy mu)=aa z:=by
 unfold BT.qx at e;rw[g] at e;simp only at e
 by_cases ca:BT.iG ws=ah
 ·rw[if_pos ca] at e;exact ⟨.inl ca,_,λxs h r q=>⟨q,ji ca⟩,ji ca,e⟩
 ·rw[if_neg ca] at e;have two:sr=.seq/\∃ q,ws=[.r q]:=by unfold BT.vJ at e;split at e;exact ⟨rfl,_,rfl⟩;exact cS e
  obtain ⟨rfl,q,rfl⟩:=two;rw[BT.Bd] at e;have gl:BT.lat h q=aa ds:=by
   simp only[BT.rds,BT.rd,Vq] at g;cases g1:BT.lat h q with
   | none=>rw[g1] at g;exact cS g| some xs=>rw[g1] at g;cases g;rfl
  refine ⟨.inr ⟨rfl,q,rfl⟩,_,λxs h r q=>?_,λq' e'=>by cases e';exact gl,e⟩;unfold BT.chk at q;cases g2:BT.dI ec ee fs xs h with
  | none=>rw[g2] at q;exact cS q
  | some r2 =>
   rw[g2] at q;simp only at q;split at q
   ·rename_i c;cases q;exact ⟨rfl,λq' e'=>by cases e';exact c⟩
   exact cS q
inductive LI (X:Cx) (F:FT) (G:az->Option BT.W) (scope:Um) (tg:List az) (fv:List (Nat×az)) (cond:BT.Es) (elt:BT.E) (s2:SL) (H1:Hp) (C:S6) (fp:List S6) (tn:Nat->au->Prop) (m1:List S6) (ds outs:List BT.D) (fs:BT.Sl) (h2:BT.HH) (f':List BT.D->BT.HH->Option (Option BT.D×BT.HH)) (Cc:BT.HH->Prop) (n:Nat) (s:SL):Prop where
 | mk (i:Nat) (σ':L2.St) (H':Hp) (m':List S6) (hh:BT.HH) (out rest:List BT.D) (vs:List V) (us:List aA) (nn:Nat) (sl:BT.Sl) (p0:i<=ds.length) (p1:n=ds.length - i) (p2:Inv (blk X (tg++fv.map (·.2)) s2 H1 scope C fp) [(s2.heap.objs.size,lobj us nn)] σ' H' s) (p3:tn i s.heap) (p4:(∀ b∈fp,H' b=af)) (p5:Ext m1 H1 m' H') (p6:RH X.K m' H' hh) (p7:RS X.prog X.w X.K m' H' σ' sl) (p8:sl.length=tg.length+fs.length) (p9:sl.drop tg.length=fs) (p10:dD vs us) (p11:RDs X.K m' H' vs out) (p12:BT.dj f' tg.length (ds.drop i) hh=aa (rest,h2)) (p13:out++rest=outs) (p14:Cc hh):LI X F G scope tg fv cond elt s2 H1 C fp tn m1 ds outs fs h2 f' Cc n s
structure Apart (X:Cx) (zt:List (S6×aq)) (H:Hp) (C:S6):Prop where
 fr:H C=af
 lo:C≠X.env.locals
 ab:X.s₀.heap.objs.size<=C
 ce:∀ x c,X.env.cells.lookup x=aa c->c≠C
 pi:∀ p∈X.pn++zt,p.1≠C
theorem qE (O:Ok X F G sc N) (hu:gq N=ah) 
 (hk:jf sc N tg fv scope=ah) (ht:oQ (dW scope sc) tg te=ah) (hset:iR iter=ah) (hI:PI X te iter (iD X F G sr sa)) (hC:o7 F G (dW scope sc) (tg++fv.map (·.2)) cond ifs)
 (hE:∀ X',Ok X' F G (dW scope sc) (tg++fv.map (·.2))->PE X' elt' (tD X' F G elt)):∀ (zt:List (S6×aq)) (s:SL) (σ:L2.St) (H:Hp) (Q:VK) (use:Option (aA->Sem Unit)) (Q':aA->SL->Prop),Inv X zt σ H s->tD X F G (.comp mu sr sa tg fv cond elt) σ H Q →
 (∀ (s6:SL) (H6:Hp) (C D:S6) (m:az->Option aA),Inv X zt σ H6 s6->s6.heap.Ns C m->Apart X zt H6 C->Q (.ref D) H6->compPost (Ti X.prog X.w) X.A X.xe use Q' (.ref D) C (.ok .next) s6) →
 ay (Ti X.prog X.w) X.A (Xp (.ListComp elt' [⟨te,iter,ifs,0⟩] scope pos) scope X.env (firstIterPos [⟨te,iter,ifs,0⟩] pos) (newList []) ai (eval iter X.env) use) Q' X.xe s:=by
 have cf:=Hy hk;obtain ⟨ct,tl,tloc⟩:=ya (fs:=fv.map (·.2)) ht;have t0:tg≠[]:=by
  rintro rfl
  simp[oQ] at ht
 intro zt s σ H Q use Q' I q hfin;obtain ⟨m,s',h,z,h',R,S,ee,post⟩:=q;simp only[BT.ev] at ee;obtain ⟨ws,h1,e1,e2⟩:=cW ee;cases g1:(BT.rds ws h1).bind (BT.gu sr) with
 | none=>unfold BT.qx at e2;rw[g1] at e2;exact cS e2
 | some ds =>
  cases g2:BT.frees s' fv with
  | none=>unfold BT.qx at e2;rw[g1,g2] at e2;exact cS e2
  | some fs =>
   rw[g2] at e2;obtain ⟨ca,f',hf',c1,e2⟩:=Cj e2 g1;obtain ⟨outs,h2,e3,e4⟩:=cW e2;unfold BT.iy at e4
   by_cases cl:outs.length<=BT.lim
   case neg=>rw[if_neg cl] at e4;exact cS e4
   rw[if_pos cl] at e4;have ez:BT.new mu outs h2=(z,h'):=S9 e4;have hfree:BC.r6 X.env.cells scope.names:=λx hx e=>I.ok.has x.1 (.inl (by
    have:=cf.free x hx e;show X.env.scope.names.lookup x.1=_;rw[O.hsc];exact this))
   refine wpAny_comprehension_free (use:=use) rfl (nS hset) (BC.o6 hfree) cf.k1 cf.loc
    (thn (hI zt s σ H (λJ H1=>∃ m1,Ext m H m1 H1/\RH X.K m1 H1 h1/\qb X.K J m1 H1 ds (qc ws ds)) I ⟨m,s',h,ws,h1,ds,R,S,e1,g1,ca,λH1 m1 J x1 R1 it=>⟨m1,x1,R1,it⟩⟩) λv s1 hv=>thn hv λitv s2 h2'=>?_)
   obtain ⟨it,fp,tn,J,H1,rfl,I1,T,st,hf,m1,x1,R1,ito⟩:=h2';have hlt:∀ b∈fp,b < s2.heap.objs.size:=λb hb=>by obtain ⟨o,ho,_⟩:=T.obj 0 _ st b hb;exact SW ho
   refine T6 (wpAny_newFunctionEnv cf.cell (by intro y hy;simp at hy) (λh3 hns hsb=>?_) cf.k1);dsimp only at hns hsb ⊢;generalize hH2:s2.heap.push { cls:=.type "list",dict:=af,data:=.seq ([]:List aA).toArray }=H2 at hns hsb ⊢;have hCs:H2.objs.size=s2.heap.objs.size+1:=by rw[← hH2,VE]
   have old:∀ b o,s2.heap.get? b=aa o->h3.get? b=aa o:=λb o e=>hsb.extBut b o (by rw[hCs];exact Tn (Wj (SW e))) (SH _ (hH2 ▸ SH _ e));have hacc:h3.get? s2.heap.objs.size=aa (lobj [] 0):=hsb.extBut _ _ (by rw[hCs];exact Tn (Vo _)) (SH _ (hH2 ▸ Th _ rfl));have I4:=xX (tk:=s2.toks+([]:List (az×aA)).length) I1 O.hsc O.hN cf hCs hf hlt old hns hacc;have O':=Ci (s2:=s2) (H1:=H1) (C:=H2.objs.size) (fp:=fp) O hu cf;obtain ⟨g,hg1,hg2⟩:=sCT O' (O.calm hu) ct λq hq=>.inr (by rw[O'.hsc];exact tloc q hq);have hfl:fs.length=fv.length:=(j6 g2).1;have stat:∀ {H':Hp}{o:aq},(∀ b∈fp,H' b=af)->∀ b∈fp,oj (blk X (tg++fv.map (·.2)) s2 H1 scope H2.objs.size fp) [(s2.heap.objs.size,o)] H' b:=λ{H' o} hn b hb=>by
    refine ⟨hn b hb,?_,?_,.inl hb,λx c e=>(hf b hb).2.2.2.2.1 x c (kK e),λp hp=>?_⟩
    ·show b≠H2.objs.size;rw[hCs];exact Tn (Wj (hlt b hb))
    ·intro zz;rcases List.mem_cons.mp (I1.jA b zz) with e|e
     exact (hf b hb).2.1 e;exact (hf b hb).2.2.1 e
    ·have hp':p=(s2.heap.objs.size,o):=by have:p∈[]++[(s2.heap.objs.size,o)]:=hp;simpa using this
     rw[hp'];show s2.heap.objs.size≠b;exact VI (hlt b hb)
   have loop:∀ s4:SL,s4={ s2 with heap:=h3,toks:=s2.toks+([]:List (az×aA)).length } →
    ao (Ti X.prog X.w) X.A (.compLoop (.ListComp elt' [⟨te,iter,ifs,0⟩] scope pos) 0 (.ref it) (.ref s2.heap.objs.size) (Yr scope (BC.iT X.env.cells scope.names []) H2.objs.size X.env))
     (compPost (Ti X.prog X.w) X.A X.xe use Q' (.ref s2.heap.objs.size) H2.objs.size) s4:=by
    rintro s4 rfl
    refine BC.Ad (LI X F G scope tg fv cond elt s2 H1 H2.objs.size fp tn m1 ds outs fs h2 f' (qc ws ds)) ?_
     ds.length ⟨0,_,H1,m1,h1,[],outs,[],[],0,_,UK _,rfl,I4,T.keep 0 _ _ st (λb hb o e=>old b o e),λb hb=>(hf b hb).1,.refl _ _,R1,qD (S.ext x1) g2,by simp,by simp,.nil,.nil,by rw[VD];exact e3,rfl,c1⟩
    rintro n s5 ⟨i,σ5,H5,m5,hh,out,rest,vs,us,nn,sl,hi,rfl,I5,st5,fr5,x5,R5,S5,sl1,sl2,rv5,rd5,go5,ou5,cc5⟩
    by_cases c:i < ds.length
    ·rw[Vj c] at go5;obtain ⟨xs,o,hA,rest',eT,eF,eG,eR⟩:=FG go5;obtain ⟨eF,cA⟩:=hf' _ _ _ eF;refine thn (T.item (blk X (tg++fv.map (·.2)) s2 H1 scope H2.objs.size fp) rfl rfl rfl (O.calm hu) i _ s5 σ5 H5 _ I5 (stat fr5) st5 (ito.go m5 H5 hh i x5 R5 cc5 c)) λr s6 hr=>?_;obtain ⟨u,rfl,hr⟩:=hr;refine thn hr λ_ s7 zq=>?_;obtain ⟨x,H7,I7,r7,y7,st7,fr7⟩:=zq;obtain ⟨x7,k7,rd7⟩:=ito.yld m5 H5 hh i x H7 ds[i] x5 R5 cc5 (Tc c) y7;have R7:=R5.ext x7 k7;have I7':=I7.pinned (stat fr7) (T.obj _ _ st7);obtain ⟨sq1,sq2,sq3⟩:=yc tl t0 eT sl1 sl2;refine thn (hg1 _ s7 σ5 H7 x u (fun σ8 H8=>H8=H7/\RS X.prog X.w X.K m5 H7 σ8 (xs.map BT.fR++fs)) I7' r7 (hg2 m5 H7 σ5 sl x ds[i] xs _ (S5.ext x7) rd7 (by rw[tl];exact eT) fun σ8 S8=>⟨rfl,by rw[← sq1];exact S8⟩)) λ_ s8 h8=>?_;obtain ⟨σ8,H8,I8,rfl,S8⟩:=h8;have kept:∀ {s9:SL}{σ9:L2.St}{H9:Hp},Inv (blk X (tg++fv.map (·.2)) s2 H1 scope H2.objs.size fp) ([(s2.heap.objs.size,lobj us nn)]++kN fp s7.heap) σ9 H9 s9->tn (i+1) s9.heap/\∀ b∈fp,H9 b=af:=λ{s9 σ9 H9} I9=>by refine ⟨T.keep _ _ _ st7 λb hb o e=>(I9.pin (b,o) (Tj _ (Tj _ (gr hb e)))).1,λb hb=>?_⟩;obtain ⟨o,e,_⟩:=T.obj _ _ st7 b hb;exact (I9.pin (b,o) (Tj _ (Tj _ (gr hb e)))).2.1
     have elem:∀ {s9:SL}{H9:Hp}{m9:List S6}{h9:BT.HH}{w:BT.W}{hB:BT.HH}{d:BT.D},Inv (blk X (tg++fv.map (·.2)) s2 H1 scope H2.objs.size fp) ([(s2.heap.objs.size,lobj us nn)]++kN fp s7.heap) σ8 H9 s9->Ext m5 H8 m9 H9->RH X.K m9 H9 h9 →
      BT.ev F G elt (xs.map BT.fR++fs) h9=aa (w,hB)->BT.gJ w hB=aa (aa d,hA)->o=aa d →
      ay (Ti X.prog X.w) X.A (eval elt' (Yr scope (BC.iT X.env.cells scope.names []) H2.objs.size X.env)) (λx s₄ =>
       ay (Ti X.prog X.w) X.A (call (.builtin "list.append") [.ref s2.heap.objs.size,x]) (λ_ s₅=>∃ m,m < ds.length - i/\LI X F G scope tg fv cond elt s2 H1 H2.objs.size fp tn m1 ds outs fs h2 f' (qc ws ds) m s₅) (λ_ _=>False) s₄) (λ_ _=>False) s9:=by
      intro s9 H9 m9 h9 w hB d I9 x9 R9 eE eK eO;have ew:w=.p d/\hB=hA:=by
       unfold BT.gJ at eK;cases w with
       | p d'=>cases eK;exact ⟨rfl,rfl⟩| _=>exact cS eK
      obtain ⟨rfl,rfl⟩:=ew;refine thn (hE _ O' _ s9 σ8 H9 (λv Ha=>∃ ma,Ext m9 H9 ma Ha/\RH X.K ma Ha hB/\RD X.K ma Ha v d) I9 ⟨m9,_,h9,_,hB,R9,S8.ext x9,eE,λv Ha ma xa Ra ra=>by cases ra with|p ra=>exact ⟨ma,xa,Ra,ra⟩⟩) λu10 s10 ⟨v10,H10,I10,r10,m10,x10,R10,rd10⟩=>?_
      obtain ⟨pD,nD,neD,nfD,_⟩:=I10.pin (s2.heap.objs.size,lobj us nn) (by simp);have lus:=rv5.length;have lvs:=rd5.length;have lou:out.length<=outs.length:=by rw[← ou5];simp
      have lle:=fW;have cl':outs.length<=BT.lim:=cl;refine Y4 ⟨nn,pD⟩ (λh11 hp11 sb11=>?_) (by rw[SQ];lia);obtain ⟨nn',hp11⟩:=hp11;have hp11:h11.get? s2.heap.objs.size=aa (lobj (us++[u10]) nn'):=by rw[hp11];simp[lobj]
      have sb11:TN s2.heap.objs.size s10.heap h11:=sb11;obtain ⟨st10,fr10⟩:=kept I10;have I11:Inv (blk X (tg++fv.map (·.2)) s2 H1 scope H2.objs.size fp) [] σ8 H10 { s10 with heap:=h11 } :=
       Inv.turned (t':=s10.toks) (I10.jT (λp hp=>by cases hp)) (λb o hb e=>(sb11.2 b hb).trans e) nD neD (.inr (SY _)) (λx c e zz=>by obtain ⟨v,o,ho,_⟩:=I1.cell x c (kK e);have:=SW ho;rw[zz] at this;exact absurd this (UR _)) λp hp=>by cases hp
      have I12:Inv (blk X (tg++fv.map (·.2)) s2 H1 scope H2.objs.size fp) [(s2.heap.objs.size,lobj (us++[u10]) nn')] σ8 H10 { s10 with heap:=h11 }:=I11.jT λp hp=>by simp only[W4] at hp;subst hp;exact ⟨hp11,nD,neD,nfD,λv zz=>by cases (show Data.seq _ _=Data.cell v from zz)⟩
      have xt:Ext m5 H5 m10 H10:=(x7.trans x9).trans x10;refine ⟨ds.length - (i+1),by lia,i+1,σ8,H10,m10,hB,out++[d],rest',vs++[v10],us++[u10],nn',_,c,rfl,I12,?_,fr10,x5.trans xt,R10,(S8.ext x9).ext x10,sq2,sq3,rv5.append (.cons r10 .nil),(rd5.ext xt).append (.cons rd10 .nil),eG,?_,cA⟩
      ·refine T.keep _ _ _ st10 λb hb o' e=>(sb11.2 b ?_).trans e;exact Tn (hlt b hb)
      rw[← ou5,eR,eO,TH];rfl
     unfold BT.dI at eF;obtain ⟨cs,hc,eC,eK⟩:=cW eF;rcases hC with ⟨rfl,rfl⟩|⟨cc,cc',rfl,rfl,hCC⟩
     ·simp only[BT.evs] at eC;cases eC;have eK:=(show BT.bnd _ BT.gJ=_ from eK);obtain ⟨w,hB,eE,eL⟩:=cW eK;refine wpAny_tests_nil ?_;rw[if_pos rfl];have:∃ d,o=aa d:=by
       unfold BT.gJ at eL;cases w with
       | p d'=>cases eL;exact ⟨_,rfl⟩| _=>exact cS eL
      obtain ⟨d,rfl⟩:=this;exact elem I8 (.refl _ _) R7 eE eL rfl
     ·simp only[BT.evs] at eC;obtain ⟨wc,hc2,eC1,eC2⟩:=cW eC;simp only[BT.oO,BT.cZ,BT.je] at eC2;cases eC2;have hb:∃ b,wc=.p (.bl b):=by
       cases wc with
       | p d =>
        cases d<;>first|exact ⟨_,rfl⟩|exact cS eK
       | _=>exact cS eK
      obtain ⟨b,rfl⟩:=hb;refine wpAny_tests_one (thn (hCC _ O' _ s8 σ8 H8 (λb' Ha=>b'=b/\∃ ma,Ext m5 H8 ma Ha/\RH X.K ma Ha hc) I8 ⟨m5,_,hh,b,hc,R7,S8,eC1,λHa ma xa Ra=>⟨rfl,ma,xa,Ra⟩⟩) λb' s9 zq=>?_);obtain ⟨H9,I9,hbb,m9,x9,R9⟩:=zq;subst hbb;cases b' with
      | false =>
       have eK:=(show aa ((af:Option BT.D),hc)=aa _ from eK);cases eK;rw[if_neg (by decide)];obtain ⟨st9,fr9⟩:=kept I9;have xt:Ext m5 H5 m9 H9:=x7.trans x9;refine ⟨ds.length - (i+1),by lia,i+1,σ8,H9,m9,hA,out,rest',vs,us,nn,_,c,rfl,I9.lF,st9,fr9,x5.trans xt,R9,S8.ext x9,sq2,sq3,rv5,rd5.ext xt,eG,?_,cA⟩;rw[← ou5,eR]
      | true =>
       have eK:=(show BT.bnd _ BT.gJ=_ from eK);rw[if_pos rfl];obtain ⟨w,hB,eE,eL⟩:=cW eK;have:∃ d,o=aa d:=by
        unfold BT.gJ at eL;cases w with
        | p d'=>cases eL;exact ⟨_,rfl⟩| _=>exact cS eL
       obtain ⟨d,rfl⟩:=this;exact elem I9 x9 R9 eE eL rfl
    ·have ei:i=ds.length:=by lia
     subst ei;rw[Wq,BT.dj] at go5;cases go5;rw[Ug] at ou5;subst ou5;refine thn (T.done (blk X (tg++fv.map (·.2)) s2 H1 scope H2.objs.size fp) rfl rfl rfl (O.calm hu) _ _ s5 σ5 H5 _ I5 (stat fr5) st5 (ito.stop m5 H5 _ x5 R5 cc5)) λr s6 zq=>?_;obtain ⟨hr,I6⟩:=zq;subst hr;obtain ⟨mm,hmm,_⟩:=I6.loc;obtain ⟨pD,nD,neD,nfD,_⟩:=I6.pin (s2.heap.objs.size,lobj us nn) (by simp);have neD:s2.heap.objs.size≠H2.objs.size:=neD;have hos:s6.os=s2.os:=I6.os;have lus:=rv5.length;have lvs:=rd5.length;have lle:=fW;have cl':out.length<=BT.lim:=cl;have hok:HOk X.prog X.w (upd H5 s2.heap.objs.size (.lst vs)) s6.heap:=λb u e=>by
      by_cases eb:b=s2.heap.objs.size
      ·subst eb;rw[fc] at e;cases e;exact ⟨by lia,us,nn,rv5,pD⟩
      ·rw[dw eb] at e;refine (I6.hok b u e).stay (λc v hc q=>q) (λc q=>?_) λc l q=>?_;rw[dw (λzz=>by rw[zz,nD] at q;exact cS q)];exact q;rw[dw (λzz=>by rw[zz,nD] at q;exact cS q)];exact q
     have u7:Un (frs X.stack) fp H1 (upd H5 s2.heap.objs.size (.lst vs)) s2.heap s6.heap:=Un.behind (h1:=s6.heap) I6.base (λb hb=>dw (Tn hb)) (λb o e=>I1.hok.lt e) λb o hb e=>e;have I7:=I1.call (g':=s6.gens) (t':=s6.toks) (d':=s6.drawn) (ch:=fp) u7 hok I6.bare λb hb=>⟨(hf b hb).2.2.2.1,(hf b hb).2.1,(hf b hb).2.2.2.2.1,(hf b hb).2.2.2.2.2⟩;have fr6:H5 H2.objs.size=af:=I6.free;have ltC:s2.heap.objs.size < H2.objs.size:=by rw[hCs];exact Vo _
     have ap:Apart X zt (upd H5 s2.heap.objs.size (.lst vs)) H2.objs.size:=by
      refine ⟨by rw[dw (UM neD)];exact fr6,?_,?_,λx c e zz=>?_,λp hp zz=>?_⟩;exact VI (WK I1.lt ltC);exact SZ I1.sz (Vr ltC)
      ·obtain ⟨v,o,ho,_⟩:=I1.cell x c e;have l:=SW ho;rw[zz] at l;exact absurd (WK l ltC) (UR _)
      ·have l:=SW (I1.pin p hp).1;rw[zz] at l;exact absurd (WK l ltC) (UR _)
     refine hfin s6 _ _ _ mm ?_ hmm ap (xH (mu:=mu) R5 nD rd5 (by rw[ez];exact λv' H' m' xx RR rr=>post v' H' m' ((x1.trans x5).trans xx) RR rr));obtain ⟨hp6,g6,d6,t6,os6⟩:=s6;have hos:os6=s2.os:=hos;subst hos;exact I7
   exact codeAny_compStart_list (loop _ rfl) (T.self _ 0 _ _ _ (T.keep 0 _ _ st (λb hb o e=>old b o e)) (loop _ rfl))
theorem FH (O:Ok X F G sc N) (hu:gq N=ah) 
 (hk:jf sc N tg fv scope=ah) (ht:oQ (dW scope sc) tg te=ah) (hset:iR iter=ah) (hI:PI X te iter (iD X F G sr sa)) (hC:o7 F G (dW scope sc) (tg++fv.map (·.2)) cond ifs)
 (hE:∀ X',Ok X' F G (dW scope sc) (tg++fv.map (·.2))->PE X' elt' (tD X' F G elt)):PE X (.ListComp elt' [⟨te,iter,ifs,0⟩] scope pos) (tD X F G (.comp mu sr sa tg fv cond elt)):=by
 intro zt s σ H Q I q;rw[eval_ListComp];refine qE O hu hk ht hset hI hC hE zt s σ H Q af _ I q λs6 H6 C D m I6 hn ap hq=>?_;refine ⟨m,hn,λh7 sb7=>?_⟩;have sb7:TN C s6.heap h7:=sb7;exact ⟨.ref D,H6,Inv.turned (t':=s6.toks) I6 (λb o hb e=>(sb7.2 b hb).trans e) ap.fr ap.lo (.inr ap.ab) ap.ce ap.pi,rfl,hq⟩
theorem FI (O:Ok X F G sc N) (hu:gq N=ah) 
 (hk:jf sc N tg fv scope=ah) (ht:oQ (dW scope sc) tg te=ah) (hset:iR iter=ah) (hI:PI X te iter (iD X F G sr sa)) (hC:o7 F G (dW scope sc) (tg++fv.map (·.2)) cond ifs)
 (hE:∀ X',Ok X' F G (dW scope sc) (tg++fv.map (·.2))->PE X' elt' (tD X' F G elt)) (hy:N[i]?=aa y) (hl:sc.names.lookup y=aa .local)
 (hsw:Wv (.ListComp elt' [⟨te,iter,ifs,0⟩] scope pos) (aa (.Name y py)) spos.line X.env=pure ah) :
 PS X (.Assign [.Name y py] (.ListComp elt' [⟨te,iter,ifs,0⟩] scope pos) spos) (Et (tD X F G (.comp mu sr sa tg fv cond elt)) (xg i)):=by
 intro zt s σ H D I q;rw[exec_Assign_Name_used _ _ _ _ hsw];refine SD (VZ (SD ?_));show ay _ X.A (do let _ ← Xp (.ListComp elt' [⟨te,iter,ifs,0⟩] scope pos) scope X.env _ (newList []) ai (eval iter X.env) (aa (Xq (.Name y py) X.env))) _ _ s;refine SD (thn (qE O hu hk ht hset hI hC hE zt s σ H _ (aa (Xq (.Name y py) X.env)) (λ_ s'=>SP X zt D .next s') I q λs6 H6 C D' m I6 hn ap hq=>?_) λ_ s' hq=>av (av hq));show ay _ X.A (Xq (.Name y py) X.env (.ref D')) _ _ _;refine wpAny_assign_Name (mJ I6 O.nd (by rw[O.hN];exact hy) (.inl (by rw[O.hsc];exact hl)) (v:=.ref D') rfl (λs7 I7 hs=>?_) (.inr (by rw[O.hsc];exact hl)));obtain ⟨a,sb,ha⟩:=hs;have neC:C≠a:=by
  rcases ha with rfl|ha
  exact ap.lo;exact λz=>ap.ce y a ha z.symm
 refine ⟨m,hn.sameBut sb neC,λh8 sb8=>?_⟩;have sb8:TN C s7.heap h8:=sb8;exact ⟨_,H6,Inv.turned (t':=s7.toks) I7 (λb o hb e=>(sb8.2 b hb).trans e) ap.fr ap.lo (.inr ap.ab) ap.ce ap.pi,hq⟩
end
section
variable {E:aA->SL->Prop}
end
section
end
end BS
end
section
namespace L2
open PySem PySem.Spec PyProof.Rows
section
variable {X:Cx}{tg:Xc}
end
end L2
namespace BS
open PySem PySem.Spec PyProof.Rows L2
section
variable {F:FT}{G:az->Option BT.W}
end
end BS
end
section
namespace BS
open PySem PySem.Spec PyProof.Rows L2
variable {K:SA}
section
variable {E:aA->SL->Prop}
theorem qd (hit:s.heap.IsTupleIter it t i) (ht:s.heap.IsTuple t xz) (hx:xz[i]?=aa x)
 (hQ:∀ h',h'.IsTupleIter it t (i+1)->TN it s.heap h'->Q x { s with heap:=h' }) :
 ay (Ti prog w) A (TF (.ref it)) Q E s:=by
 obtain ⟨o,ho,hc,hd⟩:=id hit;obtain ⟨ol,hol,_,nl,hdl⟩:=ht;unfold TF;refine SD (Ur (name:=SE "__next__") hit.typeIs F.slot_tuple_iterator_next
  (U4 F.slot_tuple_iterator_next hit.typeIs F.entry_tuple_iterator_next ?_ (F.args_tuple_iterator_next_1 _)))
 show ay _ _ (field (.ref it) 0 >>= _) _ _ s;refine SD (T9 ho hd (x:=.ref t) rfl ?_);show ay _ _ (if (U5 t==UW)=ah then _ else _) _ _ s;rw[if_neg (show ¬ ((U5 t==UW)=ah) from TJ)];show ay _ _ (field (.ref it) 1 >>= _) _ _ s;refine SD (T9 ho hd (x:=.int i 0) rfl ?_);show ay _ _ (seqItems? (.ref t) >>= _) _ _ s;refine SD (U6 hol hdl ?_);simp only[Xf,hx];refine SD (YF ho hd (by simp) (av ⟨x,rfl,av (hQ _ ?_ (XI ..))⟩));exact ⟨_,WE _ ho (YK (V7 hd _)),(Obj.cls_mapFields ..).trans hc,by
  rw[V7 hd];simp[YQ]⟩
theorem se (hh:A.handled=af) (hit:s.heap.IsTupleIter it t i) (ht:s.heap.IsTuple t xz) (hx:xz[i]?=af)
 (hE:∀ h' e,Heap.ExtBut it s.heap h'->(∃ o,h'.get? e=aa o/\o.cls=.type "StopIteration")->E (.ref e) { s with heap:=h' }) :
 ay (Ti prog w) A (TF (.ref it)) Q E s:=by
 obtain ⟨o,ho,hc,hd⟩:=id hit;obtain ⟨ol,hol,_,nl,hdl⟩:=ht;unfold TF;refine SD (Ur (name:=SE "__next__") hit.typeIs F.slot_tuple_iterator_next
  (U4 F.slot_tuple_iterator_next hit.typeIs F.entry_tuple_iterator_next ?_ (F.args_tuple_iterator_next_1 _)))
 show ay _ _ (field (.ref it) 0 >>= _) _ _ s;refine SD (T9 ho hd (x:=.ref t) rfl ?_);show ay _ _ (if (U5 t==UW)=ah then _ else _) _ _ s;rw[if_neg (show ¬ ((U5 t==UW)=ah) from TJ)];show ay _ _ (field (.ref it) 1 >>= _) _ _ s;refine SD (T9 ho hd (x:=.int i 0) rfl ?_);show ay _ _ (seqItems? (.ref t) >>= _) _ _ s;refine SD (U6 hol hdl ?_);simp only[Xf,hx];refine SD (YO (SD (YF ho hd (by simp) ?_)));show ay _ _ (newExc (.type "StopIteration") [] >>= _) _ _ _;refine SD ?_;simp only[newExc,newTuple];refine SD (T6 ?_ (by size_fits));refine SD (m:=firstArgMember _ _) (wpAny_of_eq (a:=UW) (by first|rfl|(simp only[firstArgMember];rfl)) ?_);refine T6 ?_ (by size_fits);simp only[raiseNew];refine SD (wpAny_handled ?_)
 first|rw[show A.in1.handled=af from hh]|rw[hh]
 refine SD (av (wpAny_throw ?_));exact hE _ _ (((XI ..).extBut.push _).push _) ⟨_,Th _ rfl,rfl⟩
end
section
variable {prog:Td}{w:Tz}{A:Ub}{s:SL}{R:Result->SL->Prop}{xs ys:Array aA}{z TI TO i1 i2 l1 l2 S:S6}
end
section
variable {prog:Td}{w:Tz}{A:Ub}{E:aA->SL->Prop}{s:SL}{R:Result->SL->Prop}{xs ys:Array aA}{z TI TO i1 i2 l1 l2 S:S6}
end
section
variable {E:aA->SL->Prop}
end
section
end
inductive ZK where
 | l (a:S6)|t (a:S6)|s (x:az) (k:Tok)
noncomputable def ZK.ty:ZK->String
 | .l _=>"list_iterator"| .t _=>"tuple_iterator"| .s x _=>Tt x
noncomputable def ZK.val:ZK->aA
 | .l a=>.ref a| .t a=>.ref a| .s x k=>.str x k
def ZK.at (q:ZK) (it:S6) (i:Nat) (h:au):Prop:=match q with
 | .l a=>h.IsListIter it a i| .t a=>h.IsTupleIter it a i| .s x k=>h.IsStrIter it (Tt x) x k i
def ZK.item (q:ZK) (i:Nat) (h:au) (u:aA):Prop:=match q with
 | .l a=>∃ us:List aA,h.IsList a us.toArray/\us[i]?=aa u| .t a=>∃ us:List aA,h.IsTuple a us.toArray/\us[i]?=aa u| .s x _=>∃ c t,x.cps[i]?=aa c/\u=.str ⟨#[c]⟩ t
def ZK.done (q:ZK) (i:Nat) (h:au):Prop:=match q with
 | .l a=>∃ us:List aA,h.IsList a us.toArray/\us.length<=i| .t a=>∃ us:List aA,h.IsTuple a us.toArray/\us.length<=i| .s x _=>x.cps.size<=i
def ZK.off (q:ZK) (b:S6):Prop:=match q with
 | .l a=>a≠b| .t a=>a≠b| .s _ _=>True
theorem ZK.there {q:ZK}{it i:Nat}{h:au} (z:q.at it i h):∃ o,h.get? it=aa o/\∀ v,o.data≠.cell v:=by
 cases q with
 | _=>obtain ⟨o,e,c,d⟩:=z;exact ⟨o,e,λv q=>by rw[d] at q;cases q⟩
theorem ZK.stay {q:ZK}{it i:Nat}{h h':au} (z:q.at it i h) (k:∀ o,h.get? it=aa o->h'.get? it=aa o):q.at it i h':=by
 cases q with
 | _=>obtain ⟨o,e,r⟩:=z;exact ⟨o,k o e,r⟩
theorem ZK.iZ {q:ZK}{i:Nat}{h h':au}{u:aA}{b:S6} (z:q.item i h u) (n:q.off b) (k:∀ c o,c≠b->h.get? c=aa o->h'.get? c=aa o):q.item i h' u:=by
 cases q with
 | l a=>obtain ⟨us,p,e⟩:=z;exact ⟨us,p.at λo g=>k a o n g,e⟩| t a=>obtain ⟨us,p,e⟩:=z;exact ⟨us,p.at λo g=>k a o n g,e⟩| s x t=>exact z
theorem ZK.j7 {q:ZK}{i:Nat}{h h':au}{b:S6} (z:q.done i h) (n:q.off b) (k:∀ c o,c≠b->h.get? c=aa o->h'.get? c=aa o):q.done i h':=by
 cases q with
 | l a=>obtain ⟨us,p,e⟩:=z;exact ⟨us,p.at λo g=>k a o n g,e⟩| t a=>obtain ⟨us,p,e⟩:=z;exact ⟨us,p.at λo g=>k a o n g,e⟩| s x t=>exact z
theorem ZK.j8 {q:ZK}{i:Nat}{h h':au}{u:aA}{b:S6} (z:q.item i h' u) (n:q.off b) (k:TN b h h'):q.item i h u:=by
 cases q with
 | l a=>obtain ⟨us,⟨o,p,r⟩,e⟩:=z;exact ⟨us,⟨o,(k.2 a n).symm.trans p,r⟩,e⟩| t a=>obtain ⟨us,⟨o,p,r⟩,e⟩:=z;exact ⟨us,⟨o,(k.2 a n).symm.trans p,r⟩,e⟩| s x t=>exact z
section
variable {prog:Td}{w:Tz}{A:Ub}{E:aA->SL->Prop}{s:SL}
theorem sf {q:ZK}{it:S6}{i:Nat}{Q:aA->SL->Prop} (hit:q.at it i s.heap) (hv:∃ u,q.item i s.heap u) (hQ:∀ u h' tk,q.item i s.heap u->q.at it (i+1) h'->TN it s.heap h'->Q u { s with heap:=h',toks:=tk }) :
 ay (Ti prog w) A (TF (.ref it)) Q E s:=by
 obtain ⟨u,hv⟩:=hv;cases q with
 | l a =>
  obtain ⟨us,p,e⟩:=hv;exact wpAny_nextOf_list_item hit p (by simpa using e) λh' a1 a2=>hQ u h' s.toks ⟨us,p,e⟩ a1 a2
 | t a =>
  obtain ⟨us,p,e⟩:=hv;exact qd hit p (by simpa using e) λh' a1 a2=>hQ u h' s.toks ⟨us,p,e⟩ a1 a2
 | s x t =>
  obtain ⟨c,t2,e,_⟩:=hv;have hit:s.heap.IsStrIter it (Tt x) x t i:=hit;cases ha:x.cps.all (· < 128) with
  | true =>
   have ey:Tt x="str_ascii_iterator":=by unfold Tt;rw[if_pos ha]
   rw[ey] at hit;exact wpAny_nextOf_ascii_item hit e λh' a1 a2=>hQ _ h' _ ⟨c,_,e,rfl⟩ (by show h'.IsStrIter it (Tt x) x t (i+1);rw[ey];exact a1) a2
  | false =>
   have ey:Tt x="str_iterator":=by unfold Tt;rw[if_neg (by rw[ha];decide)]
   rw[ey] at hit;exact wpAny_nextOf_wide_item hit e λh' a1 a2=>hQ _ h' _ ⟨c,_,e,rfl⟩ (by show h'.IsStrIter it (Tt x) x t (i+1);rw[ey];exact a1) a2
theorem yd {q:ZK}{it:S6}{i:Nat}{Q:aA->SL->Prop} (hh:A.handled=af) (hit:q.at it i s.heap) (hv:q.done i s.heap) (hE:∀ h' e,Heap.ExtBut it s.heap h'->(∃ o,h'.get? e=aa o/\o.cls=.type "StopIteration")->E (.ref e) { s with heap:=h' }) :
 ay (Ti prog w) A (TF (.ref it)) Q E s:=by
 cases q with
 | l a =>
  obtain ⟨us,p,e⟩:=hv;exact wpAny_nextOf_list_end hh hit p (by simp;lia) hE
 | t a =>
  obtain ⟨us,p,e⟩:=hv;exact se hh hit p (by simp;lia) hE
 | s x t =>
  have hit:s.heap.IsStrIter it (Tt x) x t i:=hit;have hv:x.cps.size<=i:=hv;cases ha:x.cps.all (· < 128) with
  | true =>
   have ey:Tt x="str_ascii_iterator":=by unfold Tt;rw[if_pos ha]
   rw[ey] at hit;exact wpAny_nextOf_ascii_end hh hit (by simpa using hv) hE
  | false =>
   have ey:Tt x="str_iterator":=by unfold Tt;rw[if_neg (by rw[ha];decide)]
   rw[ey] at hit;exact wpAny_nextOf_wide_end hh hit (by simpa using hv) hE
structure ZA (z TI TO i1 i2:S6) (q1 q2:ZK):Prop where
 TIz:TI≠z
 TOz:TO≠z
 i1z:i1≠z
 i2z:i2≠z
 TITO:TI≠TO
 TIi1:TI≠i1
 TIi2:TI≠i2
 TOi1:TO≠i1
 TOi2:TO≠i2
 i12:i1≠i2
 f1:q1.off z/\q1.off TO/\q1.off i1/\q1.off i2
 f2:q2.off z/\q2.off TO/\q2.off i1/\q2.off i2
theorem FJ {z TI TO i1 i2:S6}{q1 q2:ZK}{k:Nat}{a b:aA}{Q:aA->SL->Prop} (D:ZA z TI TO i1 i2 q1 q2)
 (hz:Xy s.heap z TI TO .none) (hTI:Vt s.heap TI (.ref i1) (.ref i2)) (hTO:Vt s.heap TO a b) (h1:q1.at i1 k s.heap) (h2:q2.at i2 k s.heap) (e1:∃ u,q1.item k s.heap u) (e2:∃ u,q2.item k s.heap u)
 (hQ:∀ h' tk x y,q1.item k s.heap x->q2.item k s.heap y->Xy h' z TI TO (YQ s.heap.objs.size)->Vt h' TO x y->q1.at i1 (k+1) h'->q2.at i2 (k+1) h'->Vt h' s.heap.objs.size x y →
  (∀ c o,c≠z->c≠TO->c≠i1->c≠i2->s.heap.get? c=aa o->h'.get? c=aa o)->Q (.ref s.heap.objs.size) { s with heap:=h',toks:=tk }) :
 ay (Ti prog w) A (Builtin.«zip.__next__» ⟨[.ref z],[]⟩) (λfin s'=>∃ v,fin=.done (.ret v)/\Q v s') E s:=by
 show ay _ _ (field (.ref z) 2 >>= _) _ _ _;refine SD (T9 hz rfl (x:=.bool ai) rfl ?_);show ay _ _ (field (.ref z) 3 >>= _) _ _ _;refine SD (T9 hz rfl (x:=.ref TI) rfl ?_);refine SD (U6 hTI rfl ?_);show ay _ _ (Ux (.ref z) >>= _) _ _ _;refine SD ?_;unfold Ux;refine SD (T9 hz rfl (x:=.none) rfl (av ?_));simp only[if_true];refine SD (YO ?_);refine SD (T9 hz rfl (x:=.ref TO) rfl ?_);refine SD (Va hz (by simp) λg1 z1 s1=>?_);replace z1:Xy g1 z TI TO .ellipsis:=z1;replace s1:TN z s.heap g1:=s1;refine SD ?_;simp only[List.zipIdx_cons,List.zipIdx_nil,XG,List.forIn_nil];refine SD (SD (Xl ?_));show ay _ _ (TF (.ref i1) >>= _) _ _ _;refine SD (sf (q:=q1) (i:=k) (ZK.stay h1 λo e=>s1.extBut _ o D.i1z e) (e1.imp λu hu=>ZK.iZ hu D.f1.1 s1.extBut) λx g2 t2 ex a2 s2=>av ?_);replace s2:TN i1 g1 g2:=s2;replace ex:q1.item k s.heap x:=ZK.j8 ex D.f1.1 s1;have TO2:Vt g2 TO a b:=s2.extBut _ _ D.TOi1 (s1.extBut _ _ D.TOz hTO);refine SD (U6 TO2 rfl ?_);refine SD (W5 TO2 λg3 TO3 s3=>?_);replace TO3:Vt g3 TO x b:=TO3;replace s3:TN TO g2 g3:=s3;refine SD (wpAny_letGo (av ?_));refine SD (SD (Xl ?_));show ay _ _ (TF (.ref i2) >>= _) _ _ _;refine SD (sf (q:=q2) (i:=k) (ZK.stay h2 λo e=>s3.extBut _ o D.TOi2.symm (s2.extBut _ o D.i12.symm (s1.extBut _ o D.i2z e))) (e2.imp λu hu=>ZK.iZ (ZK.iZ (ZK.iZ hu D.f2.1 s1.extBut) D.f2.2.2.1 s2.extBut) D.f2.2.1 s3.extBut) λy g4 t4 ey a4 s4=>av ?_);replace s4:TN i2 g3 g4:=s4;replace ey:q2.item k s.heap y:=ZK.j8 (ZK.j8 (ZK.j8 ey D.f2.2.1 s3) D.f2.2.2.1 s2) D.f2.1 s1;have TO4:Vt g4 TO x b:=s4.extBut _ _ D.TOi2 TO3;refine SD (U6 TO4 rfl ?_);refine SD (W5 TO4 λg5 TO5 s5=>?_);replace TO5:Vt g5 TO x y:=TO5;replace s5:TN TO g4 g5:=s5;refine SD (wpAny_letGo (av (av ?_)));refine SD (U6 TO5 rfl ?_);refine SD (wpAny_newTuple ?_);have sz:g5.objs.size=s.heap.objs.size:=by rw[s5.1,s4.1,s3.1,s2.1,s1.1]
 have z5:Xy g5 z TI TO .ellipsis:=s5.extBut _ _ D.TOz.symm (s4.extBut _ _ D.i2z.symm (s3.extBut _ _ D.TOz.symm (s2.extBut _ _ D.i1z.symm z1)));have k5:∀ c o,c≠z->c≠TO->c≠i1->c≠i2->s.heap.get? c=aa o->g5.get? c=aa o:=λc o c1 c2 c3 c4 e =>
  s5.extBut _ _ c2 (s4.extBut _ _ c4 (s3.extBut _ _ c2 (s2.extBut _ _ c3 (s1.extBut _ _ c1 e))))
 have b1:q1.at i1 (k+1) g5:=ZK.stay a2 λo e=>s5.extBut _ o D.TOi1.symm (s4.extBut _ o D.i12 (s3.extBut _ o D.TOi1.symm e));have b2:q2.at i2 (k+1) g5:=ZK.stay a4 λo e=>s5.extBut _ o D.TOi2.symm e;have lz:z < g5.objs.size:=SW z5;show ay _ _ (VY (.ref z) (.ref g5.objs.size) >>= _) _ _ _;refine SD ?_;unfold VY;have z6:Xy (g5.push { cls:=.type "tuple",data:=.seq #[x,y] }) z TI TO .ellipsis:=SH _ z5;refine SD (Va z6 (by simp) λg7 z7 s7=>?_);replace z7:Xy g7 z TI TO (YQ g5.objs.size):=z7;refine Va z7 (by simp) λg8 z8 s8=>?_;replace z8:Xy g8 z TI TO (YQ g5.objs.size):=z8;have up:∀ c o,c≠z->g5.get? c=aa o->g8.get? c=aa o:=λc o c1 e=>s8.extBut _ _ c1 (s7.extBut _ _ c1 (SH _ e));have T8:Vt g8 g5.objs.size x y:=s8.extBut _ _ (VI lz) (s7.extBut _ _ (VI lz) (Th _ rfl));rw[sz] at z8 T8;refine av ⟨_,rfl,?_⟩;show Q (.ref g5.objs.size) _;rw[sz];exact hQ g8 _ x y ex ey z8 (up _ _ D.TOz TO5) (ZK.stay b1 λo e=>up _ o D.i1z e) (ZK.stay b2 λo e=>up _ o D.i2z e) T8 λc o c1 c2 c3 c4 e=>up c o c1 (k5 c o c1 c2 c3 c4 e)
theorem JI {z TI TO i1 i2:S6}{q1 q2:ZK}{k:Nat}{a b:aA}{Q:Fin->SL->Prop} (hh:A.handled=af) (D:ZA z TI TO i1 i2 q1 q2)
 (hz:Xy s.heap z TI TO .none) (hTI:Vt s.heap TI (.ref i1) (.ref i2)) (hTO:Vt s.heap TO a b) (h1:q1.at i1 k s.heap) (h2:q2.at i2 k s.heap) (hend:q1.done k s.heap\/((∃ u,q1.item k s.heap u)/\q2.done k s.heap))
 (hE:∀ h' tk e,(∀ c o,c≠z->c≠TO->c≠i1->c≠i2->s.heap.get? c=aa o->h'.get? c=aa o)->(∃ o,h'.get? e=aa o/\o.cls=.type "StopIteration")->E (.ref e) { s with heap:=h',toks:=tk }) :
 ay (Ti prog w) A (Builtin.«zip.__next__» ⟨[.ref z],[]⟩) Q E s:=by
 show ay _ _ (field (.ref z) 2 >>= _) _ _ _;refine SD (T9 hz rfl (x:=.bool ai) rfl ?_);show ay _ _ (field (.ref z) 3 >>= _) _ _ _;refine SD (T9 hz rfl (x:=.ref TI) rfl ?_);refine SD (U6 hTI rfl ?_);show ay _ _ (Ux (.ref z) >>= _) _ _ _;refine SD ?_;unfold Ux;refine SD (T9 hz rfl (x:=.none) rfl (av ?_));simp only[if_true];refine SD (YO ?_);refine SD (T9 hz rfl (x:=.ref TO) rfl ?_);refine SD (Va hz (by simp) λg1 z1 s1=>?_);replace z1:Xy g1 z TI TO .ellipsis:=z1;replace s1:TN z s.heap g1:=s1;refine SD ?_;simp only[List.zipIdx_cons,List.zipIdx_nil,XG,List.forIn_nil];refine SD (SD (Xl ?_));show ay _ _ (TF (.ref i1) >>= _) _ _ _;rcases hend with d1|⟨e1,d2⟩
 ·refine SD (yd (q:=q1) (i:=k) hh (ZK.stay h1 λo e=>s1.extBut _ o D.i1z e) (ZK.j7 d1 D.f1.1 s1.extBut) λg2 e s2 he=>?_);obtain ⟨oe,ho,hc⟩:=he;have z2:Xy g2 z TI TO .ellipsis:=s2 _ _ D.i1z.symm z1;have ez:e≠z:=λx=>by subst x;rw[z2] at ho;cases ho;simp at hc
  exact Va z2 (by simp) λg3 _ s3=>hE g3 s.toks e (λc o c1 _ c3 _ x=>s3.extBut _ _ c1 (s2 _ _ c3 (s1.extBut _ _ c1 x))) ⟨oe,s3.extBut _ _ ez ho,hc⟩
 ·refine SD (sf (q:=q1) (i:=k) (ZK.stay h1 λo e=>s1.extBut _ o D.i1z e) (e1.imp λu hu=>ZK.iZ hu D.f1.1 s1.extBut) λx g2 t2 ex a2 s2=>av ?_);replace s2:TN i1 g1 g2:=s2;have TO2:Vt g2 TO a b:=s2.extBut _ _ D.TOi1 (s1.extBut _ _ D.TOz hTO);refine SD (U6 TO2 rfl ?_);refine SD (W5 TO2 λg3 TO3 s3=>?_);replace s3:TN TO g2 g3:=s3;refine SD (wpAny_letGo (av ?_));refine SD (SD (Xl ?_));show ay _ _ (TF (.ref i2) >>= _) _ _ _;refine SD (yd (q:=q2) (i:=k) hh (ZK.stay h2 λo e=>s3.extBut _ o D.TOi2.symm (s2.extBut _ o D.i12.symm (s1.extBut _ o D.i2z e))) (ZK.j7 (ZK.j7 (ZK.j7 d2 D.f2.1 s1.extBut) D.f2.2.2.1 s2.extBut) D.f2.2.1 s3.extBut) λg4 e s4 he=>?_);obtain ⟨oe,ho,hc⟩:=he;have z4:Xy g4 z TI TO .ellipsis:=s4 _ _ D.i2z.symm (s3.extBut _ _ D.TOz.symm (s2.extBut _ _ D.i1z.symm z1));have ez:e≠z:=λx=>by subst x;rw[z4] at ho;cases ho;simp at hc
  exact Va z4 (by simp) λg5 _ s5=>hE g5 _ e (λc o c1 c2 c3 c4 x=>s5.extBut _ _ c1 (s4 _ _ c4 (s3.extBut _ _ c2 (s2.extBut _ _ c3 (s1.extBut _ _ c1 x))))) ⟨oe,s5.extBut _ _ ez ho,hc⟩
end
noncomputable def ZK.ob (q:ZK):aq:={ cls:=.type q.ty,data:=.fields #[q.val,.int 0 0] }
def ZK.here (q:ZK) (h:au):Prop:=match q with
 | .l a=>∃ us:List aA,h.IsList a us.toArray| .t a=>∃ us:List aA,h.IsTuple a us.toArray| .s _ _=>True
section
variable {prog:Td}{w:Tz}{A:Ub}{E:aA->SL->Prop}{s:SL}
theorem ye {q:ZK}{Q:aA->SL->Prop} (hq:q.here s.heap) (h:Q (.ref s.heap.objs.size) { s with heap:=s.heap.push q.ob }):ay (Ti prog w) A (pyIter q.val) Q E s:=by
 cases q with
 | l a=>obtain ⟨us,p⟩:=hq;exact XM p h| t a=>obtain ⟨us,p⟩:=hq;exact wpAny_pyIter_tuple p h| s x t=>exact wpAny_pyIter_strU h
end
noncomputable abbrev Ck (h:au) (q1:ZK):au:=h.push q1.ob
noncomputable abbrev FL (h:au) (q1 q2:ZK):au:=(Ck h q1).push q2.ob
noncomputable abbrev FM (h:au) (q1 q2:ZK):au:=(FL h q1 q2).push { cls:=.type "tuple",data:=.seq #[.ref h.objs.size,.ref (Ck h q1).objs.size] }
noncomputable abbrev FN (h:au) (q1 q2:ZK):au:=(FM h q1 q2).push { cls:=.type "tuple",data:=.seq #[.none,.none] }
noncomputable abbrev Ae (h:au) (q1 q2:ZK):au:=(FN h q1 q2).push { cls:=.type "zip",data:=.fields #[.none,.bool ai,.bool ai,.ref (FL h q1 q2).objs.size,.ref (FM h q1 q2).objs.size] }
theorem sj (q1 q2:ZK) :
 Meets (Builtin.«zip.__new__» ⟨[.type "zip",q1.val,q2.val],[]⟩) (λ_ R s=>q1.here s.heap/\q2.here (Ck s.heap q1) ∧
  R (.ok (.ret (.ref (FN s.heap q1 q2).objs.size))) { s with heap:=Ae s.heap q1 q2 }) :=
 .of_wp λprog w A R s h=>by
  obtain ⟨hp,g,d,tk,os⟩:=s;obtain ⟨hl1,hl2,h⟩:=h;have hsub:=sub_zip;have J1:∀ {A:Ub}{E:aA->SL->Prop}{Q:aA->SL->Prop},Q (.ref hp.objs.size) ⟨hp.push q1.ob,g,d,tk,os⟩->ay (Ti prog w) A (pyIter q1.val) Q E ⟨hp,g,d,tk,os⟩:=λhQ=>ye (s:=⟨hp,g,d,tk,os⟩) hl1 hQ;have J2:∀ {A:Ub}{E:aA->SL->Prop}{Q:aA->SL->Prop},Q (.ref (hp.push q1.ob).objs.size) ⟨(hp.push q1.ob).push q2.ob,g,d,tk,os⟩->ay (Ti prog w) A (pyIter q2.val) Q E ⟨hp.push q1.ob,g,d,tk,os⟩:=λhQ=>ye (s:=⟨hp.push q1.ob,g,d,tk,os⟩) hl2 hQ
  wp_walk using J1,J2
  exact ⟨_,rfl,h⟩
theorem ZK.Af {q:ZK}{h:au}{o:aq} (z:q.here h):q.here (h.push o):=by
 cases q with
 | s _ _=>trivial| _=>obtain ⟨us,p⟩:=z;exact ⟨us,p.at λo e=>SH _ e⟩
theorem ZK.Nt {q:ZK}{h:au}{it:S6} (e:h.get? it=aa q.ob):q.at it 0 h:=by
 cases q with
 | _=>exact ⟨_,e,rfl,rfl⟩
section
variable {prog:Td}{w:Tz}{A:Ub}{E:aA->SL->Prop}{s:SL}
theorem FO {q1 q2:ZK}{Q:aA->SL->Prop} (hl1:q1.here s.heap) (hl2:q2.here s.heap)
 (h:∀ h',Xy h' (s.heap.objs.size+4) (s.heap.objs.size+2) (s.heap.objs.size+3) .none->Vt h' (s.heap.objs.size+2) (.ref s.heap.objs.size) (.ref (s.heap.objs.size+1)) →
  Vt h' (s.heap.objs.size+3) .none .none->q1.at s.heap.objs.size 0 h'->q2.at (s.heap.objs.size+1) 0 h' →
  (∀ c o,s.heap.get? c=aa o->h'.get? c=aa o)->Q (.ref (s.heap.objs.size+4)) { s with heap:=h' }) :
 ay (Ti prog w) A (call (.type "zip") [q1.val,q2.val]) Q E s:=by
 refine callType_new F.called_zip (by decide) (F.typeCall_zip_2 _ _) (F.newCall_zip_2 _ _) (λobj=>F.args_object_init_3 obj _ _) F.entry_zip_new
  (sj q1 q2) ⟨hl1,ZK.Af hl2,?_⟩
 have z1:(Ck s.heap q1).objs.size=s.heap.objs.size+1:=VE ..;have z2:(FL s.heap q1 q2).objs.size=s.heap.objs.size+2:=by rw[VE,z1]
 have z3:(FM s.heap q1 q2).objs.size=s.heap.objs.size+3:=by rw[VE,z2]
 have z4:(FN s.heap q1 q2).objs.size=s.heap.objs.size+4:=by rw[VE,z3]
 have g5:(Ae s.heap q1 q2).get? (FN s.heap q1 q2).objs.size=aa _:=Th _ rfl;have g4:(Ae s.heap q1 q2).get? (FM s.heap q1 q2).objs.size=aa _:=SH _ (Th _ rfl);have g3:(Ae s.heap q1 q2).get? (FL s.heap q1 q2).objs.size=aa _:=SH _ (SH _ (Th _ rfl));have g2:(Ae s.heap q1 q2).get? (Ck s.heap q1).objs.size=aa _:=SH _ (SH _ (SH _ (Th _ rfl)));have g1:(Ae s.heap q1 q2).get? s.heap.objs.size=aa _:=SH _ (SH _ (SH _ (SH _ (Th _ rfl))));show _/\_;rw[z2,z3,z4] at g5;rw[z1,z2] at g3;rw[z3] at g4;rw[z1] at g2;rw[z4];exact ⟨⟨_,g5,rfl⟩,h _ g5 g3 g4 (ZK.Nt g1) (ZK.Nt g2) λc o x =>
  SH _ (SH _ (SH _ (SH _ (SH _ x))))⟩
theorem FP {TI TO:S6} (D:ZA z TI TO i1 i2 q1 q2)
 (hz:Xy s.heap z TI TO .none) (hTI:Vt s.heap TI (.ref i1) (.ref i2)) (hTO:Vt s.heap TO a b) (h1:q1.at i1 k s.heap) (h2:q2.at i2 k s.heap) (e1:∃ u,q1.item k s.heap u) (e2:∃ u,q2.item k s.heap u)
 (hQ:∀ h' tk x y,q1.item k s.heap x->q2.item k s.heap y->Xy h' z TI TO (YQ s.heap.objs.size)->Vt h' TO x y->q1.at i1 (k+1) h'->q2.at i2 (k+1) h'->Vt h' s.heap.objs.size x y →
  (∀ c o,c≠z->c≠TO->c≠i1->c≠i2->s.heap.get? c=aa o->h'.get? c=aa o)->Q (aa (.ref s.heap.objs.size)) { s with heap:=h',toks:=tk }) :
 ay (Ti prog w) A (YR (.ref z)) Q E s:=by
 have hT:s.TypeIs (.ref z) "zip":=⟨_,hz,rfl⟩;unfold YR;exact SD (WG (Ur (name:=SE "__next__") hT F.slot_zip_next
  (U4 F.slot_zip_next hT F.entry_zip_next
   (FJ D hz hTI hTO h1 h2 e1 e2 λh' tk x y a1 a2 a3 a4 a5 a6 a7 a8=>av (hQ h' tk x y a1 a2 a3 a4 a5 a6 a7 a8)) (F.args_zip_next_1 _))))
theorem FQ {TI TO:S6} (hh:A.handled=af) (D:ZA z TI TO i1 i2 q1 q2)
 (hz:Xy s.heap z TI TO .none) (hTI:Vt s.heap TI (.ref i1) (.ref i2)) (hTO:Vt s.heap TO a b) (h1:q1.at i1 k s.heap) (h2:q2.at i2 k s.heap) (hend:q1.done k s.heap\/((∃ u,q1.item k s.heap u)/\q2.done k s.heap))
 (hQ:∀ h' tk,(∀ c o,c≠z->c≠TO->c≠i1->c≠i2->s.heap.get? c=aa o->h'.get? c=aa o)->Q af { s with heap:=h',toks:=tk }):ay (Ti prog w) A (YR (.ref z)) Q E s:=by
 have hT:s.TypeIs (.ref z) "zip":=⟨_,hz,rfl⟩;unfold YR;refine SD (WG (Ur (name:=SE "__next__") hT F.slot_zip_next
  (U4 F.slot_zip_next hT F.entry_zip_next (JI hh D hz hTI hTO h1 h2 hend λh' tk e hk he=>?_) (F.args_zip_next_1 _))))
 obtain ⟨o,ho,hc⟩:=he;refine SD (wpAny_isInstance (T:="StopIteration") (b:=ah) ⟨o,ho,hc⟩ isSubtype_stop ?_);exact av (hQ _ _ hk)
end
def ZK.has (q:ZK) (K:SA) (H:Hp) (i:Nat):Prop:=match q with
 | .l a=>∃ xs x,SqL K H a xs/\xs[i]?=aa x| .t a=>∃ xs x,SqT K H a xs/\xs[i]?=aa x| .s x _=>∃ c,x.cps[i]?=aa c
def ZK.is (q:ZK) (K:SA) (H:Hp) (i:Nat) (v:V):Prop:=match q with
 | .l a=>∀ xs,SqL K H a xs->xs[i]?=aa v| .t a=>∀ xs,SqT K H a xs->xs[i]?=aa v| .s x _=>∃ c,x.cps[i]?=aa c/\v=.str ⟨#[c]⟩
def ZK.over (q:ZK) (K:SA) (H:Hp) (i:Nat):Prop:=match q with
 | .l a=>∃ xs,SqL K H a xs/\xs.length<=i| .t a=>∃ xs,SqT K H a xs/\xs.length<=i| .s x _=>x.cps.size<=i
noncomputable def ItG (K:SA) (q1 q2:ZK):It :=
 ⟨λi H=>q1.has K H i/\q2.has K H i,
  λi H v H'=>∃ t x y,v=.ref t/\H t=af/\H'=upd H t (.tup [x,y])/\q1.is K H i x/\q2.is K H i y,
  λi H=>q1.over K H i\/(q1.has K H i/\q2.over K H i)⟩
theorem FU {h:au}{a:S6}{us vs:Array aA} (x:h.IsList a us) (y:h.IsList a vs):us=vs:=by obtain ⟨o,e,c,n,d⟩:=x;obtain ⟨o',e',c',n',d'⟩:=y;rw[e] at e';cases e';rw[d] at d';cases d';rfl
theorem FW {h:au}{a:S6}{us vs:Array aA} (x:h.IsTuple a us) (y:h.IsTuple a vs):us=vs:=by obtain ⟨o,e,c,n,d⟩:=x;obtain ⟨o',e',c',n',d'⟩:=y;rw[e] at e';cases e';rw[d] at d';cases d';rfl
section
variable {X:Cx}{zt:List (S6×aq)}{σ:L2.St}{H:Hp}{s:SL}
theorem vY {q:ZK}{i:Nat} (I:Inv X zt σ H s) (h:q.has X.K H i):∃ u,q.item i s.heap u:=by
 cases q with
 | l a =>
  obtain ⟨xs,x,hq,hx⟩:=h;obtain ⟨its,rv,p,hz⟩:=I.list hq;obtain ⟨u,hu,_⟩:=rv.get hx;exact ⟨u,its,p.isList,hu⟩
 | t a =>
  obtain ⟨xs,x,hq,hx⟩:=h;obtain ⟨its,rv,p,hz⟩:=I.tuple hq;obtain ⟨u,hu,_⟩:=rv.get hx;exact ⟨u,its,p,hu⟩
 | s x t =>
  obtain ⟨c,hc⟩:=h;exact ⟨_,c,0,hc,rfl⟩
theorem Hz {q:ZK}{i:Nat}{u:aA} (I:Inv X zt σ H s) (h:q.has X.K H i) (hu:q.item i s.heap u):∃ v,q.is X.K H i v/\RelV v u:=by
 cases q with
 | l a =>
  obtain ⟨xs,x,hq,hx⟩:=h;obtain ⟨its,rv,p,hz⟩:=I.list hq;obtain ⟨us,p2,e⟩:=hu;have:=FU p.isList p2;have:its=us:=by simpa using this
  subst this;obtain ⟨u',hu',r⟩:=rv.get hx;rw[e] at hu';cases hu';exact ⟨x,λxs' h'=>by rw[I.oi h' hq];exact hx,r⟩
 | t a =>
  obtain ⟨xs,x,hq,hx⟩:=h;obtain ⟨its,rv,p,hz⟩:=I.tuple hq;obtain ⟨us,p2,e⟩:=hu;have:=FW p p2;have:its=us:=by simpa using this
  subst this;obtain ⟨u',hu',r⟩:=rv.get hx;rw[e] at hu';cases hu';exact ⟨x,λxs' h'=>by rw[I.qk h' hq];exact hx,r⟩
 | s x t =>
  obtain ⟨c,t2,hc,rfl⟩:=hu;exact ⟨_,⟨c,hc,rfl⟩,t2,rfl⟩
theorem yf {q:ZK}{i:Nat} (I:Inv X zt σ H s) (h:q.over X.K H i):q.done i s.heap:=by
 cases q with
 | l a =>
  obtain ⟨xs,hq,hx⟩:=h;obtain ⟨its,rv,p,hz⟩:=I.list hq;have:=rv.length;exact ⟨its,p.isList,by lia⟩
 | t a =>
  obtain ⟨xs,hq,hx⟩:=h;obtain ⟨its,rv,p,hz⟩:=I.tuple hq;have:=rv.length;exact ⟨its,p,by lia⟩
 | s x t=>exact h
end
def ZGS (z TI TO i1 i2:S6) (q1 q2:ZK) (i:Nat) (h:au):Prop:=Xy h z TI TO .none/\Vt h TI (.ref i1) (.ref i2)/\(∃ a b,Vt h TO a b)/\q1.at i1 i h/\q2.at i2 i h
theorem Ag {P:Td}{w:Tz}{elts:List SR}{kk:Nat}{tp:Pos}{z TI TO i1 i2:S6}{q1 q2:ZK} (D:ZA z TI TO i1 i2 q1 q2) :
 Turn P w K (.Tuple elts kk tp) (ItG K q1 q2) [z,TI,TO,i1,i2] z (ZGS z TI TO i1 i2 q1 q2) where
 mem:=by simp
 obj:=λi h st b hb=>by
  obtain ⟨a1,a2,⟨xa,xb,a3⟩,a4,a5⟩:=st;simp only[Uh,TR,or_false] at hb;rcases hb with rfl|rfl|rfl|rfl|rfl
  exact ⟨_,a1,λv q=>by cases (show Data.fields _=Data.cell v from q)⟩;exact ⟨_,a2,λv q=>by cases (show Data.seq _ _=Data.cell v from q)⟩;exact ⟨_,a3,λv q=>by cases (show Data.seq _ _=Data.cell v from q)⟩;exact ZK.there a4;exact ZK.there a5
 keep:=λi h h' st k=>by obtain ⟨a1,a2,⟨xa,xb,a3⟩,a4,a5⟩:=st;exact ⟨k _ (by simp) _ a1,k _ (by simp) _ a2,⟨xa,xb,k _ (by simp) _ a3⟩,ZK.stay a4 λo e=>k _ (by simp) o e,ZK.stay a5 λo e=>k _ (by simp) o e⟩
 item:=by
  intro X hP hw hK hc i zt s σ H E I hf st hg;subst hP hw hK;obtain ⟨g1,g2⟩:=hg;obtain ⟨a1,a2,⟨xa,xb,a3⟩,a4,a5⟩:=st;refine FP D a1 a2 a3 a4 a5 (vY I g1) (vY I g2) λh' tk u1 u2 e1 e2 b1 b2 b3 b4 b5 b7=>?_;obtain ⟨x,x1,x2⟩:=Hz I g1 e1;obtain ⟨y,y1,y2⟩:=Hz I g2 e2;refine ⟨_,rfl,wpAny_letOwnedTupleGo_zip b1 λh2 c1 c2=>?_⟩;have c2:TN z h' h2:=c2;have old:∀ b o,b∉[z,TI,TO,i1,i2]->s.heap.get? b=aa o->h2.get? b=aa o:=λb o hb e=>by simp only[Uh,TR,or_false,not_or] at hb;exact c2.extBut b o hb.1 (b7 b o hb.1 hb.2.2.1 hb.2.2.2.1 hb.2.2.2.2 e)
  have hTI:h2.get? TI=aa _:=c2.extBut _ _ D.TIz (b7 _ _ D.TIz D.TITO D.TIi1 D.TIi2 a2);have neT:s.heap.objs.size≠z:=VI (SW a1);have hpair:Vt h2 s.heap.objs.size u1 u2:=c2.extBut _ _ neT b5;have hnew:H s.heap.objs.size=af:=I.hok.fresh (SY _);have hok:HOk X.prog X.w (upd H s.heap.objs.size (.tup [x,y])) h2:=λb u e=>by
   by_cases eb:b=s.heap.objs.size
   ·subst eb;rw[fc] at e;cases e;exact ⟨by show 2<=ak;decide,[u1,u2],.cons x2 (.cons y2 .nil),_,hpair,rfl,_,rfl⟩
   ·rw[dw eb] at e;refine (I.hok b u e).stay (λc v hc q=>old c v (λhb=>?_) q) (λc q=>?_) λc l q=>?_
    ·have:=(hf c hb).1;rcases hc with rfl|hc
     rw[this] at e;exact cS e;rw[this] at hc;exact cS hc
    rw[dw (Tn (I.hok.lt q))];exact q;rw[dw (Tn (I.hok.lt q))];exact q
  refine ⟨.ref s.heap.objs.size,_,Inv.xT (s:=s) (tk:=tk) I hf old (λb hb=>dw (Tn hb)) hok,rfl,⟨_,x,y,rfl,hnew,rfl,x1,y1⟩,⟨c1,hTI,⟨u1,u2,c2.extBut _ _ D.TOz b2⟩,ZK.stay b3 λo e=>c2.extBut _ o D.i1z e,ZK.stay b4 λo e=>c2.extBut _ o D.i2z e⟩,λb hb=>?_⟩;have hlt:b < s.heap.objs.size:=by
   obtain ⟨o1,e1,_⟩:=ZK.there a4;obtain ⟨o2,e2,_⟩:=ZK.there a5;simp only[Uh,TR,or_false] at hb;rcases hb with rfl|rfl|rfl|rfl|rfl
   exact SW a1;exact SW a2;exact SW a3;exact SW e1;exact SW e2
  rw[dw (Tn hlt)];exact (hf b hb).1
 done:=by
  intro X hP hw hK hc i zt s σ H E I hf st hg;subst hP hw hK;obtain ⟨a1,a2,⟨xa,xb,a3⟩,a4,a5⟩:=st;refine FQ (I.ok.hd hc) D a1 a2 a3 a4 a5 (hg.elim (λq=>.inl (yf I q)) λq=>.inr ⟨vY I q.1,yf I q.2⟩) λh' tk b7=>⟨rfl,?_⟩;refine Inv.xT (s:=s) (tk:=tk) I hf (λb o hb e=>?_) (λ_ _=>rfl) λb u e=>?_
  ·simp only[Uh,TR,or_false,not_or] at hb;exact b7 b o hb.1 hb.2.2.1 hb.2.2.2.1 hb.2.2.2.2 e
  ·refine (I.hok b u e).stay (λc v hc q=>b7 c v ?_ ?_ ?_ ?_ q) (λ_ q=>q) λ_ _ q=>q
   all_goals
    intro ec;have hcn:H c=af:=(hf c (by simp[ec])).1;rcases hc with rfl|hc
    rw[hcn] at e;exact cS e;rw[hcn] at hc;exact cS hc
 self:=λ_ _ _ _ _ st h=>wpAny_pyIter_zip st.1 h
structure ZOk (K:SA) (m0:List S6) (H0:Hp) (q:ZK) (xs:List BT.D):Prop where
 has:∀ m H i,Ext m0 H0 m H->i < xs.length->q.has K H i
 is:∀ m H i v d,Ext m0 H0 m H->q.is K H i v->xs[i]?=aa d->RD K m H v d
 over:∀ m H i,Ext m0 H0 m H->xs.length<=i->q.over K H i
theorem Nu (h:(Rd H0 a (.lst vs)/\a∉m0)\/KL K a vs) (r:RDs K m0 H0 vs ds):ZOk K m0 H0 (.l a) ds:=by have k:∀ {m H},Ext m0 H0 m H->SqL K H a vs:=λx=>LL.sq (h.elim (λq=>.inl (Rd.ext x q.1 q.2).1) .inr);refine ⟨λm H i x hi=>⟨vs,_,k x,Tc (by rw[r.length];exact hi)⟩,λm H i v d x y hd=>?_,λm H i x hi=>⟨vs,k x,by rw[r.length];exact hi⟩⟩;obtain ⟨u,h1,h2⟩:=(r.ext x).get hd;have:=y vs (k x);rw[h1] at this;cases this;exact h2
theorem Nv (h:(Rd H0 a (.tup vs)/\a∉m0)\/KT K a vs) (r:RDs K m0 H0 vs ds):ZOk K m0 H0 (.t a) ds:=by have k:∀ {m H},Ext m0 H0 m H->SqT K H a vs:=λx=>h.elim (λq=>.inl (Rd.ext x q.1 q.2).1) λ⟨o,its,n,q,_⟩=>.inr ⟨o,its,n,q⟩;refine ⟨λm H i x hi=>⟨vs,_,k x,Tc (by rw[r.length];exact hi)⟩,λm H i v d x y hd=>?_,λm H i x hi=>⟨vs,k x,by rw[r.length];exact hi⟩⟩;obtain ⟨u,h1,h2⟩:=(r.ext x).get hd;have:=y vs (k x);rw[h1] at this;cases this;exact h2
theorem nU (x:az):(BT.nG x).length=x.cps.size:=by simp[BT.nG]
theorem Co {i:Nat} (h:(BT.nG x)[i]?=aa d):∃ c,x.cps[i]?=aa c/\d=.str ⟨#[c]⟩:=by unfold BT.nG at h;rw[Uu] at h;obtain ⟨c,h1,h2⟩:=dQ h;exact ⟨c,by simpa using h1,h2.symm⟩
theorem Nx (ok:PyData.strOk x=ah):ZOk K m0 H0 (.s x t) (BT.nG x):=by
 refine ⟨λm H i _ hi=>?_,λm H i v d _ y hd=>?_,λm H i _ hi=>by rw[nU] at hi;exact hi⟩
 ·rw[nU] at hi;exact ⟨_,Array.getElem?_eq_getElem hi⟩
 ·obtain ⟨c,h1,rfl⟩:=Co hd;obtain ⟨c',h2,rfl⟩:=y;rw[h1] at h2;cases h2;refine .str _ (mS ok ?_);exact Array.mem_toList_iff.mpr (Yz h1)
theorem FY:∀ (ds es:List BT.D),(BT.jD ds es).length=min ds.length es.length:=by
 intro ds
 induction ds with
 | nil=>intro es;cases es<;>simp[BT.jD]
 | cons d ds ih =>
  intro es;cases es with
  | nil=>simp[BT.jD]| cons e es=>simp only[BT.jD,SX,ih];lia
theorem JJ:∀ (ds es:List BT.D) (i:Nat) (d:BT.D),(BT.jD ds es)[i]?=aa d->∃ x y,ds[i]?=aa x/\es[i]?=aa y/\d=.tup [x,y]:=by
 intro ds
 induction ds with
 | nil=>intro es i d e;cases es<;>simp[BT.jD] at e
 | cons d ds ih =>
  intro es i q e;cases es with
  | nil=>simp[BT.jD] at e
  | cons e0 es =>
   cases i with
   | zero=>simp[BT.jD] at e;exact ⟨d,e0,rfl,rfl,e.symm⟩| succ i=>simp[BT.jD] at e;simpa using ih es i q e
theorem FZ (z1:ZOk K m0 H0 q1 ds) (z2:ZOk K m0 H0 q2 es):qb K (ItG K q1 q2) m0 H0 (BT.jD ds es) C:=by
 have ln:=FY ds es;refine ⟨λm H hh i x _ _ hi=>⟨z1.has m H i x (by lia),z2.has m H i x (by lia)⟩,λm H hh i v H' d x RR _ hd y=>?_,λm H _ x _ _=>?_⟩
 ·obtain ⟨t,v1,v2,rfl,hn,rfl,y1,y2⟩:=y;obtain ⟨d1,d2,e1,e2,rfl⟩:=JJ ds es i d hd;have xx:Ext m H m (upd H t (.tup [v1,v2])):=iL hn;exact ⟨xx,vP hn,.tup (.inl ⟨.inl fc,RR.iW hn⟩) (.cons ((z1.is m H i v1 d1 x y1 e1).ext xx) (.cons ((z2.is m H i v2 d2 x y2 e2).ext xx) .nil))⟩
 ·by_cases c:ds.length<=(BT.jD ds es).length
  exact .inl (z1.over m H _ x c);exact .inr ⟨z1.has m H _ x (by lia),z2.over m H _ x (by lia)⟩
inductive ZV (X:Cx) (m:List S6) (H:Hp) (s:SL) (u:aA) (xs:List BT.D):Prop where
 | mk (q:ZK) (e:u=q.val) (h:q.here s.heap) (f:∀ b,s.heap.objs.size<=b->q.off b) (z:ZOk X.K m H q xs):ZV X m H s u xs
theorem HA (I:Inv X zt σ H s) (r:RD X.K m H v d) (rv:RelV v u) (e:BT.Ba d=aa xs):ZV X m H s u xs:=by
 cases r with
 | @tup a vs _ h r =>
  cases e;cases rv;obtain ⟨its,q1,p,hz⟩:=I.tuple (h.elim (λq=>.inl q.1) λ⟨o,its,n,q,_⟩=>.inr ⟨o,its,n,q⟩);obtain ⟨o,ho,r'⟩:=id p;have:=SW ho;exact ⟨.t a,rfl,⟨its,p⟩,λb hb=>Tn (Tu this hb),Nv h r⟩
 | @lst a vs _ h r =>
  cases e;cases rv;obtain ⟨its,q1,p,hz⟩:=I.list (LL.sq (h.elim (λq=>.inl q.1) .inr));obtain ⟨o,ho,r'⟩:=p.isList;have:=SW ho;exact ⟨.l a,rfl,⟨its,p.isList⟩,λb hb=>Tn (Tu this hb),Nu h r⟩
 | str x ok =>
  cases e;obtain ⟨t,rfl⟩:=rv;exact ⟨.s x t,rfl,trivial,λ_ _=>trivial,Nx ok⟩
 | _=>exact cS e
section
variable {F:FT}{G:az->Option BT.W}
theorem F0 (O:Ok X F G sc N) (hz:nk .zipG tg=ah) (hg:d8 sc "zip"=ah) (hs:noStar ex=ah) (hs2:noStar ey=ah) (hA:PA X [ex,ey] (tDs X F G sa)) :
 PI X tg (.Call (.Name "zip" p) [ex,ey] [] pos) (iD X F G .zipG sa):=by
 intro zt s σ H R I q;obtain ⟨m,s',h,ws,h',ds,RR,S,e,e2,ha,post⟩:=q;obtain ⟨xs,rfl⟩:=xU (ha.p (λz=>by cases z));rw[vV,Ue] at e2;obtain ⟨d1,d2,rfl⟩:∃ d1 d2,xs=[d1,d2]:=by
  match xs,e2 with
  | [d1,d2],_=>exact ⟨d1,d2,rfl⟩
 rw[BT.jU] at e2;obtain ⟨x1,g1,g2⟩:=Option.bind_eq_some_iff.mp e2;obtain ⟨x2,g3,g4⟩:=dQ g2;subst g4;refine Call_ (kM (u:=.type "zip") I (eX O hg) (O.blt _ (by decide)) (by decide +kernel) (UB (thn (hA pos zt s σ H (λvs H1=>∃ m1 v1 v2,vs=[v1,v2]/\Ext m H m1 H1/\RH X.K m1 H1 h'/\RD X.K m1 H1 v1 d1/\RD X.K m1 H1 v2 d2) I
  ⟨m,s',h,_,h',RR,S,e,λvs H1 m1 x1 R1 r1=>?_⟩) λus s1 ⟨vs,H1,I1,r1,q1⟩=>?_) (cY hs) (fm (by simp[dm,hs2]))))
 ·cases r1 with
  | cons ra t =>
   cases t with
   | cons rb t =>
    cases t;cases ra with
    | p ra =>
     cases rb with
     | p rb=>exact ⟨m1,_,_,rfl,x1,R1,ra,rb⟩
 ·obtain ⟨m1,v1,v2,rfl,x1,R1,ra,rb⟩:=q1;obtain ⟨u1,u2,rfl,ru1,ru2⟩:=r1.two;obtain ⟨q1,rfl,h1,f1,z1⟩:=HA I1 ra ru1 g1;obtain ⟨q2,rfl,h2,f2,z2⟩:=HA I1 rb ru2 g3;refine FO h1 h2 λh2' y1 y2 y3 y4 y5 y7=>?_;refine wpAny_pyIter_zip y1 ?_;have D:ZA (s1.heap.objs.size+4) (s1.heap.objs.size+2) (s1.heap.objs.size+3) s1.heap.objs.size (s1.heap.objs.size+1) q1 q2:=by
   have ne:∀ (i j:Nat),i≠j->s1.heap.objs.size+i≠s1.heap.objs.size+j:=λi j hij z=>hij (Nat.add_left_cancel z);have n0:∀ (i:Nat),i≠0->s1.heap.objs.size+i≠s1.heap.objs.size:=λi hi=>ne i 0 hi;exact ⟨ne 2 4 (by decide),ne 3 4 (by decide),(n0 4 (by decide)).symm,ne 1 4 (by decide),ne 2 3 (by decide),n0 2 (by decide),ne 2 1 (by decide),n0 3 (by decide),ne 3 1 (by decide),(n0 1 (by decide)).symm,
    ⟨f1 _ (Uq _ _),f1 _ (Uq _ _),f1 _ (SY _),f1 _ (Uq _ _)⟩,⟨f2 _ (Uq _ _),f2 _ (Uq _ _),f2 _ (SY _),f2 _ (Uq _ _)⟩⟩
  cases tg with
  | Tuple elts kk tp =>
   refine ⟨s1.heap.objs.size+4,_,_,_,H1,rfl,I1.kept (t':=s1.toks) λb o e=>y7 b o e,Ag D,⟨y1,y2,⟨_,_,y3⟩,y4,y5⟩,λc hc=>?_,post H1 m1 _ x1 R1 (FZ z1 z2)⟩;have hle:s1.heap.objs.size<=c:=by
    simp only[Uh,TR,or_false] at hc;rcases hc with rfl|rfl|rfl|rfl|rfl
    exact Uq _ _;exact Uq _ _;exact Uq _ _;exact SY _;exact Uq _ _
   exact I1.zF hle (I1.hok.fresh hle)
  | _=>exact BT.dS hz
noncomputable def Itc (x:az):It:=⟨λi _=>i < x.cps.size,λi H v H'=>H'=H/\∃ c,x.cps[i]?=aa c/\v=.str ⟨#[c]⟩,λi _=>x.cps.size<=i⟩
theorem Cq (it:S6) (x:az) (t:Tok):Turn P w K tg (Itc x) [it] it (λi h=>h.IsStrIter it (Tt x) x t i) where
 mem:=by simp
 obj:=λi h st b hb=>by
  have e:b=it:=by simpa using hb
  subst e;obtain ⟨o,e,c,d⟩:=st;exact ⟨o,e,λv z=>by rw[d] at z;cases z⟩
 keep:=λi h h' st k=>let ⟨q,e,r⟩:=st;⟨q,k it (by simp) q e,r⟩
 item:=by
  intro X hP hw hK hc i zt s σ H E I hf st hg;subst hP hw hK;obtain ⟨f0,f1,f2,f3,f4,f5⟩:=hf it (by simp);have fin:∀ {ty:String}{v:aA}{h':au}{tk:Nat},Tt x=ty->(["enumerate","zip","dict_itemiterator","dict_reverseitemiterator","odict_iterator","itertools.zip_longest","itertools.pairwise"].contains ty=ai)->(∃ c u,x.cps[i]?=aa c/\v=.str ⟨#[c]⟩ u)->h'.IsStrIter it ty x t (i+1)->(∀ b o,b∉[it]->s.heap.get? b=aa o->h'.get? b=aa o) →
   ∃ u,aa v=aa u/\ay (Ti X.prog X.w) X.A (VB tg (.ref it) u) (λ_ s2=>∃ x' H',Inv X zt σ H' s2/\RelV x' u/\(Itc x).yld i H x' H'/\s2.heap.IsStrIter it (Tt x) x t (i+1)/\∀ b∈[it],H' b=af) E { s with heap:=h',toks:=tk }:=by
   intro ty v h' tk ety hn hv st' kk;obtain ⟨c,u,hc,rfl⟩:=hv;have I1:Inv X zt σ H { s with heap:=h',toks:=tk }:=I.turned (λb o hb e=>kk b o (by simpa using hb) e) f0 f1 f3 f4 f5;obtain ⟨o,e,c',d⟩:=id st';refine ⟨_,rfl,tR (s:={ s with heap:=h',toks:=tk }) (n:=ty) e c' d hn ⟨.str ⟨#[c]⟩,H,I1,⟨u,rfl⟩,⟨rfl,c,hc,rfl⟩,by rw[ety];exact st',λb hb=>(hf b hb).1⟩⟩
  have st:s.heap.IsStrIter it (Tt x) x t i:=st;cases ha:x.cps.all (· < 128) with
  | true =>
   have ey:Tt x="str_ascii_iterator":=by unfold Tt;rw[if_pos ha]
   rw[ey] at st;exact (Walks.strAscii (prog:=X.prog) (w:=X.w) (I.ok.hd hc) it x t).item i s _ _ hg st λv h' tk hv st' kk=>fin ey (by decide) hv st' kk
  | false =>
   have ey:Tt x="str_iterator":=by unfold Tt;rw[if_neg (by rw[ha];decide)]
   rw[ey] at st;exact (Walks.strWide (prog:=X.prog) (w:=X.w) (I.ok.hd hc) it x t).item i s _ _ hg st λv h' tk hv st' kk=>fin ey (by decide) hv st' kk
 done:=by
  intro X hP hw hK hc i zt s σ H E I hf st hg;subst hP hw hK;obtain ⟨f0,f1,f2,f3,f4,f5⟩:=hf it (by simp);have st:s.heap.IsStrIter it (Tt x) x t i:=st;have hi:x.cps[i]?=af:=Array.getElem?_eq_none hg;cases ha:x.cps.all (· < 128) with
  | true =>
   have ey:Tt x="str_ascii_iterator":=by unfold Tt;rw[if_pos ha]
   rw[ey] at st;exact wpAny_pyNext_ascii_end (I.ok.hd hc) st hi λh' eb=>⟨rfl,I.turned (t':=s.toks) (λb o hb e=>eb b o hb e) f0 f1 f3 f4 f5⟩
  | false =>
   have ey:Tt x="str_iterator":=by unfold Tt;rw[if_neg (by rw[ha];decide)]
   rw[ey] at st;exact wpAny_pyNext_wide_end (I.ok.hd hc) st hi λh' eb=>⟨rfl,I.turned (t':=s.toks) (λb o hb e=>eb b o hb e) f0 f1 f3 f4 f5⟩
 self:=λ_ _ s _ _ st h=>by
  have st:s.heap.IsStrIter it (Tt x) x t _:=st;cases ha:x.cps.all (· < 128) with
  | true =>
   have ey:Tt x="str_ascii_iterator":=by unfold Tt;rw[if_pos ha]
   rw[ey] at st;exact wpAny_pyIter_striter_ascii st h
  | false =>
   have ey:Tt x="str_iterator":=by unfold Tt;rw[if_neg (by rw[ha];decide)]
   rw[ey] at st;exact wpAny_pyIter_striter_wide st h
theorem JK (ok:PyData.strOk x=ah):qb K (Itc x) m0 H0 (BT.nG x) C:=by refine ⟨λm H hh i _ _ _ hi=>by rw[nU] at hi;exact hi,λm H hh i v H' d _ RR _ hd y=>?_,λm H _ _ _ _=>by rw[nU];exact SY _⟩;obtain ⟨rfl,c,h1,rfl⟩:=y;obtain ⟨c',h2,rfl⟩:=Co hd;rw[h1] at h2;cases h2;exact ⟨.refl _ _,λ_ _ e=>e,.str _ (mS ok (Array.mem_toList_iff.mpr (Yz h1)))⟩
theorem JL (he:PE X x (tD X F G a)):PI X tg x (iD X F G .chs (.cons a .nil)):=by
 intro zt s σ H R I q;obtain ⟨m,s',h,ws,h',ds,RR,S,e,e2,ha,post⟩:=q;obtain ⟨w,rfl,e4⟩:=nR e;obtain ⟨y,rfl,rfl⟩:∃ y,w=.p (.str y)/\ds=BT.nG y:=by
  have hp:=ha.p (λz=>by cases z);cases w with
  | p d =>
   rw[show ([BT.W.p d]:List BT.W)=[d].map BT.W.p from rfl,vV,Ue] at e2;cases d with
   | str y=>cases e2;exact ⟨y,rfl,rfl⟩| _=>exact cS e2
  | _=>exact BT.dS hp
 refine thn (he zt s σ H (λv H1=>∃ m1,v=.str y/\PyData.strOk y=ah/\Ext m H m1 H1/\RH X.K m1 H1 h') I ⟨m,s',h,_,h',RR,S,e4,λv H1 m1 x1 R1 r1=>?_⟩) λv s1 ⟨x,H1,I1,r1,q1⟩=>?_
 ·cases r1 with
  | p r1 =>
   cases r1 with
   | str _ ok=>exact ⟨m1,rfl,ok,x1,R1⟩
 ·obtain ⟨m1,rfl,ok,x1,R1⟩:=q1;obtain ⟨t,rfl⟩:=r1;refine wpAny_pyIter_strU ?_;refine ⟨s1.heap.objs.size,[s1.heap.objs.size],_,_,H1,rfl,I1.kept (t':=s1.toks) λb o e=>SH _ e,Cq _ y t,⟨_,Th _ rfl,rfl,rfl⟩,λb hb=>?_,post H1 m1 _ x1 R1 (JK ok)⟩;have e:b=s1.heap.objs.size:=by simpa using hb
  subst e;exact I1.zF (SY _) (I1.hok.fresh (SY _))
end
section
variable {prog:Td}{w:Tz}{A:Ub}{E:aA->SL->Prop}{s:SL}
theorem F2 (n:Nat):Up af af (-1) (n:Int)=((n:Int) - 1,-1):=by
 unfold Up;have h1:((-1:Int) < 0):=by decide
 simp only[h1,if_true]
theorem vZ (n:Nat):TY ((n:Int) - 1) (-1) (-1)=n:=by
 unfold TY;have h1:¬ ((-1:Int) > 0):=by decide
 simp only[h1,if_false];have:(-(-1:Int))=1:=by decide
 rw[this,Int.ediv_one];split<;>lia
theorem uF {n:Nat} (hs:s.heap.IsSliceOf sl .none .none (.int (-1) u)) (h:Q ((n:Int) - 1,-1,n) s) :
 ay (Ti prog w) A (UY (.ref sl) (pure (n:Int))) Q E s:=by
 obtain ⟨os,hos,hcs,hds⟩:=id hs;unfold UY W2;refine SD (SD (T9 hos hds (x:=.none) rfl (SD (T9 hos hds (x:=.none) rfl (SD (T9 hos hds (x:=.int (-1) u) rfl (av ?_)))))));refine SD (slicePart_int ?_);show ay _ _ (if ((-1:Int)==0)=ah then _ else _) _ _ s;rw[if_neg (by decide)];refine SD (W7 (SD (W7 (SD (av ?_)))));show ay _ _ (match Up af af (-1) (n:Int) with|(lo,hi)=>pure (lo,(-1:Int),TY lo hi (-1))) _ _ s;rw[F2 n];show ay _ _ (pure ((n:Int) - 1,(-1:Int),TY ((n:Int) - 1) (-1) (-1))) _ _ s;rw[vZ n];exact av h
theorem Cr (xs:List aA):((U0 xs.length).filterMap λ(k:Nat)=>xs.toArray[((xs.length:Int) - 1+(k:Int)*(-1)).toNat]?).toArray=xs.reverse.toArray:=by
 congr 1;have gen:∀ l:List Nat,(∀ k∈l,k < xs.length)->l.filterMap (λ(k:Nat)=>xs.toArray[((xs.length:Int) - 1+(k:Int)*(-1)).toNat]?)=l.map λk=>xs.getD (xs.length - 1 - k) .none:=by
  intro l
  induction l with
  | nil=>intro _;rfl
  | cons k l ih =>
   intro h;have hk:=h k SG;rw[VW,Tw,ih λy hy=>h y (SI _ hy),show ((xs.length:Int) - 1+(k:Int)*(-1)).toNat=xs.length - 1 - k by lia,YC,X6,Tc (by lia)];rfl
 rw[gen _ λk hk=>List.mem_range.mp hk];refine List.ext_getElem? λi=>?_;rw[Uu]
 by_cases c:i < xs.length
 rw[YY c,YD c,Vq,X6,Tc (by lia)];rfl;rw[Tv (by simpa using c),Tv (by simpa using c)];rfl
theorem F3 {t sl:S6}{xz:List aA}{u:Tok}{Q:aA->SL->Prop} (ht:IsTup s.heap t xz.toArray) (hs:s.heap.IsSliceOf sl .none .none (.int (-1) u))
 (h:Q (.ref s.heap.objs.size) { s with heap:=s.heap.push { cls:=.type "tuple",data:=.seq xz.reverse.toArray } })
 (hsz:xz.length<=ak):ay (Ti prog w) A (WH (.ref t) (.ref sl)) Q E s:=by
 have hdrop:sizeOk (.seq xz.reverse.toArray):=by show xz.reverse.toArray.size<=ak;rw[SQ,WV];exact hsz
 obtain ⟨os,hos,hcs,hds⟩:=id hs;have hTs:s.TypeIs (.ref sl) "slice":=⟨os,hos,hcs⟩;unfold WH
 try with_reducible refine Ul ?_
 first|refine SD (av ?_)|skip
 refine SD (XJ ht.typeIs (by decide) ?_);refine SD (Ur (name:=SE "__getitem__") ht.typeIs T7
  (U4 T7 ht.typeIs Xe ?_ (Xr _ _)))
 show ay _ _ (VG (.ref t) >>= _) _ _ s;refine SD (Y5 ht ?_);refine SD (X9 hTs ?_);rw[if_pos (by decide)];refine SD (uF hs ?_);rw[SQ];show ay _ _ (if (((xz.length:Int) - 1)==0&&(-1:Int)==1&&xz.length==xz.toArray.size)=ah then _ else _) _ _ s;rw[if_neg (by simp),Cr xz]
 first
  | exact SD (m:=T3 _) (T6 (av ⟨_,rfl,av h⟩) hdrop)
  | exact SD (m:=T3 _) (T6 (SD (av (av ⟨_,rfl,av h⟩))) hdrop)
  | exact SD (SD (m:=T3 _) (T6 (av (av ⟨_,rfl,av h⟩)) hdrop))
  | exact SD (SD (m:=T3 _) (T6 (av ⟨_,rfl,av h⟩) hdrop))
end
section
variable {F:FT}{G:az->Option BT.W}
theorem Ct (r:dD vs us):dD vs.reverse us.reverse:=by
 induction r with
 | nil=>exact .nil| cons q _ ih=>rw[Wd,Wd];exact ih.append (.cons q .nil)
theorem F4 (r:RDs K m H vs ds):RDs K m H vs.reverse ds.reverse:=by
 induction vs generalizing ds with
 | nil=>cases r;exact .nil
 | cons v vs ih =>
  cases r with
  | cons a t=>rw[Wd,Wd];exact (ih t).append (.cons a .nil)
theorem JM (ha:PE X x (tD X F G a)) (hs:PE X (.UnaryOp .USub (.Constant (.int 1) c p1) p3) (tC (.int (-1)))):PE X (.Subscript x (.Slice af af (aa (.UnaryOp .USub (.Constant (.int 1) c p1) p3)) p2) p) (tD X F G (.rvs a)):=by
 intro zt s σ H Q I q;obtain ⟨m,sl,h,z,h',R,S,ee,post⟩:=q;simp only[BT.ev] at ee;obtain ⟨w,h1,e1,e2⟩:=cW ee;obtain ⟨xs,rfl,rfl,rfl⟩:∃ xs,w=.p (.tup xs)/\z=.p (.tup xs.reverse)/\h'=h1:=by
  cases w with
  | p d =>
   cases d with
   | tup xs=>cases e2;exact ⟨xs,rfl,rfl,rfl⟩| _=>exact cS e2
  | _=>exact cS e2
 refine XX (thn (ha zt s σ H (λv H1=>∃ m1 b vs,v=.ref b/\Ext m H m1 H1/\RH X.K m1 H1 h'/\SqT X.K H1 b vs/\RDs X.K m1 H1 vs xs) I ⟨m,sl,h,_,h',R,S,e1,λv H1 m1 x1 R1 r1=>?_⟩) λv s1 ⟨y,H1,I1,r1,m1,b,vs,ey,x1,R1,hq,rr⟩=>?_)
 ·cases r1 with
  | p r1 =>
   cases r1 with
   | @tup b vs _ hb r=>exact ⟨m1,b,vs,rfl,x1,R1,hb.elim (λq=>.inl q.1) λ⟨o,its,n,q,_⟩=>.inr ⟨o,its,n,q⟩,r⟩
 ·subst ey;cases r1;refine wpAny_Slice ?_;rw[Xo];refine av (av ?_);rw[Za];refine thn (hs zt s1 σ H1 (λv H'=>v=.int (-1)/\H'=H1) I1 ⟨rfl,rfl⟩) λu3 s3 zq=>?_;obtain ⟨y,H3,I3,r3,hy,hh⟩:=zq;subst hy hh;obtain ⟨t,rfl⟩:=r3;have I4:Inv X zt σ H3 { s3 with heap:=s3.heap.push { cls:=.type "slice",data:=.fields #[.none,.none,.int (-1) t] } }:=I3.kept (t':=s3.toks) λb ob q=>SH _ q;obtain ⟨its,rv,pt,hz⟩:=I4.tuple hq;have hlen:=rv.length;have hg:ay (Ti X.prog X.w) X.A (WH (.ref b) (.ref s3.heap.objs.size)) (EP X zt σ Q) X.xe { s3 with heap:=s3.heap.push { cls:=.type "slice",data:=.fields #[.none,.none,.int (-1) t] } }:=by refine F3 pt (Wm ..) ?_ (by lia);refine ⟨.ref _,_,I4.laid (t':=s3.toks) (o:=.tup vs.reverse) (λb ob q=>SH _ q) (SY _) ⟨by rw[WV];lia,its.reverse,Ct rv,IsTup.new _ _⟩,rfl,jV R1 (I4.hok.fresh (SY _)) (F4 rr) λv5 H5 m5 x5 R5 r5=>post v5 H5 m5 (x1.trans x5) R5 r5⟩
  show ay (Ti X.prog X.w) X.A (Xm x _ (.ref b) (.ref s3.heap.objs.size)) (EP X zt σ Q) X.xe _;exact Yq (ops:=[.ref b,.ref s3.heap.objs.size]) pt.typeIs PyProof.Rows.slot_tuple_getitem.lookup hg (by with_unfolding_all rfl)
end
theorem F5 (x:az) (u:Option Int):To af u 1 x.length=To (aa ((0:Nat):Int)) u 1 x.length:=by
 unfold To;have e:max 0 (min (if ((0:Nat):Int) < 0 then ((0:Nat):Int)+(x.length:Int) else ((0:Nat):Int)) (x.length:Int))=0:=by rw[if_neg (by decide)];lia
 simp only[gt_iff_lt,X7,if_true,e]
theorem JN (x:az) (h:(x.length:Int) < i):To af (aa i) 1 x.length=To af (aa ((x.length:Nat):Int)) 1 x.length:=by
 unfold To;have e1:max 0 (min (if i < 0 then i+(x.length:Int) else i) (x.length:Int))=(x.length:Int):=by rw[if_neg (by lia)];lia
 have e2:max 0 (min (if ((x.length:Nat):Int) < 0 then ((x.length:Nat):Int)+(x.length:Int) else ((x.length:Nat):Int)) (x.length:Int))=(x.length:Int):=by rw[if_neg (by lia)];lia
 simp only[gt_iff_lt,X7,if_true,e1,e2]
theorem su {x y:az} (h:x.cps.toList=y.cps.toList):x=y:=by obtain ⟨a⟩:=x;obtain ⟨b⟩:=y;have:a=b:=Array.toList_inj.mp h;rw[this]
theorem o8 (x:az) {b:Nat} (h:b<=x.length):Txt.slice x af (aa (b:Int))=⟨x.cps.extract 0 b⟩:=by have e:=StrLaws.sliceText_nat x (UK b) h;unfold StrLaws.sliceText at e;unfold Txt.slice;rw[F5 x,e];apply su;simp
theorem JO (x:az) {i:Int} (h:0<=i):Txt.slice x af (aa i)=⟨x.cps.extract 0 i.toNat⟩:=by
 by_cases c:i<=(x.length:Int)
 ·have:=o8 x (b:=i.toNat) (by lia);rw[Zm h] at this;exact this
 ·have e:=o8 x (SY _);unfold Txt.slice at e ⊢;rw[JN x (by lia),e];apply su;have:x.cps.toList.length<=i.toNat:=by
   have:x.cps.toList.length=x.length:=by simp[VT]
   lia
  have l2:x.cps.toList.length<=x.length:=by simp[VT]
  simp only[YE,Ye,VD,Nat.sub_zero];rw[VA this,VA l2]
theorem F6 (x:az):Txt.slice x af (aa (-1))=⟨x.cps.extract 0 (x.length - 1)⟩:=by
 have e:=o8 x (b:=x.length - 1) (Nat.sub_le _ _);unfold Txt.slice at e ⊢;have e0:To af (aa (-1)) 1 x.length=To af (aa ((x.length - 1:Nat):Int)) 1 x.length:=by
  unfold To;have e1:max 0 (min (if (-1:Int) < 0 then -1+(x.length:Int) else -1) (x.length:Int))=((x.length - 1:Nat):Int):=by rw[if_pos (by decide)];lia
  have e2:max 0 (min (if ((x.length - 1:Nat):Int) < 0 then ((x.length - 1:Nat):Int)+(x.length:Int) else ((x.length - 1:Nat):Int)) (x.length:Int))=((x.length - 1:Nat):Int):=by rw[if_neg (by lia)];lia
  simp only[gt_iff_lt,X7,if_true,e1,e2]
 rw[e0,e]
section
variable {X:Cx}{F:FT}{G:az->Option BT.W}
theorem F7 (e:BT.txD .pre ds=aa d):∃ x i,∃ k:Nat,ds=[.str x,.int i]/\(Txt.slice x af (aa i)=⟨x.cps.extract 0 k⟩/\x.length<=BT.lim)/\d=.str ⟨x.cps.extract 0 k⟩:=by
 match ds,e with
 | [.str x,.int i],e =>
  simp only[BT.txD] at e;split at e
  ·rename_i c;exact ⟨x,i,_,rfl,⟨JO x c.1,c.2⟩,(S9 e).symm⟩
  ·split at e
   ·rename_i c;obtain ⟨rfl,c2⟩:=c;exact ⟨x,-1,_,rfl,⟨F6 x,c2⟩,(S9 e).symm⟩
   exact cS e
theorem JP (e:BT.rd w h=aa (.int i)):w=.p (.int i):=by
 cases w with
 | p d=>cases e;rfl
 | r n =>
  simp only[BT.rd] at e;obtain ⟨b,_,e2⟩:=dQ e;cases e2
 | _=>exact cS e
theorem JQ {a i:BT.E}{x u:SR}{p2 p:Pos} (ha:PE X x (tD X F G a)) (hi:PE X u (tD X F G i)):PE X (.Subscript x (.Slice af (aa u) af p2) p) (tD X F G (.tx .pre (.cons a (.cons i .nil)))):=by
 intro zt s σ H Q I q;have q:=oY σ H Q q;refine XX (thn (ha zt s σ H _ I q) λv s1 zq=>?_);obtain ⟨y,H1,I1,r1,q1⟩:=zq;refine wpAny_Slice ?_;rw[Xo];refine av ?_;rw[Za];refine thn (hi zt s1 σ H1 _ I1 q1) λvu s3 zq=>?_;obtain ⟨y2,H3,I3,r3,q3⟩:=zq;refine av ?_;obtain ⟨m,h,w1,w2,z,h',R,rx,ry,e,post⟩:=q3;obtain ⟨ds,d,e1,e2,rfl,rfl⟩:=gT (k:=.pre) (λq=>nomatch q) e;obtain ⟨sx,n,k,rfl,⟨c1,c2⟩,rfl⟩:=F7 e2;obtain ⟨d0,r0,g1,g2,g3⟩:=gh e1;cases g1;obtain ⟨d1,r1',g4,g5,g6⟩:=gh g3;cases g4;have ew:=kU g2;subst ew;have ew2:=JP g5;subst ew2;cases rx with
 | p rx =>
  cases rx with
  | str _ ok =>
   cases ry with
   | p ry =>
    cases ry;obtain ⟨t,rfl⟩:=r1;obtain ⟨tu,rfl⟩:=r3;have I4:Inv X zt σ H3 { s3 with heap:=s3.heap.push { cls:=.type "slice",data:=.fields #[.none,.int n tu,.none] } }:=I3.kept (t':=s3.toks) λb ob q=>SH _ q;have hsl:({ s3 with heap:=s3.heap.push { cls:=.type "slice",data:=.fields #[.none,.int n tu,.none] } }:SL).heap.IsSlice s3.heap.objs.size af (aa (n,tu)) af:=Wm ..;have lz:sx.length<=ak:=SZ c2 (by decide);have okp:PyData.strOk (⟨sx.cps.extract 0 k⟩:az)=ah:=by
     have:sx=(⟨sx.cps.extract 0 k⟩:az)++(⟨sx.cps.extract k sx.cps.size⟩:az):=by apply su;show sx.cps.toList=(sx.cps.extract 0 k++sx.cps.extract k sx.cps.size).toList;simp only[YN,YE,Ye,VD,Nat.sub_zero];rw[VA (l:=sx.cps.toList.drop k) (by rw[UD,Vn];exact SY _),TZ]
     rw[this] at ok;exact (vW ok).1
    have hg:ay (Ti X.prog X.w) X.A (WH (.str sx t) (.ref s3.heap.objs.size)) (EP X zt σ Q) X.xe { s3 with heap:=s3.heap.push { cls:=.type "slice",data:=.fields #[.none,.int n tu,.none] } }:=by
     refine wpAny_getItem_str_slice hsl rfl ?_;have e:=c1;unfold Txt.slice at e;unfold sliceMade;have e5:slicePicked sx af (aa (n,tu)) af=To af (aa n) 1 sx.length:=rfl;rw[e5];show Made.post (if ((1:Int)==1&&(To af (aa n) 1 sx.length).length==sx.length)=ah then _ else _) _ _;split
     ·rename_i c;rw[if_pos c] at e;rw[e];show EP X zt σ Q _ _;exact ⟨.str _,H3,I4,⟨t,rfl⟩,post.here R (.str _ okp)⟩
     ·rename_i c;rw[if_neg c] at e;rw[e];unfold Made.post;refine ⟨?_,.str _,H3,I4.tok _,⟨_,rfl⟩,post.here R (.str _ okp)⟩;show (sx.cps.extract 0 k).size<=ak;rw[Y3];have:sx.cps.size<=ak:=lz;lia
    show ay (Ti X.prog X.w) X.A (Xm x _ (.str sx t) (.ref s3.heap.objs.size)) (EP X zt σ Q) X.xe _;exact Yq (ops:=[.ref s3.heap.objs.size,.str sx t]) (typeIs_str _ _ _) PyProof.Rows.slot_str_getitem.lookup hg (by with_unfolding_all rfl)
end
noncomputable def dV:BT.D->V
 | .str x=>.str x| .int i=>.int i| _=>.non
theorem yg:∀ {kvs:List (az×BT.D)}{vs:List (aA×aA)},dlV kvs=ah->ReadAs vs (dlD kvs)->∃ ps,Carries (dB P w) vs ps/\KV (kvs.map λp=>((Sum.inr p.1:Key),dV p.2)) ps
 | [],vs,_,r=>by cases r;exact ⟨[],True.intro,.nil⟩
 | (x,d)::kvs,vs,h,r=>by
  have h:(PyData.strOk x&&Bq d&&dlV kvs)=ah:=h;simp only[SM] at h;obtain ⟨⟨h1,h2⟩,h3⟩:=h;have r:ReadAs vs ((PyData.str x,dlQ d)::dlD kvs):=r;cases r with
  | @cons k v _ _ vs _ fk fv r =>
   obtain ⟨ps,c,kv⟩:=yg (P:=P) (w:=w) h3 r;cases d with
   | str y =>
    have fv:YW v (.str y):=fv;obtain ⟨t1,rfl⟩:=fk.str_inv;obtain ⟨t2,rfl⟩:=fv.str_inv;exact ⟨(.inr x,_)::ps,⟨fF _ _ _ _,rfl,c⟩,.cons ⟨rfl,_,rfl⟩ kv⟩
   | int i =>
    have fv:YW v (.int i):=fv;obtain ⟨t1,rfl⟩:=fk.str_inv;obtain ⟨t2,rfl⟩:=fv.int_inv;exact ⟨(.inr x,_)::ps,⟨fF _ _ _ _,rfl,c⟩,.cons ⟨rfl,_,rfl⟩ kv⟩
   | _=>exact absurd (show ai=ah from h2) TJ
theorem v7 {K:SA}:∀ {kvs:List (az×BT.D)},dlV kvs=ah->RKs K m H (kvs.map λp=>((Sum.inr p.1:Key),dV p.2)) (kvs.map λp=>((.inr p.1:BT.Ky),p.2))
 | [],_=>.nil
 | (x,d)::kvs,h=>by
  have h:(PyData.strOk x&&Bq d&&dlV kvs)=ah:=h;simp only[SM] at h;obtain ⟨⟨h1,h2⟩,h3⟩:=h;cases d with
  | str y=>exact .cons (.str x h1) (.str y h2) (v7 h3)| int i=>exact .cons (.str x h1) (.int i) (v7 h3)| _=>exact absurd (show ai=ah from h2) TJ
section
variable {X:Cx}{F:FT}{G:az->Option BT.W}
theorem F8 (h1:litPairs keys values=aa (dlD kvs)) (h2:dlB kvs keys values=ah):PE X (.Dict keys values p) (tD X F G (.dlit kvs)):=by
 intro zt s σ H Q I q;obtain ⟨m,sl,h,z,h',R,S,ee,post⟩:=q;simp only[BT.ev] at ee;cases ee;simp only[dlB,SM,decide_eq_true_eq] at h2;obtain ⟨⟨⟨⟨⟨h3,h4⟩,h5⟩,h6⟩,h7⟩,kl⟩:=h2;have hp:H s.heap.objs.size=af:=I.hok.fresh (SY _);refine wpAny_Dict_walk (knd:=dB X.prog X.w) h4 h5 (λe=>by rw[e] at h6;exact absurd h6 (by decide)) h7 ?_;refine evalPairs_lits keys values (dlD kvs) _ _ h1 λvs tk r=>?_;obtain ⟨ps,c,kv⟩:=yg (P:=X.prog) (w:=X.w) h3 r;refine ⟨ps,c,Heap.DictOf.new s.heap,λh2 dd sb=>?_⟩;obtain ⟨k1,k2⟩:=B6 kv (v7 (K:=X.K) (m:=m) (H:=H) h3) (ws:=[]) (vs:=[]) (kvs:=[]) .nil .nil;have fl:=uy (kvs.map λp=>((Sum.inr p.1:Key),dV p.2)) [];have li:=fW;have li:100000<=ak:=li;rw[SJ,Uo] at fl;obtain ⟨ob,es,ep,ho,ra⟩:=id dd;have hk:∀ b o,s.heap.get? b=aa o->h2.get? b=aa o:=λb o e=>by have ne:b≠s.heap.objs.size:=Tn (SW e);rw[sb.2 b ne];exact SH _ e
 have x:Ext m H m (upd H s.heap.objs.size (.frz ob (.dK ((kvs.map λp=>((Sum.inr p.1:Key),dV p.2)).foldl (λc p=>putK c p.1 p.2) [])))):=iL hp;refine ⟨.ref s.heap.objs.size,_,I.laid (a:=s.heap.objs.size) (o:=.frz ob (.dK ((kvs.map λp=>((Sum.inr p.1:Key),dV p.2)).foldl (λc p=>putK c p.1 p.2) []))) (t':=tk+vs.length) hk (SY _) ⟨ho,IP (by lia) (beq_eq_false_iff_ne.mpr (UM (Tn I.big))) k1 dd⟩,rfl,?_⟩;exact post _ _ m x (R.ext x (vP hp)) (.kl ⟨fc,R.iW hp⟩ (k2.ext x))
end
section
theorem JR {X:Cx}{me:BT.Me} (hm:me=.append\/me=.pop\/me=.extend) {o:BT.E}:∀ (m:List S6) (h h2:BT.HH) (H:Hp) (v:V) (x:BT.W) ws r,RH X.K m H h->RW X.prog X.w X.K m H v x->BT.oM x h=ah->BT.meW me x ws h2=aa r->(∃ σ s,RS X.prog X.w X.K m H σ s/\∃ h0,BT.ev F G o s h0=aa (x,h))->tyV X.K "list" v H:=by intro m h h2 H v x ws r R rq ok e _;obtain ⟨n,rfl⟩:=QW hm e;exact ty_list R rq ok
theorem QZ (σ:L2.St) (H:Hp) (Q:Bool->Hp->Prop) (q:tDT X F G e σ H Q):tB (tD X F G e) σ H Q:=by obtain ⟨m,s,h0,b,h',R,S,ee,post⟩:=q;refine ⟨m,s,h0,_,h',R,S,ee,λv H' m' x R' r=>?_⟩;exact ⟨b,mU r,post H' m' x R'⟩
def XE (F:FT) (G:az->Option BT.W) (X:Cx) (e':BT.E) (e:SR):Prop:=PE X e (tD X F G e')/\(tOK e'=ah->PT X e (tDT X F G e')/\∀ op vs p,e=.BoolOp op vs p->PW X e (tDT X F G e'))
def XO (F:FT) (G:az->Option BT.W) (X:Cx) (es':BT.Es) (o:Option SR):Prop:=∃ t,PO X o t ∧
 ∀ σ H (Q:Option Int->Hp->Prop),(∃ m s h l zs h',RH X.K m H h/\RS X.prog X.w X.K m H σ s/\BT.evs F G es' s h=aa (zs,h')/\(BT.eW zs).bind BT.qZ=aa l/\∀ H' m',Ext m H m' H'->RH X.K m' H' h'->Q l H')->t σ H Q
theorem fQ (p:PE X e (tD X F G e')) (hb:∀ op vs q,e≠.BoolOp op vs q) (he:∀ whole,isTrue e X.env whole=(do let v ← whole;standAt e.pos;XR [v] (truthy v)):=by intro _;rfl):XE F G X e' e :=
 ⟨p,λ_=>⟨PT.weak (Ie p he) QZ,λop vs q z=>absurd z (hb op vs q)⟩⟩
theorem JS:XO F G X .nil af:=⟨_,EB,fun σ H Q q=>by obtain ⟨m,s,h,l,zs,h',R,S,e1,e2,post⟩:=q;simp only[BT.evs] at e1;cases e1;simp[BT.eW,BT.qZ] at e2;subst e2;exact post H m (.refl _ _) R⟩
theorem JT (ha:PE X e (tD X F G a)):XO F G X (.cons a .nil) (aa e):=by
 refine ⟨_,EC ha,fun σ H Q q=>?_⟩;obtain ⟨m,s,h,l,zs,h',R,S,e1,e2,post⟩:=q;simp only[BT.evs] at e1;obtain ⟨x,h1,e3,e4⟩:=cW e1;simp only[BT.oO,BT.cZ,BT.je] at e4;cases e4;refine ⟨m,s,h,x,h',R,S,e3,λv H1 m1 x1 R1 r1=>?_⟩;cases r1 with
 | p r =>
  cases r<;>simp[BT.eW,BT.qZ] at e2;subst e2;exact ⟨_,rfl,post H1 m1 x1 R1⟩
 | _=>simp[BT.eW] at e2
theorem jj (ha:PE X e (tD X F G a)) (hs:noStar e=ah):PA X [e] (tDs X F G (.cons a .nil)) :=
 PA.weak (gE ha mL (cY hs)) fun σ H Q q=>by obtain ⟨m,s,h,z0,h',R,S,ee,post⟩:=cons_of σ H Q q;exact ⟨m,s,h,z0,h',R,S,ee,λv H1 m1 x1 R1 r1=>nQ (post v H1 m1 x1 R1 r1)⟩
theorem Cu (ha:PE X e (tD X F G a)) (hb:PE X f (tD X F G b)) (hs:noStar e=ah) (hs2:noStar f=ah):PA X [e,f] (tDs X F G (.cons a (.cons b .nil))) :=
 PA.weak (gE ha (jj hb hs2) (cY hs)) cons_of
def Sq (sc:Um) (oe:SR) (o:BT.E):Prop:=∃ x p,o=.glo x/\oe=.Name x p/\d8 sc x=ah/\d7 x=ah
theorem sMe (O:Ok X F G sc N) (h1:vN m o=ah) (h2:name=Bo m) (h3:d9 oe=ah) (h6:(apos.endLine==cpos.line)=ah) (h7:es.length < 20) (ho:CE' sc N o oe) (ha:CEs sc N as es) (hO:PE X oe (tD X F G o)) (hA:PA X es (tDs X F G as)) :
 PE X (.Call (.Attribute oe name apos) es [] cpos) (tD X F G (.me m o as)):=by
 subst h2;cases m with
 | append=>exact vU (sc:=sc) (N:=N) Vp XC XA zZ h3 h6 h7 hO ha hA (JR (.inl rfl))| pop=>exact vU (sc:=sc) (N:=N) Vp PySem.F.slot_list_pop PySem.F.type_list_pop Jl h3 h6 h7 hO ha hA (JR (.inr (.inl rfl)))| extend=>exact vU (sc:=sc) (N:=N) Vp PySem.F.slot_list_extend PySem.F.type_list_extend Aa h3 h6 h7 hO ha hA (JR (.inr (.inr rfl)))| _=>simp[vN] at h1
theorem Ny (pe:PE X (.BoolOp .And (x::r) p) (tD X F G (.and a b))) (w:tOK (.and a b)=ah->PW X (.BoolOp .And (x::r) p) (tDT X F G (.and a b))):XE F G X (.and a b) (.BoolOp .And (x::r) p) :=
 ⟨pe,λht=>⟨(w ht).pt,λ_ _ _ e=>by cases e;exact w ht⟩⟩
theorem sOr (pe:PE X (.BoolOp .Or (x::r) p) (tD X F G (.or a b))) (w:tOK (.or a b)=ah->PW X (.BoolOp .Or (x::r) p) (tDT X F G (.or a b))):XE F G X (.or a b) (.BoolOp .Or (x::r) p) :=
 ⟨pe,λht=>⟨(w ht).pt,λ_ _ _ e=>by cases e;exact w ht⟩⟩
theorem nV (h:tOK (.and a b)=ah):tOK a=ah/\tOK b=ah:=by have h:(tOK a&&tOK b)=ah:=h;simpa only[SM] using h
theorem sA (h:tOK (.or a b)=ah):tOK a=ah/\tOK b=ah:=by have h:(tOK a&&tOK b)=ah:=h;simpa only[SM] using h
noncomputable def MX (F:FT) (G:az->Option BT.W) (sc:Um) (N:List az):Tq->Prop
 | .e e' e=>∀ (X:Cx),Ok X F G sc N->XE F G X e' e| .es as es=>∀ (X:Cx),Ok X F G sc N->PA X es (tDs X F G as)| .o es' o=>∀ (X:Cx),Ok X F G sc N->XO F G X es' o| .c cond ifs=>o7 F G sc N cond ifs| .i sr sa iter=>∀ (X:Cx),Ok X F G sc N->∀ (tg:SR),nk sr tg=ah->PI X tg iter (iD X F G sr sa)
theorem sQ (h:CQ sc N t):MX F G sc N t:=by
 refine @CQ.rec (λsc N t _=>MX F G sc N t)
  (λh1 h2 h3 X O=>fQ (Fb O h1 h2 h3) (λ_ _ _ z=>nomatch z))
  (λh X O=>fQ (Fc h) (λ_ _ _ z=>nomatch z))
  (λh2 h3 X O=>fQ (Fd O h2 h3) (λ_ _ _ z=>nomatch z))
  (λh _ _ ia ib X O=>fQ (PE.weak (LP (opB h) (ia _ O).1 (ib _ O).1) (rX λs h=>by simp only[BT.ev])) (λ_ _ _ z=>nomatch z))
  (λ_ ia X O=>fQ (PE.weak (G6 AV (ia _ O).1) Jt) (λ_ _ _ z=>nomatch z))
  (λ_ ia X O=>⟨PE.weak (Ii (ia _ O).1) Fj,λht=>⟨PT.weak (Ih ((ia _ O).2 ht).1) Fi,λ_ _ _ e=>nomatch e⟩⟩)
  (λ_ _ ia ib X O=>Ny (PE.weak (AK (ia _ O).1 (AJ (ib _ O).1)) xP) λht=>PW.weak (AI ((ia _ O).2 (nV ht).1).1 (En ((ib _ O).2 (nV ht).2).1)) xQ)
  (λ_ _ ia ib X O=>Ny (PE.weak (AK (ia _ O).1 (ib _ O).1) xP) λht=>PW.weak (AI ((ia _ O).2 (nV ht).1).1 (((ib _ O).2 (nV ht).2).2 _ _ _ rfl)) xQ)
  (λ_ _ ia ib X O=>sOr (PE.weak (G5 (ia _ O).1 (AJ (ib _ O).1)) BU) λht=>PW.weak (G2 ((ia _ O).2 (sA ht).1).1 (Ig ((ib _ O).2 (sA ht).2).1)) BV)
  (λ_ _ ia ib X O=>sOr (PE.weak (G5 (ia _ O).1 (ib _ O).1) BU) λht=>PW.weak (G2 ((ia _ O).2 (sA ht).1).1 (((ib _ O).2 (sA ht).2).2 _ _ _ rfl)) BV)
  (λh _ _ hm ia ib X O=>⟨PE.weak (qS (opC O h) (ia _ O).1 (ib _ O).1 hm) (rX λs h=>by simp only[BT.ev]),λ_=>⟨PT.weak (qT (opC O h) (ia _ O).1 (ib _ O).1 hm) (lS (rX λs h=>by simp only[BT.ev])),λ_ _ _ e=>nomatch e⟩⟩)
  (λh h' _ _ _ hm ia ib ic X O=>⟨PE.weak (AY (opC O h) (opC O h') (ia _ O).1 (ib _ O).1 (ic _ O).1 hm) uw,λ_=>⟨PT.weak (AZ (opC O h) (opC O h') (ia _ O).1 (ib _ O).1 (ic _ O).1 hm) (lS uw),λ_ _ _ e=>nomatch e⟩⟩)
  (λh _ _ _ ic ia ib X O=>⟨PE.weak (AM ((ic _ O).2 h).1 (ia _ O).1 (ib _ O).1) Js,λht=>nomatch ht⟩)
  (λ_ ia X O=>⟨PE.weak (IB (ia _ O)) Jw,λht=>nomatch ht⟩)
  (λ_ ia X O=>⟨PE.weak (IC (ia _ O)) Jx,λht=>nomatch ht⟩)
  (λ_ _ hs ia ii X O=>fQ (PE.weak (L1 Jk (ia _ O).1 (ii _ O).1 (BO hs)) (rX λs h=>by simp only[BT.ev])) (λ_ _ _ z=>nomatch z))
  (λ_ _ _ ia il iu X O=>fQ (by
   obtain ⟨tl,hl1,hl2⟩:=il _ O;obtain ⟨tu,hu1,hu2⟩:=iu _ O;exact PE.weak (A6 osl (ia _ O).1 hl1 hu1) (Ju hl2 hu2)) (λ_ _ _ z=>nomatch z))
  (λhg hn ha ia X O=>fQ (BW O hg hn ha (ia _ O)) (λ_ _ _ z=>nomatch z))
  (λhu hb hg hs _ ia X O=>fQ (Jv O hu hb hg (by simp[dm,hs]) (jj (ia _ O).1 hs)) (λ_ _ _ z=>nomatch z))
  (λhb hg hg2 hs _ ia X O=>fQ (BY O hb hg hg2 hs (ia _ O).1) (λ_ _ _ z=>nomatch z))
  (λhx hn hg hg2 hs _ ia X O=>fQ (Ft O hx hn hg hg2 hs (ia _ O).1) (λ_ _ _ z=>nomatch z))
  (λh1 h2 h3 h6 h7 ho ha io ia X O=>fQ (sMe O h1 h2 h3 h6 h7 ho ha (io _ O).1 (ia _ O)) (λ_ _ _ z=>nomatch z))
  (λhu hk ht hz hs _ _ _ ii ic ie X O=>⟨FH O hu hk ht hs (ii _ O _ hz) ic λX' O'=>(ie _ O').1,λht=>nomatch ht⟩)
  (λ_ ia X O=>fQ (JM (ia _ O).1 (PE.weak (G6 AV AH) fun σ H Q q=>⟨_,rfl,q⟩)) (λ_ _ _ z=>nomatch z))
  (λh3 h6 hs _ _ io ia X O=>fQ (rZ Yd PySem.F.slot_str_join PySem.F.type_str_join (ty_str (k:=.join) (λq=>nomatch q) λds d e=>let ⟨x,ys,ts,h,_⟩:=uA e;⟨x,_,h⟩) FF h3 h6 (by simp[dm,hs]) (by simp) (io _ O).1 (jj (ia _ O).1 hs)) (λ_ _ _ z=>nomatch z))
  (λh3 h6 hs _ _ io ia X O=>fQ (rZ Yd PySem.F.slot_str_split PySem.F.type_str_split (ty_str (k:=.split) (λq=>nomatch q) λds d e=>let ⟨x,y,h,_⟩:=qz e;⟨x,_,h⟩) B7 h3 h6 (by simp[dm,hs]) (by simp) (io _ O).1 (jj (ia _ O).1 hs)) (λ_ _ _ z=>nomatch z))
  (λh3 h6 hs _ _ io ia X O=>fQ (rZ X3 U3 Yk ty_dict Ce h3 h6 (by simp[dm,hs]) (by simp) (io _ O).1 (jj (ia _ O).1 hs)) (λ_ _ _ z=>nomatch z))
  (λh3 h6 hs hs2 _ _ _ io ia ib X O=>fQ (rZ X3 U3 Yk ty_dict Ce h3 h6 (by simp[dm,hs,hs2]) (by simp) (io _ O).1 (Cu (ia _ O).1 (ib _ O).1 hs hs2)) (λ_ _ _ z=>nomatch z))
  (λhg hs _ ia X O=>fQ (PE.weak (gZ JD (eX O hg) (O.blt _ (by decide)) (by decide +kernel) (jj (ia _ O).1 hs) (by decide) (by decide) (cY hs) rfl) fun σ H Q z=>B8 z) (λ_ _ _ z=>nomatch z))
  (λhg hs _ ia X O=>fQ (PE.weak (gZ JE (eX O hg) (O.blt _ (by decide)) (by decide +kernel) (jj (ia _ O).1 hs) (by decide) (by decide) (cY hs) rfl) fun σ H Q z=>B8 z) (λ_ _ _ z=>nomatch z))
  (λhu hg hs _ ia X O=>fQ (PE.weak (jC (JF (O.calm hu)) (eX O hg) (O.blt _ (by decide)) (by decide +kernel) (jj (ia _ O).1 hs) (by decide) (by decide) (cY hs) rfl) fun σ H Q z=>B8 z) (λ_ _ _ z=>nomatch z))
  (λ_ _ hm ia ib X O=>⟨PE.weak (qS Hw (ia _ O).1 (ib _ O).1 hm) oY,λ_=>⟨PT.weak (qT Hw (ia _ O).1 (ib _ O).1 hm) (lS oY),λ_ _ _ e=>nomatch e⟩⟩)
  (λ_ _ hm ia ib X O=>⟨PE.weak (qS Cb (ia _ O).1 (ib _ O).1 hm) oY,λ_=>⟨PT.weak (qT Cb (ia _ O).1 (ib _ O).1 hm) (lS oY),λ_ _ _ e=>nomatch e⟩⟩)
  (λ_ _ ia ib X O=>fQ (JQ (ia _ O).1 (ib _ O).1) (λ_ _ _ z=>nomatch z))
  (λh1 h2 X O=>fQ (F8 h1 h2) (λ_ _ _ z=>nomatch z))
  (λX O=>PA.weak mL fun σ H Q q=>nQ q)
  (λhs _ _ ia ir X O=>PA.weak (gE (ia _ O).1 (ir _ O) (cY hs)) cons_of)
  (λX O=>JS)
  (λ_ ia X O=>JT (ia _ O).1)
  (.inl ⟨rfl,rfl⟩)
  (λht _ ia=>.inr ⟨_,_,rfl,rfl,λX' O'=>((ia _ O').2 ht).1⟩)
  (λhg hs _ ia X O _ _=>B5 O hg hs (jj (ia _ O).1 hs))
  (λhg hs _ ia X O _ _=>Fy O hg hs (ia _ O).1)
  (λ_ ia X O _ _=>JL (ia _ O).1)
  (λhg hs hs2 _ _ ia ib X O _ hz=>F0 O hz hg hs hs2 (Cu (ia _ O).1 (ib _ O).1 hs hs2))
  (λ_ ia X O _ _=>Fx (ia _ O).1)
  sc N t h
theorem sE (h:CE' sc N e' e) (O:Ok X F G sc N):PE X e (tD X F G e'):=(sQ h X O).1
theorem sT (h:CE' sc N e' e) (O:Ok X F G sc N) (ht:tOK e'=ah):PT X e (tDT X F G e')/\∀ op vs p,e=.BoolOp op vs p->PW X e (tDT X F G e'):=(sQ h X O).2 ht
theorem sCC {cond:BT.Es} (h:CC sc N cond ifs):o7 F G sc N cond ifs:=sQ h
theorem sCI (h:CI sc N sr sa iter) (O:Ok X F G sc N) (hz:nk sr tg=ah):PI X tg iter (iD X F G sr sa):=sQ h X O tg hz
end
structure Made (X:Cx) (zt:List (S6×aq)) (σ:L2.St) (m:List S6) (H:Hp) (h:BT.HH) (q:az) (pa:Xz) (be:SR) (sc:Um) (cl:List (az×S6)) (f:S6) (H3:Hp) (s3:SL):Prop where
 inv:Inv X zt σ H3 s3
 ext:Ext m H m H3
 rh:RH X.K m H3 h
 ex:∃ pm ctv c' oc os t,Tr m H3 f (Zg "<lambda>" q pa be sc cl pm c' ctv)/\Tr m H3 c' oc/\oc.data=.fields os/\os[1]?=aa (.str q t)
end BS
end
section
namespace BS
open PySem PySem.Spec PyProof.Rows L2
open Classical in
section
end
section
variable {F:FT}{G:az->Option BT.W}
section
variable {X:Cx}{cl:List (az×S6)}{H3 H5:Hp}{s3 s5:SL}{m2 m5:List S6}
end
end
end BS
end
section
namespace BS
open PySem PySem.Spec PyProof.Rows L2
variable {K:SA}{st:Tg}
noncomputable def mW:SR->Bool
 | .ListComp _ _ _ _=>ai| .SetComp _ _ _ _=>ai| .DictComp _ _ _ _ _=>ai| _=>ah
noncomputable def swB (sc scope:Um) (x:az) (np pos:Pos):Bool :=
 (if sc.kind.isAnnotationScope then ScopeKind.function else sc.kind)==.function&&sc.names.lookup x==aa .local&&np.line==pos.line&&!(scope.names.any λ(n,k)=>n==x&&(k==.local||k==.cell))
mutual
inductive CS (sc:Um) (N:List az):BT.S->Tg->Prop where
 | setc {i:Nat}{x:az}{mu:Bool}{sr:BT.Sr}{sa:BT.Es}{tg:List az}{fv:List (Nat×az)}{cond:BT.Es}{elt:BT.E}{te iter elt':SR}{ifs:List SR}{scope:Um}{pos np p:Pos} (hu:gq N=ah) (h1:N[i]?=aa x) (h3:(sc.names.lookup x==aa .cell||swB sc scope x np pos)=ah)
  (hk:jf sc N tg fv scope=ah) (ht:oQ (dW scope sc) tg te=ah) (hz:nk sr te=ah) (hs:iR iter=ah) (hi:CI sc N sr sa iter) (hc:CC (dW scope sc) (tg++fv.map (·.2)) cond ifs) (he:CE' (dW scope sc) (tg++fv.map (·.2)) elt elt') :
  CS sc N (.set i (.comp mu sr sa tg fv cond elt)) (.Assign [.Name x np] (.ListComp elt' [⟨te,iter,ifs,0⟩] scope pos) p)
 | set {i:Nat}{x:az}{e:BT.E}{v:SR}{np p:Pos} (h1:N[i]?=aa x) (h2:oZ sc x=ah) (h3:mW v=ah) (he:CE' sc N e v):CS sc N (.set i e) (.Assign [.Name x np] v p)
 | aug {i:Nat}{x:az}{o:BT.Bin}{op:Yt}{e:BT.E}{v:SR}{np p:Pos} (h1:N[i]?=aa x) (h2:oZ sc x=ah) (h3:Hv o op=ah) (he:CE' sc N e v):CS sc N (.aug i o e) (.AugAssign (.Name x np) op v p)
 | ex {e:BT.E}{v:SR}{p:Pos} (h:mW v=ah) (he:CE' sc N e v):CS sc N (.ex e) (.Expr v p)
 | ret {e:BT.E}{v:SR}{p:Pos} (he:CE' sc N e v):CS sc N (.ret e) (.Return (aa v) p)
 | ife {c:BT.E}{a b:BT.S}{t:SR}{xs ys:List Tg}{p:Pos} (h:tOK c=ah) (hc:CE' sc N c t) (ha:CSs sc N a xs) (hb:CSs sc N b ys):CS sc N (.ife c a b) (.If t xs ys p)
 | whl {c:BT.E}{b:BT.S}{t:SR}{xs:List Tg}{p:Pos} (h:tOK c=ah) (hc:CE' sc N c t) (hb:CSs sc N b xs):CS sc N (.whl c b) (.While t xs [] p)
 | for {tg:List (Nat×az)}{sr:BT.Sr}{sa:BT.Es}{b:BT.S}{te iter:SR}{xs:List Tg}{p:Pos} (hu:gq N=ah) (ht:CT sc N tg te) (hi:CI sc N sr sa iter) (hz:nk sr te=ah) (hs:iR iter=ah) (hb:CSs sc N b xs):CS sc N (.for tg sr sa b) (.For te iter xs [] p)
 | bad {st:Tg}:CS sc N .bad st
 | rai {st:Tg}{c:az}{e:BT.E}:CS sc N (.rai c e) st
inductive CSs (sc:Um) (N:List az):BT.S->List Tg->Prop where
 | nil:CSs sc N .nil []
 | one {s:BT.S}{st:Tg} (h:CS sc N s st):CSs sc N s [st]
 | cons {a b:BT.S}{st st2:Tg}{r:List Tg} (h:CS sc N a st) (hr:CSs sc N b (st2::r)):CSs sc N (.seq a b) (st::st2::r)
end
def nq (X:Cx) (m:List S6) (H:Hp) (fl:BT.Fl) (D:Ends):Prop:=match fl with
 | .nx s' h'=>∀ σ' H' m',Ext m H m' H'->RH X.K m' H' h'->RS X.prog X.w X.K m' H' σ' s'->D.nx σ' H'| .rt z h'=>∀ v H' m',Ext m H m' H'->RH X.K m' H' h'->RW X.prog X.w X.K m' H' v z->D.rt v H'| .bk s' h'=>∀ σ' H' m',Ext m H m' H'->RH X.K m' H' h'->RS X.prog X.w X.K m' H' σ' s'->D.bk σ' H'| .ct s' h'=>∀ σ' H' m',Ext m H m' H'->RH X.K m' H' h'->RS X.prog X.w X.K m' H' σ' s'->D.ct σ' H'
theorem nq.ext {D:Ends} (x:Ext m H m' H') (p:nq X m H fl D):nq X m' H' fl D:=by cases fl<;>exact λa b c y=>p a b c (x.trans y)
inductive tDS (X:Cx) (F:FT) (G:az->Option BT.W) (S:BT.S) (D:Ends) (σ:L2.St) (H:Hp):Prop where
 | mk (m:List S6) (s:BT.Sl) (h:BT.HH) (fl:BT.Fl) (R:RH X.K m H h) (r:RS X.prog X.w X.K m H σ s) (e:BT.evS F G S s h=aa fl) (p:nq X m H fl D):tDS X F G S D σ H
theorem PS.weak (h:PS X st t) (q:∀ D σ H,t' D σ H->t D σ H):PS X st t':=λzt s σ H D I hw=>h zt s σ H D I (q _ _ _ hw)
theorem PSs.weak {st:List Tg} (h:PSs X st t) (q:∀ D σ H,t' D σ H->t D σ H):PSs X st t':=λzt s σ H D I hw=>h zt s σ H D I (q _ _ _ hw)
section
theorem Cv (D:Ends) (σ:L2.St) (H:Hp) (q:tDS X F G (.seq a b) D σ H):Lz (tDS X F G a) (tDS X F G b) D σ H:=by
 obtain ⟨m,s,h,fl,R,S,e,post⟩:=q;simp only[BT.evS] at e;cases g:BT.evS F G a s h with
 | none=>rw[g] at e;exact cS e
 | some f1 =>
  rw[g] at e;refine ⟨m,s,h,f1,R,S,g,?_⟩;cases f1 with
  | nx s1 h1=>exact fun σ1 H1 m1 x1 R1 S1=>⟨m1,s1,h1,fl,R1,S1,e,post.ext x1⟩
  | _=>cases e;exact post
theorem yh {X:Cx}{S0:BT.S}{a:BT.E}{k:BT.Sl->BT.W->BT.HH->Option BT.Fl} (he:∀ s h,BT.evS F G S0 s h=BT.bnd (BT.ev F G a s h) (k s)) {D:Ends}{σ:L2.St}{H:Hp} (q:tDS X F G S0 D σ H) {R':V->Hp->Prop}
 (h1:∀ m s h x fl v H1,RH X.K m H1 h->RS X.prog X.w X.K m H1 σ s->RW X.prog X.w X.K m H1 v x->k s x h=aa fl->nq X m H1 fl D->R' v H1):tD X F G a σ H R':=by
 obtain ⟨m,s,h,fl,R,S,ee,post⟩:=q;rw[he] at ee;obtain ⟨x,g,e1,e2⟩:=cW ee;exact ⟨m,s,h,x,g,R,S,e1,λv H1 m1 x1 R1 r1=>h1 m1 s g x fl v H1 R1 (S.ext x1) r1 e2 (post.ext x1)⟩
theorem yi (h:BT.tst x k=aa fl):∃ b g,x=aa (.p (.bl b),g)/\k b g=aa fl:=by
 unfold BT.tst at h;obtain ⟨w,g,e1,e2⟩:=cW h;unfold BT.MO at e2;cases w with
 | p d =>
  cases d<;>simp only at e2<;>try contradiction
  exact ⟨_,g,e1,e2⟩
 | _=>exact cS e2
theorem j9 (h:mW e=ah):Wv e t l env=pure ai:=by cases e<;>first|rfl|exact BT.dS h
theorem O9 (h:mW e=ah):swapsWithSole [t] e l env=pure ai:=j9 h
theorem JU (h:rK i=ah):∀ v,Xq (.Subscript o i pos) env v=(do
 let ov ← XR [v] (eval o env)
 let iv ← XR [v,ov] (eval i env)
 standAt pos
 XR [v,ov,iv] (setItem ov iv v)
 release [v,ov,iv] []):=by
 intro v;cases i<;>first|rfl|exact BT.dS h
theorem JV (D:Ends) (σ:L2.St) (H:Hp) (q:tDS X F G (.whl c b) D σ H):AQ (tDT X F G c) (tDS X F G b) D σ H:=by
 obtain ⟨m0,s,h,fl,R,S,e,post⟩:=q;simp only[BT.evS] at e;refine ⟨λn σ H=>∃ m s h,RH X.K m H h/\RS X.prog X.w X.K m H σ s/\BT.fh (BT.ev F G c) (BT.evS F G b) n s h=aa fl/\nq X m H fl D,⟨BT.turns,m0,s,h,R,S,e,post⟩,?_⟩
 rintro n σ1 H1 ⟨m,s,h,R,S,e,post⟩
 cases n with
 | zero=>exact cS e
 | succ n =>
  rw[BT.fh] at e;obtain ⟨t,g,e1,e2⟩:=yi e;refine ⟨m,s,h,t,g,R,S,e1,λH2 m2 x2 R2=>?_⟩;cases t with
  | false =>
   rw[BT.Jb] at e2;cases e2;rw[if_neg (by decide)];exact post σ1 H2 m2 x2 R2 (S.ext x2)
  | true =>
   rw[BT.kT] at e2;rw[if_pos rfl];refine ⟨fun σ' H'=>∃ m' s' h',RH X.K m' H' h'/\RS X.prog X.w X.K m' H' σ' s'/\BT.fh (BT.ev F G c) (BT.evS F G b) n s' h'=aa fl/\nq X m' H' fl D,fun σ' H' ⟨m',s',h',a1,a2,a3,a4⟩=>⟨n,Vo n,m',s',h',a1,a2,a3,a4⟩,?_⟩;cases gb:BT.evS F G b s g with
   | none=>rw[gb] at e2;exact cS e2
   | some f1 =>
    rw[gb] at e2;refine ⟨m2,s,g,f1,R2,S.ext x2,gb,?_⟩;cases f1 with
    | nx s1 h1=>exact fun σ3 H3 m3 x3 R3 S3=>⟨m3,s1,h1,R3,S3,e2,(post.ext x2).ext x3⟩
    | ct s1 h1=>exact fun σ3 H3 m3 x3 R3 S3=>⟨m3,s1,h1,R3,S3,e2,(post.ext x2).ext x3⟩
    | bk s1 h1=>cases e2;exact fun σ3 H3 m3 x3 R3 S3=>post σ3 H3 m3 (x2.trans x3) R3 S3
    | rt z h1=>cases e2;exact λv H3 m3 x3 R3 r3=>post v H3 m3 (x2.trans x3) R3 r3
theorem JW (D:Ends) (σ:L2.St) (H:Hp) (q:tDS X F G (.aug i o e) D σ H):LK i (tD X F G e) (Nl o) D σ H:=by
 obtain ⟨m,s,h,fl,R,S,ee,post⟩:=q;simp only[BT.evS] at ee;obtain ⟨y,g,e1,e2⟩:=cW ee;unfold BT.MU at e2;have hs:∃ d d' z,s[i]?=aa (aa (.p d))/\y=.p d'/\BT.qY o d d'=aa z/\fl=.nx (s.set i (aa (.p z))) g:=by
  cases g1:s[i]? with
  | none=>rw[g1] at e2;cases y<;>exact cS e2
  | some ow =>
   cases ow with
   | none=>rw[g1] at e2;cases y<;>exact cS e2
   | some w0 =>
    rw[g1] at e2;cases w0<;>cases y<;>simp only at e2<;>try contradiction
    obtain ⟨z,e3,e4⟩:=dQ e2;exact ⟨_,_,z,rfl,rfl,e3,e4.symm⟩
 obtain ⟨d,d',z,g1,rfl,e3,rfl⟩:=hs;obtain ⟨a,b,k,rfl,rfl,rfl⟩:=Fo e3;obtain ⟨v,hv,rv⟩:=S.get i _ g1;have ev:v=.int a:=by cases rv with|p rv=>cases rv;rfl
 subst ev;refine ⟨_,hv,m,s,h,_,g,R,S,e1,λu H1 m1 x1 R1 r1=>?_⟩;cases r1 with
 | p r1 =>
  cases r1;exact ⟨a,b,k,rfl,rfl,e3,post _ H1 m1 x1 R1 ((S.ext x1).set (.p (.int k)))⟩
end
section
theorem JX (hg:GOk X tg g) (D:Ends) (σ:L2.St) (H:Hp) (q:tDS X F G (.for tg sr sa b) D σ H):Io (iD X F G sr sa) g (tDS X F G b) D σ H:=by
 obtain ⟨m,s,h,fl,R,S,e,post⟩:=q;simp only[BT.evS] at e;obtain ⟨ws,h1,e1,e2⟩:=cW e;unfold BT.kFor at e2;cases g1:(BT.rds ws h1).bind (BT.gu sr) with
 | none=>rw[g1] at e2;exact cS e2
 | some ds =>
  rw[g1] at e2;simp only at e2;split at e2
  ·rename_i ca;refine ⟨m,s,h,ws,h1,ds,R,S,e1,g1,.inl ca,λH1 m1 J x1 R1 it=>?_⟩;refine ⟨λi n σ H=>i<=ds.length/\n=ds.length - i/\∃ m s h,Ext m1 H1 m H/\RH X.K m H h/\RS X.prog X.w X.K m H σ s/\BT.dJ (BT.evS F G b) tg (ds.drop i) s h=aa fl/\nq X m H fl D,
    ⟨ds.length,UK _,rfl,m1,s,h1,.refl _ _,R1,S.ext x1,by rw[VD];exact e2,post.ext x1⟩,?_⟩
   rintro i n σ2 H2 ⟨hi,rfl,m2,s2,h2,x2,R2,S2,e3,post2⟩
   by_cases c:i < ds.length
   ·refine .inr ⟨it.go m2 H2 h2 i x2 R2 (ji ca) c,_,fun σ' H' z=>⟨ds.length - (i+1),by lia,c,rfl,z⟩,λx H3 y=>?_⟩;obtain ⟨x3,k3,r3⟩:=it.yld m2 H2 h2 i x H3 ds[i] x2 R2 (ji ca) (Tc c) y;rw[Vj c,BT.dJ] at e3;cases g2:BT.target tg.length ds[i] with
    | none=>rw[g2] at e3;exact cS e3
    | some dd =>
     rw[g2] at e3;simp only at e3;have R3:=R2.ext x3 k3;refine hg m2 H3 σ2 s2 x ds[i] dd _ (S2.ext x3) r3 g2 fun σ4 S4=>?_;cases g3:BT.evS F G b (BT.sets tg dd s2) h2 with
     | none=>rw[g3] at e3;exact cS e3
     | some f1 =>
      rw[g3] at e3;refine ⟨m2,_,h2,f1,R3,S4,g3,?_⟩;cases f1 with
      | nx s5 h5=>exact fun σ5 H5 m5 x5 R5 S5=>⟨m5,s5,h5,(x2.trans x3).trans x5,R5,S5,e3,(post2.ext x3).ext x5⟩
      | ct s5 h5=>exact fun σ5 H5 m5 x5 R5 S5=>⟨m5,s5,h5,(x2.trans x3).trans x5,R5,S5,e3,(post2.ext x3).ext x5⟩
      | bk s5 h5=>cases e3;exact fun σ5 H5 m5 x5 R5 S5=>post2 σ5 H5 m5 (x3.trans x5) R5 S5
      | rt z h5=>cases e3;exact λv H5 m5 x5 R5 r5=>post2 v H5 m5 (x3.trans x5) R5 r5
   ·have ei:i=ds.length:=by lia
    subst ei;refine .inl ⟨it.stop m2 H2 h2 x2 R2 (ji ca),?_⟩;rw[Wq,BT.dJ] at e3;cases e3;exact post2 σ2 H2 m2 (.refl _ _) R2 S2
  exact cS e2
theorem Nz {X:Cx}{sc:Um}{N:List az} (O:Ok X F G sc N) {x:az}{np pos p:Pos}{elt':SR}{gs:List Comprehension}{scope:Um} (h:swB sc scope x np pos=ah):Wv (.ListComp elt' gs scope pos) (aa (.Name x np)) p.line X.env=pure ah:=by have e:Wv (.ListComp elt' gs scope pos) (aa (.Name x np)) p.line X.env=pure (swB X.env.scope scope x np pos):=rfl;rw[e,O.hsc,h]
theorem F9 (c:(sc.names.lookup x==aa .cell)=ah):oZ sc x=ah:=by unfold oZ;rw[eq_of_beq c]
theorem Cw (h:swB sc scope x np pos=ah):sc.names.lookup x=aa .local:=by unfold swB at h;simp only[SM] at h;exact eq_of_beq h.1.1.2
theorem NB {X:Cx}{sc:Um}{N:List az} (O:Ok X F G sc N) {x:az}{np pos p:Pos}{elt':SR}{gs:List Comprehension}{scope:Um} (c:(sc.names.lookup x==aa .cell)=ah):Wv (.ListComp elt' gs scope pos) (aa (.Name x np)) p.line X.env=pure ai:=by
 have e:Wv (.ListComp elt' gs scope pos) (aa (.Name x np)) p.line X.env=pure (swB X.env.scope scope x np pos):=rfl;have z:swB sc scope x np pos=ai:=by
  cases h:swB sc scope x np pos with
  | false=>rfl
  | true =>
   have:=Cw h;rw[eq_of_beq c] at this;cases this
 rw[e,O.hsc,z]
theorem Cy:PSs X [] (tDS X F G .nil):=PSs.weak Eo λD σ H q=>by obtain ⟨m,s,h,fl,R,S,e,post⟩:=q;simp only[BT.evS] at e;cases e;exact post σ H m (.refl _ _) R S
theorem sS (O:Ok X F G sc N) (hf:∀ x,X.fn x=ah) (hh:CS sc N s st):PS X st (tDS X F G s) :=
 CS.rec (motive_1:=λs st _=>PS X st (tDS X F G s)) (motive_2:=λs sts _=>PSs X sts (tDS X F G s))
  (@λi x mu sr sa tg fv cond elt te iter elt' ifs scope pos np p hu h1 h3 hk ht hz hs hi hc he=>by
   have K:∀ (D:Ends) (σ:L2.St) (H:Hp),tDS X F G (.set i (.comp mu sr sa tg fv cond elt)) D σ H->Et (tD X F G (.comp mu sr sa tg fv cond elt)) (xg i) D σ H:=λD σ H q =>
    yh (k:=λs=>BT.Bk s i) (λs h=>rfl) q λm s h y fl v H1 R S r e1 post=>by simp only[BT.Bk] at e1;cases e1;exact post _ H1 m (.refl _ _) R (S.set r)
   by_cases c:(sc.names.lookup x==aa .cell)=ah
   exact PS.weak (AO (i:=i) O.nd (by rw[O.hN];exact h1) (o4 O (F9 c)) (sE (CQ.comp hu hk ht hz hs hi hc he) O) (NB O c) (.inl (hf x))) K
   ·have h4:swB sc scope x np pos=ah:=by rw[Vx] at h3;exact h3.resolve_left c
    exact PS.weak (FI O hu hk ht hs (sCI hi O hz) (sCC hc) (λX' O'=>sE he O') h1 (Cw h4) (Nz O h4)) K)
  (@λi x e v np p h1 h2 h3 he=>PS.weak (AO (i:=i) O.nd (by rw[O.hN];exact h1) (o4 O h2) (sE he O) (j9 h3) (.inl (hf x))) λD σ H q =>
   yh (k:=λs=>BT.Bk s i) (λs h=>by simp only[BT.evS]) q λm s h y fl v H1 R S r e1 post=>by simp only[BT.Bk] at e1;cases e1;exact post _ H1 m (.refl _ _) R (S.set r))
  (λh1 h2 h3 he=>PS.weak (Il O.nd (by rw[O.hN];exact h1) (o4 O h2) (sE he O) (Fk h3) (.inl (hf _))) JW)
  (λh he=>PS.weak (Ep (sE he O) (j9 h)) λD σ H q =>
   yh (k:=λs=>BT.kEx s) (λs h=>by simp only[BT.evS]) q λm s h y fl v H1 R S r e1 post=>by simp only[BT.kEx] at e1;cases e1;exact post σ H1 m (.refl _ _) R S)
  (λhe=>PS.weak (Ij (sE he O)) λD σ H q =>
   yh (k:=λs=>BT.EX) (λs h=>by simp only[BT.evS]) q λm s h y fl v H1 R S r e1 post=>by simp only[BT.EX] at e1;cases e1;exact post v H1 m (.refl _ _) R r)
  (λh hc ha hb ia ib=>PS.weak (LD (sT hc O h).1 ia ib) λD σ H q=>by
   obtain ⟨m,s,h,fl,R,S,e,post⟩:=q;simp only[BT.evS] at e;obtain ⟨t,g,e1,e2⟩:=yi e;refine ⟨m,s,h,t,g,R,S,e1,λH1 m1 x1 R1=>?_⟩;simp only[BT.kIf] at e2;cases t with
   | true=>exact ⟨m1,s,g,fl,R1,S.ext x1,e2,post.ext x1⟩
   | false=>exact ⟨m1,s,g,fl,R1,S.ext x1,e2,post.ext x1⟩)
  (λh hc hb ib=>PS.weak (AR O.own (sT hc O h).1 ib) JV)
  (λhu ht hi hz hs hb ib=>by obtain ⟨g,hg1,hg2⟩:=sCT O (O.calm hu) ht (λq _=>.inl (hf q.2));exact PS.weak (AU O.own (O.calm hu) (sCI hi O hz) hg1 ib (nS hs)) (JX hg2))
  (λzt s σ H D I q=>by obtain ⟨m,s,h,fl,R,S,e,post⟩:=q;simp only[BT.evS] at e;exact cS e)
  (λzt s σ H D I q=>by obtain ⟨m,s,h,fl,R,S,e,post⟩:=q;simp only[BT.evS] at e;exact cS e)
  Cy
  (λ_ ih=>wZ ih)
  (λ_ _ ih ir=>PSs.weak (tQ ih ir) Cv)
  hh
theorem sSs (O:Ok X F G sc N) (hf:∀ x,X.fn x=ah) {sts:List Tg} (hh:CSs sc N s sts):PSs X sts (tDS X F G s):=by refine CSs.rec (motive_1:=λ_ _ _=>True) (motive_2:=λs sts _=>PSs X sts (tDS X F G s)) ?_ ?_ ?_ ?_ ?_ ?_ ?_ ?_ ?_ ?_ Cy (λh _=>wZ (sS O hf h)) (λh _ _ ir=>PSs.weak (tQ (sS O hf h) ir) Cv) hh<;>(intros;trivial)
end
section
variable {K:SA}
mutual
theorem RD.shrink (x:∀ a∈m,a∈m'):∀ {v:V}{d:BT.D},RD K m' H v d->RD K m H v d
 | _,_,.non=>.non| _,_,.bl b=>.bl b| _,_,.int i=>.int i| _,_,.str y h=>.str y h| _,_,.tup h r=>.tup (h.elim (λq=>.inl ⟨q.1,λz=>q.2 (x _ z)⟩) .inr) (RDs.shrink x r)| _,_,.lst h r=>.lst (h.elim (λq=>.inl ⟨q.1,λz=>q.2 (x _ z)⟩) .inr) (RDs.shrink x r)
theorem RDs.shrink (x:∀ a∈m,a∈m'):∀ {vs:List V}{ds:List BT.D},RDs K m' H vs ds->RDs K m H vs ds
 | _,_,.nil=>.nil| _,_,.cons r t=>.cons (RD.shrink x r) (RDs.shrink x t)
end
end
theorem RFs.shrink {K:SA}:∀ {vs0 vs:List (az×V)}{fs:List (az×BT.W)},RFs K m H vs0 fs->RFs K (m++ex) H' vs fs->RFs K m H' vs fs
 | _,_,_,.nil,.nil=>.nil
 | _,_,_,.cons r0 t0,.cons r t=>by
  refine .cons ?_ (RFs.shrink t0 t);have back:∀ {n:Nat}{a b:S6},m[n]?=aa b->(m++ex)[n]?=aa a->m[n]?=aa a:=λ{n a b} h1 h2=>by rw[Tf (getD_some h1)] at h2;exact h2
  cases r with
  | p r=>exact .p (r.shrink λa ha=>T4 _ ha)
  | r h=>cases r0 with|r h0=>exact .r (back h0 h)
  | o h=>cases r0 with|o h0=>exact .o (back h0 h)
theorem RKs.shrink {K:SA} (sub:∀ a∈m,a∈m') (r:RKs K m' H vs kvs):RKs K m H vs kvs:=by
 induction r with
 | nil=>exact .nil| cons hk r t ih=>exact .cons (hk.shrink sub) (r.shrink sub) ih
theorem g9 (e:BT.fin h y g=aa (z,h')) (R:RH K m H h) (x:Ext m H m' H') (R':RH K m' H' g) (r:RW P w K m' H' v y) :
 ∃ m2,Ext m H m2 H'/\RH K m2 H' h'/\RW P w K m2 H' v z:=by
 unfold BT.fin at e;split at e;cases e;exact ⟨m',x,R',r⟩
 ·split at e
  ·rename_i c1 c2;obtain ⟨ex,rfl,hx⟩:=x.pre;have sub:∀ a∈m,a∈m++ex:=λa ha=>T4 _ ha;have x2:Ext m H m H':=⟨⟨[],by simp,by simp⟩,x.keep,x.live,x.frz⟩;have R2:RH K m H' h:=by
    refine ⟨R.nd,R.len,λi a xs e1 e2=>?_,R'.tb⟩;have hi:i < m.length:=getD_some e1;have hi2:i < h.length:=by rw[← R.len];exact hi
    have e3:g[i]?=aa xs:=by rw[← c2,Yl hi2] at e2;exact e2
    have z:=R'.cl i a xs (by rw[Tf hi];exact e1) e3;cases xs with
    | o c fs =>
     obtain ⟨C0,dx0,vs0,_,_,q0⟩:=R.cl i a _ e1 e2;obtain ⟨C,dx,vs,q1,q2,q3⟩:=z;exact ⟨C,dx,vs,q1,q2,q0.shrink q3⟩
    | z=>exact z| _=>obtain ⟨vs,q1,q2⟩:=z;exact ⟨vs,q1,q2.shrink sub⟩
   cases r with
   | p r=>cases e;exact ⟨m,x2,R2,.p (r.shrink sub)⟩
   | @o a n hn =>
    simp only at e;split at e
    ·rename_i c3;cases e;refine ⟨m,x2,R2,.o ?_⟩;rw[Tf (by rw[R.len];exact c3)] at hn;exact hn
    cases e;exact ⟨m++ex,x,R',.o hn⟩
   | @r a n hn =>
    simp only at e;split at e
    ·rename_i c3;cases e;refine ⟨m,x2,R2,.r ?_⟩;rw[Tf (by rw[R.len];exact c3)] at hn;exact hn
    ·rename_i c3;obtain ⟨xs,e4,e5⟩:=dQ e;cases e5;obtain ⟨vs,q1,q2⟩:=R'.cell n a xs hn e4;refine ⟨m,x2,R2,.p (.lst (.inl ⟨.inl q1,λz=>?_⟩) (q2.shrink sub))⟩;obtain ⟨j,hj⟩:=WO z;have hjl:=getD_some hj;have ej:(m++ex)[j]?=aa a:=by rw[Tf hjl];exact hj
     have:=qy R'.nd ej hn;rw[R.len] at hjl;lia
   | _=>exact cS e
  cases e;exact ⟨m',x,R',r⟩
theorem jJ (r:RWs P w K m H vs ws):RS P w K m H (L2.start N vs) (BT.dN N.length ws):=by
 have hl:=r.length;refine ⟨by simp[L2.start,BT.dN,hl],λi y e=>?_⟩;simp only[BT.dN] at e
 by_cases c:i < ws.length
 ·rw[Tf (by simpa using c),Uu] at e;obtain ⟨z,e1,e2⟩:=dQ e;cases e2;have:∀ {vs:List V}{ws:List BT.W}{i:Nat},RWs P w K m H vs ws->ws[i]?=aa y->∃ v,vs[i]?=aa v/\RW P w K m H v y:=by
   intro vs ws i r
   induction r generalizing i with
   | nil=>intro e;simp at e
   | cons r t ih =>
    intro e;cases i with
    | zero=>simp at e;subst e;exact ⟨_,rfl,r⟩| succ i=>simpa using ih (by simpa using e)
  obtain ⟨v,h1,h2⟩:=this r e1;refine ⟨v,?_,h2⟩;unfold L2.start;rw[Tf (by simp;lia),Uu,h1];rfl
 ·rw[Uc (by simpa using c),UF] at e;split at e<;>cases e
def jz (K:SA) (q:az) (fd:UQ) (fn:BT.Fn):Prop:=∀ y,fn.ns.contains (BT.iQ y)=ah->q=y/\y∈BT.iK ∧
 (∃ c P,UN K y=aa (c,P)/\fd.code=.ref c/\W6 K c P=ah/\∀ z∈BT.iK,∀ c2,UN K z=aa (c2,P)->z=y) ∧
 ∃ bm ob,TL K S7 "__builtins__"=aa (aa (.ref bm))/\bm≠Vy/\K.lookup bm=aa ob/\ob.cls=.type "module"/\ob.dict=aa Vy/\ob.data=.plain
inductive NC (K:SA) (mg:az->Option aA) (x:az) (fn:BT.Fn):Prop where
 | mk (f:S6) (fd:UQ) (st:Tg) (h1:mg x=aa (.ref f)) (h2:Fun K x x st f fd) (h3:eV fn.ns fn.ps (cU st)) (h4:Binds K fd fn.ps []) (h5:CSs (cU st) fn.ns fn.body (dz st)) (h6:jz K x fd fn):NC K mg x fn
structure Def (K:SA) (mg:az->Option aA) (x:az) (fn:BT.Fn):Prop where
 ex:NC K mg x fn
inductive HB (K:SA) (mg:az->Option aA) (c m:az) (fn:BT.Fn):Prop where
 | mk (C f:S6) (fd:UQ) (x qual:az) (st:Tg) (h1:uu K c C) (h2:mg c=aa (.ref C)) (h3:Iz K C m f) (h4:(m="__init__"->Mk K C f)) (h5:Fun K x qual st f fd) (h6:eV fn.ns fn.ps (cU st)) (h7:Binds K fd fn.ps []) (h8:CSs (cU st) fn.ns fn.body (dz st)) (h9:jz K qual fd fn):HB K mg c m fn
structure JY (K:SA) (mg:az->Option aA) (c m:az) (fn:BT.Fn):Prop where
 ex:HB K mg c m fn
structure Txt (P:Td) (w:Tz) (K:SA) (mg:az->Option aA) (T:BT.FK->Option BT.Fn) (G:az->Option BT.W):Prop where
 defs:∀ x fn,T (.f x)=aa fn->Def K mg x fn
 meths:∀ c m fn,T (.m c m)=aa fn->JY K mg c m fn
 lams:∀ L fn,T (.l L)=aa fn->False
 glob:∀ x z,G x=aa z->∃ u v,mg x=aa u/\RelV v u/\∀ m H,RW P w K m H v z
 blt:∀ x∈Ni,mg x=af
theorem yj (e:BT.runN T G k x ws h=aa r):∃ fn,T x=aa fn:=by
 cases k with
 | zero=>exact cS e
 | succ k =>
  rw[BT.runN] at e;cases q:T x with
  | none=>rw[q] at e;exact cS e| some fn=>exact ⟨fn,rfl⟩
theorem yk (F:Fun K x qual st f fd) (S:eV N ps (cU st)) (len:∀ vs H Q E,sp vs H Q E->vs.length=ps.length)
 (hbody:∀ (cdv:aA) (A:Ub) (outer:List Env) (s:SL) (H:Hp) (vs:List V) (Q:VK) (E:XK),fd.code=cdv->f9 k (A.deeper (Vs qual (cU st) s.heap.objs.size f cdv))->Mod K mg base->sp vs H Q E →
  ∃ t,PSs (dM CX0 P w K mg base N qual (cU st) f cdv A outer s H E).nox (dz st) t/\t { nx:=λ_ H'=>Q .non H',rt:=Q } (L2.start N vs) H):gH P w K mg base CX0 (k+1) f fd ps sp:=by
 obtain ⟨oc,od,kV,doc,pm,an,cdv,ct,osl,rfl,lk,hcd⟩:=F.ex;refine ⟨len,λA outer s H args us vs Q E hr e0 hb r hs=>?_⟩;have F1:gH P w K mg base CX0 (k+1) f (UO x qual (f7 st) (dz st) (cU st) .none kV doc pm an cdv ct) ps sp:=A4 lk hcd S len λA outer s H vs Q E hr hsp=>by obtain ⟨t,h,q⟩:=hbody cdv A outer s H vs Q E rfl hr e0.mod hsp;exact ⟨t,h.nox,q⟩
 exact F1.run A outer s H args us vs Q E hr e0 hb r hs
theorem yl (X:Txt P w K mg T G)
 (ih:∀ (x:BT.FK) (fn:BT.Fn),T x=aa fn->∀ (f:S6) (fd:UQ) (nm qual:az) (st:Tg),Fun K nm qual st f fd->eV fn.ns fn.ps (cU st)->CSs (cU st) fn.ns fn.body (dz st)->jz K qual fd fn->gH P w K mg base CX0 (2*k) f fd fn.ps (spF P w K (BT.runN T G k x)))
 (il:∀ L,(∃ fn,T (.l L)=aa fn)->BN P w K mg base (2*k) L (BT.runN T G k (.l L)))
 (e1:Y.prog=P) (e2:Y.w=w) (e3:Y.K=K) (e4:Y.mg=mg) (e5:Y.base=base) (hsc:Y.env.scope=sc) (hN:Y.N=N) (nd:Y.N.Nodup) (ca:Y.calm=ah) (hr:f9 (2*k+1) Y.A) (own:Xw (Ti Y.prog Y.w) Y.A Y.env Y.xe)
 (lx:(∀ x,Y.fn x=ah)->∀ x,N.contains (BT.iQ x)=ah->LX Y x):Ok Y (BT.runN T G k) G sc N:=by
 subst e1 e2 e3 e4 e5;refine ⟨hsc,hN,nd,λ_=>ca,?_,own,X.glob,λg ws h r e=>?_,λc g ws h r e=>?_,λc ws h r e=>?_,X.blt,λL ws h r e=>⟨2*k,hr.mono (U8 _),il L (yj e)⟩,lx⟩
 ·have:=hr.un;lia
 ·obtain ⟨fn',hTg⟩:=yj e;obtain ⟨f',fd',st',a1,a2,a3,a4,a5,a6⟩:=(X.defs g fn' hTg).ex;exact ⟨f',fd',fn'.ps,2*k,a1,a2.kp,a4,hr.mono (U8 _),ih _ fn' hTg f' fd' g g st' a2 a3 a5 a6⟩
 ·obtain ⟨fn',hTg⟩:=yj e;obtain ⟨C,f',fd',x',q',st',b1,b2,b3,b4,a2,a3,a4,a5,a6⟩:=(X.meths c g fn' hTg).ex;exact ⟨C,f',fd',fn'.ps,2*k,b1,b3,a4,hr.mono (U8 _),ih _ fn' hTg f' fd' x' q' st' a2 a3 a5 a6⟩
 ·obtain ⟨fn',hTg⟩:=yj e;obtain ⟨C,f',fd',x',q',st',b1,b2,b3,b4,a2,a3,a4,a5,a6⟩:=(X.meths c _ fn' hTg).ex;exact ⟨C,f',fd',fn'.ps,2*k,b1,b2,b4 rfl,a4,hr,ih _ fn' hTg f' fd' x' q' st' a2 a3 a5 a6⟩
theorem kg (X:Txt P w K mg T G) :
 ∀ (k:Nat),(∀ (x:BT.FK) (fn:BT.Fn),T x=aa fn->∀ (f:S6) (fd:UQ) (nm qual:az) (st:Tg),Fun K nm qual st f fd->eV fn.ns fn.ps (cU st)->CSs (cU st) fn.ns fn.body (dz st)->jz K qual fd fn->gH P w K mg base CX0 (2*k) f fd fn.ps (spF P w K (BT.runN T G k x))) ∧
  ∀ L,(∃ fn,T (.l L)=aa fn)->BN P w K mg base (2*k) L (BT.runN T G k (.l L)):=by
 intro k
 induction k with
 | zero =>
  refine ⟨λx fn hT f fd nm qual st h2 h3 h5 h6=>?_,λL hL=>?_⟩
  ·have no:∀ vs H Q E,¬ spF P w K (BT.runN T G 0 x) vs H Q E:=λvs H Q E h=>by obtain ⟨m,ws,h,z,h',_,_,e,_⟩:=h;exact cS e
   exact ⟨λvs H Q E h=>absurd h (no vs H Q E),λA outer s H args us vs Q E _ _ _ _ h=>absurd h (no vs H Q E)⟩
  ·intro A outer s H f us vs cvs m ws cs h z h' Q E hr e0 rv R rw nc la rc e post;exact cS e
 | succ k ihk =>
  obtain ⟨ih,il⟩:=ihk;refine ⟨λx fn hT f fd nm qual st h2 h3 h5 h6=>?_,λL hL=>?_⟩
  ·show gH P w K mg base CX0 (2*k+1+1) f fd fn.ps (spF P w K (BT.runN T G (k+1) x));refine yk h2 h3 (λvs H Q E h=>?_) λcdv A outer s H vs Q E hcd hr hM h=>?_
   ·obtain ⟨m,ws,h,z,h',R,r,e,post⟩:=h;rw[BT.runN,hT] at e;simp only at e;split at e;rename_i c;rw[r.length];exact c;exact cS e
   ·obtain ⟨m,ws,h,z,h',R,r,e,post⟩:=h;rw[BT.runN,hT] at e;simp only at e;split at e
    ·have O:Ok (dM CX0 P w K mg base fn.ns qual (cU st) f cdv A outer s H E).nox (BT.runN T G k) G (cU st) fn.ns:=by refine yl X ih il rfl rfl rfl rfl rfl rfl rfl h3.nd rfl hr Wi λ_ y hy=>?_;obtain ⟨t1,t2,⟨c,Pt,t3,t4,t5,t6⟩,bm,ob,t7,t8,t9,t10,t11,t12⟩:=h6 y hy;exact ⟨t2,⟨c,Pt,t3,hcd.symm.trans t4,VP hM.kin t5,t6⟩,by show qual++".<locals>."=_;rw[t1],bm,ob,Ua hM.kin hM.glob t7,t8,hM.kin _ _ t9,t10,t11,t12⟩
     refine ⟨_,sSs O (λ_=>rfl) h5,?_⟩;cases gg:BT.evS (BT.runN T G k) G fn.body (BT.dN fn.ns.length ws) h with
     | none=>rw[gg] at e;exact cS e
     | some fl =>
      rw[gg] at e;refine ⟨m,_,h,fl,R,jJ r,gg,?_⟩;cases fl with
      | rt y g =>
       intro v H' m' x' R' r';obtain ⟨m2,y1,y2,y3⟩:=g9 e R x' R' r';exact post v H' m2 y1 y2 y3
      | nx s' g =>
       intro σ' H' m' x' R' _;obtain ⟨m2,y1,y2,y3⟩:=g9 (v:=.non) e R x' R' (.p .non);exact post .non H' m2 y1 y2 y3
      | _=>exact cS e
    exact cS e
  ·obtain ⟨fn,hT⟩:=hL;exact (X.lams L fn hT).elim
end BS
end
section
end
section
namespace BS
open PySem PySem.Spec PyProof.Rows L2
inductive CX1 (P:Td) (w:Tz) (outer:List Env) (H:Hp) (s:SL) (E:XK) (e:aA) (s':SL):Prop where
 | mk (x C:S6) (H':Hp) (B G:au) (a0:aA) (he:e=.ref x) (os:s'.os=s.os) (bare:Xi s'.gens) (un:Un (frs outer) [] H H' s.heap s'.heap) (hk:HOk P w H' s'.heap) (fl:Heap.FlyingW B outer x (.ref C) a0 s'.heap)
  (cov:∀ b o,s.heap.get? b=aa o->b∉frs outer->∃ o',B.get? b=aa o'/\(H b=af->o'=o)) (hg:HOk P w H' G) (cv:∀ b o,H' b≠af->G.get? b=aa o->B.get? b=aa o) (q:E (.ref C) af H'):CX1 P w outer H s E e s'
theorem sC {P:Td}{w:Tz}{H:Hp}{G B h:au} (x:HOk P w H G) (k:∀ b o,H b≠af->G.get? b=aa o->B.get? b=aa o) (st:B.StaysIn h):HOk P w H h:=λb u e =>
 (x b u e).stay (λc v hc q=>st c v (k c v (by rcases hc with rfl|hc<;>simp[*]) q)) (λ_ q=>q) λ_ _ q=>q
section
variable {K:SA}{E:XK}
theorem v8 {zt:List (S6×aq)}{σ:L2.St}{H1:Hp}{s1:SL}{B h':au} (I:Inv (dM CX P w K mg base N qual scope f cd A outer s H E) zt σ H1 s1)
 (cov:∀ b o,s.heap.get? b=aa o->b∉frs outer->∃ o',B.get? b=aa o'/\(H b=af->o'=o)) (st:B.StaysIn h') (up:s1.heap.UpToSlots h'):Un (frs outer) [] H H1 s.heap h':=by
 have fr:∀ b o,s.heap.get? b=aa o->H b=af->b∈frs outer->∃ sl,h'.get? b=aa { o with slots:=sl }:=λb o e n hb=>by obtain ⟨sl,q⟩:=I.base.slot b o e n hb (by simp[dM]);obtain ⟨_,o2,ho,hd⟩:=I.ok.jc.mem hb;have ho:s.heap.get? b=aa o2:=ho;rw[e] at ho;cases ho;obtain ⟨sl2,q2⟩:=up b _ q hd;exact ⟨sl2,q2⟩
 refine ⟨λb o e n hb _=>?_,λb o e n hb _=>fr b o e n hb,λb o e n _=>I.base.free b o e n (by simp[dM]),λb o e _=>?_,I.base.tups,I.base.frzs,I.base.tbls⟩
 ·obtain ⟨o',q,r⟩:=cov b o e hb;rw[r n] at q;exact st b o q
 ·by_cases hb:b∈frs outer
  ·obtain ⟨sl,q⟩:=fr b o e (I.ok.frf b hb) hb;exact ⟨_,q⟩
  ·obtain ⟨o',q,_⟩:=cov b o e hb;exact ⟨o',st b o' q⟩
theorem gM (I:Inv (dM CX P w K mg base N qual scope f cd A outer s H E) zt σ H1 s1) (e:s.heap.get? b=aa o) (hb:b∉frs outer) :
 b∉frs (dM CX P w K mg base N qual scope f cd A outer s H E).stack:=λz=>by
 rcases List.mem_cons.mp (I.jA b z) with q|q
 ·have:s.heap.objs.size<=b:=by rw[q];exact I.ok.above
  exact absurd (SW e) (Nat.not_lt.mpr this)
 exact hb q
end
section
variable {K:SA}{E:XK}
theorem Ga (I:Inv (dM (CX1 P w) P w K mg base N qual scope f cd A outer s H E) zt σ H1 s1)
 (hx:WU s1.heap h2 x (.ref C) args) (hE:E (.ref C) af H1):(dM (CX1 P w) P w K mg base N qual scope f cd A outer s H E).xe (.ref x) { s1 with heap:=h2 }:=by
 show ay (Ti P w) (A.deeper (Vs qual scope s.heap.objs.size f cd)) (Y9 (Vs qual scope s.heap.objs.size f cd) (.ref x)) _ _ _;have hin:∀ env∈(Vs qual scope s.heap.objs.size f cd::outer),∀ b,env.frame=aa b->b∈frs (Vs qual scope s.heap.objs.size f cd::outer):=λenv he b hb=>List.mem_filterMap.mpr ⟨env,he,hb⟩;refine wpAny_leaves_madeW (s:={ s1 with heap:=h2 }) (base:=Uw s1.heap (frs (Vs qual scope s.heap.objs.size f cd::outer))) (h:=s1.heap) I.ok.frames rfl (λb o q=>VU _ q) (PySem.W.funFrames_hide I.stack hin) hx λh' t x1 x2 x3 x4=>?_;have cov:∀ b o,s.heap.get? b=aa o->b∉frs outer->∃ o',(Uw s1.heap (frs (Vs qual scope s.heap.objs.size f cd::outer))).get? b=aa o'/\(H b=af->o'=o):=λb o e hb=>by obtain ⟨o',q⟩:=I.base.there b o e (by simp[dM]);refine ⟨o',Vh _ q (gM I e hb),λn=>?_⟩;have:=I.base.keep b o e n hb (by simp[dM]);rw[q] at this;exact S9 this
 have cv2:∀ b o,H1 b≠af->s1.heap.get? b=aa o->(Uw s1.heap (frs (Vs qual scope s.heap.objs.size f cd::outer))).get? b=aa o:=λb o n e=>Vh _ e λz=>n (I.qR b z);exact ⟨x,C,H1,_,s1.heap,.ref t,rfl,I.os,I.bare,v8 I cov x1.1 ((Heap.UpToSlots.of_keeps hx.keeps).trans x4),sC I.hok cv2 x1.1,x1,cov,I.hok,cv2,hE⟩
theorem ND (hE:∀ C H',E1 (.ref C) af H'->E (.ref C) af H'):kO (CX1 P w) (dM (CX1 P w) P w K mg base N qual scope f cd A outer s H E) E1:=by
 intro zt σ H1 s1 e s' I h;obtain ⟨x,C,H',B,G,a0,rfl,e1,e2,un,ho,fl,cov,hg,cv2,hE1⟩:=h;show ay (Ti P w) (A.deeper (Vs qual scope s.heap.objs.size f cd)) (Y9 (Vs qual scope s.heap.objs.size f cd) (.ref x)) _ _ _;have J:Inv (dM (CX1 P w) P w K mg base N qual scope f cd A outer s H E) zt σ H' s':=I.wX (ch:=[]) e1 un ho e2 (λb z=>absurd z (by simp));refine wpAny_leaves_onW (Q:=λ_ s''=>CX1 P w outer H s E (.ref x) s'') I.ok.frames rfl fl λh' x1 x2=>?_;have cov':∀ b o,s.heap.get? b=aa o->b∉frs outer->∃ o',B.get? b=aa o'/\(H b=af->o'=o):=λb o e hb=>by obtain ⟨o1,q⟩:=I.base.there b o e (by simp[dM]);obtain ⟨o2,q2,r2⟩:=cov b o1 q (gM I e hb);refine ⟨o2,q2,λn=>?_⟩;have k:=I.base.keep b o e n hb (by simp[dM]);rw[q] at k;rw[r2 (I.base.free b o e n (by simp[dM]))];exact S9 k
 exact ⟨x,C,H',B,G,a0,rfl,J.os,J.bare,v8 J cov' x1.1 x2,sC hg cv2 x1.1,x1,cov',hg,cv2,hE C H' hE1⟩
end
theorem qF {i:Int} (h:i.natAbs < 2 ^ 64):i.natAbs.log2 < 1920:=by
 by_cases z:i.natAbs=0
 rw[z];decide
 ·have:=(Zj z).mpr h;lia
structure lU (K:SA) (C:S6):Prop where
 ok:X0 K C [.type "ValueError",.type "Exception",.type "BaseException",.type "object"] "ValueError.__new__"=ah
inductive NF (K:SA) (C:S6) (h:au):Prop where
 | mk (bm:List aA) (N:S6) (nm qn:az) (bs:List aA) (hdct:Bool) (sn:List az) (sub:List aA) (ab:Bool) (col:Option Bool) (dd:Option S6) (k0 k1 k2 k3 k5:Option aA) (mN:az->Option aA) (hC:h.get? C=aa (Xd nm qn C N bs bm hdct sn sub ab col dd k0 k1 k2 k3 k5 "ValueError.__new__"))
  (hN:h.Ns N mN) (hni:mN "__init__"=af) (T:OwnTail h [.type "ValueError",.type "Exception",.type "BaseException",.type "object"] bm) (lC:K.lookup C=aa (Xd nm qn C N bs bm hdct sn sub ab col dd k0 k1 k2 k3 k5 "ValueError.__new__")):NF K C h
theorem lU.obj {K:SA} (X:K.In h) (q:lU K C):NF K C h:=by
 have q:=q.ok;unfold X0 at q;split at q
 ·rename_i dd cd sl ho;split at q
  ·rename_i C' bm k0 k1 k2 k3 n k5 hm hs;simp only[SM,beq_iff_eq,Wf] at q;obtain ⟨⟨⟨⟨⟨rfl,rfl⟩,hdel⟩,ht⟩,hok⟩,hni⟩:=q;obtain ⟨nm,bs,mro,ns,qn,hd,sn,sub,ab,col,del⟩:=cd;dsimp only at hm hdel hok hni;subst hm hdel;have hsl:sl=#[k0,k1,k2,k3,aa (.builtin "ValueError.__new__"),k5]:=by obtain ⟨l⟩:=sl;simp only at hs;rw[hs]
   subst hsl;exact ⟨bm,ns,nm,qn,bs,hd,sn,sub,ab,col,dd,k0,k1,k2,k3,k5,_,X _ _ ho,.of_isNs (PySem.W.isNs_of_in X hok),PySem.W.nsMap_none_of_in X hok hni,PySem.W.tail_of_in X ht,ho⟩
  exact BT.dS q
 exact BT.dS q
inductive Ah:V->Prop where
 | int {i:Int} (h:i.natAbs < 2 ^ 64):Ah (.int i)
 | str {x:az} (h:(reprText x).length<=50000):Ah (.str x)
 | non:Ah .non
 | bl {b:Bool}:Ah (.bl b)
theorem JZ {P:Td}{w:Tz}{v:V}{u:aA} (h:Ah v) (r:RelV v u):∃ x:az,x.length<=50000/\∀ {A:Ub}{E:aA->SL->Prop}{s:SL}{Q:aA->SL->Prop},Q (.str x s.toks) { s with toks:=s.toks+1 }->ay (Ti P w) A (pyReprObj u) Q E s:=by
 have lz:(50000:Nat)<=ak:=by decide
 cases h with
 | @int i hi =>
  obtain ⟨tk,rfl⟩:=r;have l0:(SE (toString i)).length<=1921:=by rw[PySem.ofString_length];exact int_text_length_le (by decide) (qF hi)
  have li:(SE (toString i)).length<=50000:=SZ l0 (by decide);exact ⟨_,li,λq=>WY (T:="int") rfl PySem.F.slot_int_repr PySem.F.entry_int_repr (PySem.F.args_int_repr_1 _) (gives_int_repr i tk (qF hi)) q rfl (SZ li lz)⟩
 | @str x hx =>
  obtain ⟨tk,rfl⟩:=r;exact ⟨_,hx,λq=>wpAny_pyReprObj_str q (SZ hx lz)⟩
 | non =>
  obtain rfl:=r;exact ⟨_,by decide,λq=>WY (T:="NoneType") rfl PySem.F.slot_NoneType_repr PySem.F.entry_NoneType_repr (PySem.F.args_NoneType_repr_1 _) gives_none_repr q rfl (by decide)⟩
 | @bl b =>
  obtain rfl:=r;exact ⟨_,by cases b<;>decide,λq=>WY (T:="bool") rfl PySem.F.slot_bool_repr PySem.F.entry_bool_repr (PySem.F.args_bool_repr_1 _) (gives_bool_repr b) q rfl (by cases b<;>decide)⟩
theorem Cz (hg:Gl X x) (hn:d7 x=ah) (hm:X.mg x=aa (.ref C)) (hq:lU X.K C) (hc:X.calm=ah) (hl:c.length<=1000) (he:PE X e t)
 (I:Inv X zt σ H s)
 (h:t σ H λv H1=>Ah v/\∀ s1 h2 a args,Inv X zt σ H1 s1->WU s1.heap h2 a (.ref C) args->X.xe (.ref a) { s1 with heap:=h2 }) :
 ay (Ti X.prog X.w) X.A (exec (.Raise (aa (.Call (.Name x np) [.JoinedStr [.Constant (.str c) j p1,.FormattedValue e 114 af p2] p3] [] cpos)) af pos) X.env) Q X.xe s:=by
 obtain ⟨bm,N,nm,qn,bs,hdct,sn,sub,ab,col,dd,k0,k1,k2,k3,k5,mN,hC,hN,hni,T,_⟩:=hq.obj I.mod.kin;have hdb:(x==("__debug__":az))=ai:=by unfold d7 at hn;simp only[SM] at hn;simpa using hn.1.1
 refine wpAny_Raise_call_subT (C:=C) (nm:=nm) (q:=qn) (N:=N) (bs:=bs) (bm:=bm) (hdct:=hdct) (sn:=sn) (sub:=sub) (ab:=ab) (col:=col) (dd:=dd) (k0:=k0) (k1:=k1) (k2:=k2) (k3:=k3) (k5:=k5)
  PySem.F.excBase_ValueError (mN:=mN) (T.hasType PySem.F.excBase_ValueError.hasBase) (I.ok.hd hc) rfl hni (lD I hg hm ⟨rfl,?_⟩ hdb)
 refine VM (Vu (wpAny_JoinedStr (pos:=p3) ?_));show ay _ _ (eval (.Constant (.str c) j p1) X.env) _ _ s;have lz:(1000:Nat)+50000<=ak:=by decide
 have l0:(WJ++c).length<=1000:=by rw[strLen_append];show 0+c.length<=1000;lia
 refine Y0 ⟨_,_,rfl,SZ l0 (by lia),?_⟩;show ay _ _ (eval (.FormattedValue e 114 af p2) X.env) _ _ _;refine wpAny_FormattedValue_repr (thn (he zt _ σ H _ (I.tok _) h) λu s1 zq=>?_);obtain ⟨v,H1,I1,r1,hv,post⟩:=zq;obtain ⟨tx,li,wr⟩:=JZ (P:=X.prog) (w:=X.w) hv r1;refine wr ?_;have l1:((WJ++c)++tx).length<=ak:=by rw[strLen_append];lia
 have fin:∀ (tt:Tok) (s2:SL),Inv X zt σ H1 s2->∃ y t,(Ww (tx) tt)=.str y t/\(WJ++c++y).length<=ak/\Joins (Ti X.prog X.w) X.A X.xe [] (WJ++c++y) (λout s₁=>out.length<=ak/\ay (Ti X.prog X.w) X.A (Y6 (VS cpos (T5 [] X.env))) (λvs s₂=>(⟨Ww out s₁.toks::vs,[]⟩:Args).kw=[]/\(⟨Ww out s₁.toks::vs,[]⟩:Args).pos.length<=ak/\s₂.heap.get? C=aa (Xd nm qn C N bs bm hdct sn sub ab col dd k0 k1 k2 k3 k5 "ValueError.__new__")/\s₂.heap.Ns N mN/\OwnTail s₂.heap [.type "ValueError",.type "Exception",.type "BaseException",.type "object"] bm ∧
  ∀ h' e,WU s₂.heap h' e (.ref C) (⟨Ww out s₁.toks::vs,[]⟩:Args).pos->X.xe (.ref e) { s₂ with heap:=h' }) X.xe { s₁ with toks:=s₁.toks+1 }) s2:=λtt s2 J=>by
  refine ⟨_,tt,rfl,l1,l1,Zn ?_⟩;exact ⟨rfl,by show 1<=ak;decide,J.bk _ _ hC,hN.keeps J.bk,T.keeps J.bk,λh' a hx=>post _ h' a _ (J.tok _) hx⟩
 refine wpAny_formatField_str (fin _ _ (I1.tok _)) (fin _ _ ((I1.tok _).tok _)) (SZ li (by lia))
section
variable {K:SA}{E:XK}
theorem ym {h h':au}{c:S6}{v:Option aA} (x:h.IsCell c v) (u:h.UpToSlots h'):h'.IsCell c v:=by
 obtain ⟨o,ho,hd⟩:=x;obtain ⟨sl,q⟩:=u c o ho λvs z=>by rw[hd] at z;cases z
 exact ⟨_,q,hd⟩
theorem yo {zt:List (S6×aq)}{σ:L2.St}{H1 H2:Hp}{s1 s2:SL}{B G h':au} (I:Inv (dM CX P w K mg base N qual scope f cd A outer s H E) zt σ H1 s1) (J:Inv (dM CX P w K mg base N qual scope f cd A outer s H E) zt σ H2 s2)
 (cov:∀ b o,s1.heap.get? b=aa o->b∉frs (dM CX P w K mg base N qual scope f cd A outer s H E).stack->∃ o',B.get? b=aa o'/\(H1 b=af->o'=o)) (hg:HOk P w H2 G) (cv2:∀ b o,H2 b≠af->G.get? b=aa o->B.get? b=aa o)
 (st:B.StaysIn h') (up:s2.heap.UpToSlots h'):Inv (dM CX P w K mg base N qual scope f cd A outer s H E) zt σ H2 { s2 with heap:=h' }:=by
 have cov':∀ b o,s.heap.get? b=aa o->b∉frs outer->∃ o',B.get? b=aa o'/\(H b=af->o'=o):=λb o e hb=>by obtain ⟨o1,q⟩:=I.base.there b o e (by simp[dM]);obtain ⟨o2,q2,r2⟩:=cov b o1 q (gM I e hb);refine ⟨o2,q2,λn=>?_⟩;have k:=I.base.keep b o e n hb (by simp[dM]);rw[q] at k;rw[r2 (I.base.free b o e n (by simp[dM]))];exact S9 k
 refine ⟨J.ok,J.os,J.bare,v8 J cov' st up,?_,λx c e=>?_,J.free,J.freeC,λp hp=>?_,sC hg cv2 st,J.len⟩
 ·obtain ⟨m,hn,hl⟩:=J.loc;refine ⟨m,up.ns hn,λi x v h1 h2 h3=>?_⟩;obtain ⟨u,r,q⟩:=hl i x v h1 h2 h3;refine ⟨u,r,?_⟩;rcases q with q|⟨k,c,e,z⟩
  exact .inl q;exact .inr ⟨k,c,e,ym z up⟩
 ·obtain ⟨v,z⟩:=J.cell x c e;exact ⟨v,ym z up⟩
 ·obtain ⟨e,n,ne,nf,d⟩:=J.pin p hp;obtain ⟨e1,n1,ne1,nf1,d1⟩:=I.pin p hp;have ns:p.1∉frs (dM CX P w K mg base N qual scope f cd A outer s H E).stack:=λz=>by
   rcases List.mem_cons.mp (I.jA p.1 z) with q|q
   exact ne1 q;exact nf1 q
  obtain ⟨o',q,r⟩:=cov p.1 p.2 e1 ns;rw[r n1] at q;exact ⟨st _ _ q,n,ne,nf,d⟩
end
section
variable {E:aA->SL->Prop}
variable {D:S6}{hdct hdct2:Bool}{ab ab2:Bool}{dd:Option S6}{k2:Option aA}
theorem o9 {os:OsState}
 (hC:h.get? C=aa (Xd nm q C N bs bm hdct sn sub ab col dd k0 k1 k2 k3 k5 newId)) (hD:h.get? D=aa (Xd nm2 q2 D N2 bs2 bm2 hdct2 sn2 sub2 ab2 col2 dd2 j0 j1 j2 j3 j5 newId2)) (he:h.get? e=aa oe) (hcls:oe.cls=.ref C) (hbase:bm2.contains (.type "BaseException")=ah)
 (hcD:(U5 C::bm).contains (.ref D)=ah) (hq:Q ah ⟨h,g,d,t,os⟩):ay M A (excMatches (.ref e) (.ref D)) Q E ⟨h,g,d,t,os⟩:=by
 have hcB:(U5 D::bm2).contains (.type "BaseException")=ah:=by rw[List.contains_cons,hbase,Bool.or_true]
 have f:=tc_notTuple;unfold excMatches
 repeat (first|(with_reducible refine wpAny_loadPart_at he ?_;rw[hcls])|with_reducible refine wpAny_loadPart_at hD ?_|(with_reducible refine wpAny_isSubtype_exc hD ?_;rw[hcB])|(with_reducible refine wpAny_isSubtype_exc hC ?_;rw[hcD])|wp_step)
 exact hq
end
theorem CA (I:Inv X zt σ H s) (hn:h'.Ns X.env.locals m') (sb:TN X.env.locals s.heap h') :
 Inv X zt (Te X.N.length af) H { s with heap:=h',toks:=tk }:=by
 have ne:∀ b o,X.s₀.heap.get? b=aa o->b≠X.env.locals:=λb o e z=>by have:=I.ok.above;rw[← z] at this;exact absurd (SW e) (Nat.not_lt.mpr this)
 have nf:∀ b u,H b=aa u->b≠X.env.locals:=λb u e z=>by rw[z,I.free] at e;exact cS e
 refine ⟨I.ok,I.os,I.bare,⟨λb o e n hb hx=>(sb.2 b (ne b o e)).trans (I.base.keep b o e n hb hx),λb o e n hb hx=>?_,I.base.free,λb o e hx=>?_,I.base.tups,I.base.frzs,I.base.tbls⟩,⟨m',hn,λi x v h1 h2 h3=>?_⟩,λx c e=>?_,I.free,I.freeC,λp hp=>?_,λb u e=>?_,by simp⟩
 ·obtain ⟨sl,q⟩:=I.base.slot b o e n hb hx;exact ⟨sl,(sb.2 b (ne b o e)).trans q⟩
 ·obtain ⟨o',q⟩:=I.base.there b o e hx;exact ⟨o',(sb.2 b (ne b o e)).trans q⟩
 ·rw[UF] at h2;split at h2<;>cases h2
 ·obtain ⟨v,o,ho,hd⟩:=I.cell x c e;exact ⟨v,o,(sb.2 c (I.cne x c e)).trans ho,hd⟩
 ·obtain ⟨e,n,n1,n2,d⟩:=I.pin p hp;exact ⟨(sb.2 p.1 n1).trans e,n,n1,n2,d⟩
 ·exact (I.hok b u e).stay (λc v hc q=>(sb.2 c (by rcases hc with rfl|hc;exact nf _ _ e;exact nf _ _ hc)).trans q) (λ_ q=>q) λ_ _ q=>q
noncomputable def pq (K:SA) (C D:S6):Bool:=match K.lookup C with
 | some ⟨_,_,.cls cd,_⟩=>cd.mro.contains (.ref D)| _=>ai
theorem obj_some (x:gn P w H h a o):∃ q,h.get? a=aa q:=by
 cases o with
 | lst xs=>obtain ⟨_,_,_,_,e⟩:=x;exact ⟨_,e⟩| tup xs=>obtain ⟨_,_,_,ob,e,_⟩:=x;exact ⟨_,e⟩| set S n=>obtain ⟨o,_,_,_,e,_⟩:=x;exact ⟨_,e⟩| ins C dx fs=>obtain ⟨_,_,_,e,_⟩:=x;exact ⟨_,e⟩| own y=>exact x| xd fs=>obtain ⟨_,⟨_,_,_,e,_⟩,_⟩:=x;exact ⟨_,e⟩| rng lo hi=>obtain ⟨_,_,_,e⟩:=x;exact ⟨_,e⟩| frz ob u=>obtain ⟨e,_⟩:=x;exact ⟨_,e⟩| tbl ps=>exact ⟨_,show h.get? a=aa _ from x⟩| met f y=>exact ⟨_,show h.get? a=aa _ from x⟩| ext φ=>exact x.2.1| _=>obtain ⟨_,_,_,_,o,_,_,e,_⟩:=x;exact ⟨_,e⟩
section
variable {K:SA}{E:XK}
end
end BS
end
section
namespace BT
open PySem
noncomputable abbrev XF:=FK->List W->HH->Option (az×HH)
noncomputable def rsM (R:XF) (m:az) (ea:HH->Option (List W×HH)) (x:W) (h:HH):Option (az×HH):=match x with
 | .o n=>(match oat h n with
  | some (c,fs)=>(match lM m fs with
   | none=>bnd (ea h) λws h2=>R (.m c m) (.o n::ws) h2
   | some _=>af)
  | none=>af)
 | _=>af
noncomputable def Q0 (R:XF) (m:az) (ea:HH->Option (List W×HH)) (L:Nat) (ocs:Option (List Cp)) (x:W) (h:HH):Option (az×HH):=match x with
 | .o n=>(match oat h n with
  | some (c,fs)=>(match lM m fs with
   | none=>bnd (ea h) λws h2=>(match ocs with
    | some cs=>R (.m c m) (.o n::(ws++[.c (.l L) cs])) h2
    | none=>af)
   | some _=>af)
  | none=>af)
 | _=>af
noncomputable def rsI (x:Option (W×HH)) (a b:HH->Option (az×HH)):Option (az×HH):=match x with
 | some (.p (.bl ah),h)=>a h| some (.p (.bl ai),h)=>b h| _=>af
noncomputable def rsC (x:Option (List W×HH)) (k:List W->HH->Option (az×HH)) (d:Option (az×HH)):Option (az×HH):=match x with
 | some (ws,g)=>k ws g| none=>d
noncomputable def rsA (x:Option (W×HH)) (k:HH->Option (az×HH)) (d:Option (az×HH)):Option (az×HH):=match x with
 | some (_,g)=>k g| none=>d
noncomputable def pA:D->Bool
 | .int i=>big i| .str x=>decide ((reprText x).length<=50000)| .non=>ah| .bl _=>ah| _=>ai
@[simp] theorem Pa (i:Int):pA (.int i)=big i:=rfl
@[simp] theorem Pb:pA .non=ah:=rfl
@[simp] theorem Pc (b:Bool):pA (.bl b)=ah:=rfl
@[simp] theorem Gb (x:az):pA (.str x)=decide ((reprText x).length<=50000):=rfl
noncomputable def rsV (R:XF) (o:Option (Option W)) (ws:List W) (h:HH):Option (az×HH):=match o with
 | some (aa (.c k cs))=>if noC ws then R k (ws++cs.map Cp.w) h else af
 | _=>af
@[simp] theorem Sj (R:XF) (k:FK) (cs:List Cp) (ws:List W) (h:HH):rsV R (aa (aa (.c k cs))) ws h=if noC ws then R k (ws++cs.map Cp.w) h else af:=rfl
noncomputable def jK:S->Bool
 | .rai _ _=>ah
 | .seq a b=>jK a||jK b
 | .ife _ a b=>jK a||jK b
 | _=>ai
noncomputable def orX (x:Option (az×HH)) (y:Option (az×HH)):Option (az×HH):=match x with
 | some r=>aa r| none=>y
theorem CB (y:Option (az×HH)):orX af y=y:=rfl
noncomputable def CD (x:Option Fl) (k:Sl->HH->Option (az×HH)) (d:Option (az×HH)):Option (az×HH):=match x with
 | some (.nx s h)=>k s h| some (.ct s h)=>k s h| some _=>af| none=>d
noncomputable def lV (b:Sl->HH->Option Fl) (rb:Sl->HH->Option (az×HH)) (tg:List (Nat×az)):List BT.D->Sl->HH->Option (az×HH)
 | [],_,_=>af
 | d::r,s,h=>match target tg.length d with
  | some ds=>CD (b (sets tg ds s) h) (lV b rb tg r) (rb (sets tg ds s) h)| none=>af
noncomputable def pB (b:Sl->HH->Option Fl) (rb:Sl->HH->Option (az×HH)) (tg:List (Nat×az)) (sr:Sr) (s:Sl) (ws:List W) (h:HH):Option (az×HH):=match (rds ws h).bind (gu sr) with
 | some ds=>if iG ws then lV b rb tg ds s h else af
 | none=>af
noncomputable def kL (f:List BT.D->HH->Option (Option BT.D×HH)) (g:List BT.D->HH->Option (az×HH)) (n:Nat):List BT.D->HH->Option (az×HH)
 | [],_=>af
 | d::r,h=>match target n d with
  | some ds=>(match f ds h with
   | some (_,h')=>kL f g n r h'
   | none=>g ds h)
  | none=>af
noncomputable def mX (sr:Sr) (n:Nat) (fs:Option Sl) (ec:Sl->HH->Option (List W×HH)) (ee:Sl->EH) (re:Sl->HH->Option (az×HH)) (ws:List W) (h:HH):Option (az×HH) :=
 match (rds ws h).bind (gu sr),fs with
 | some ds,aa fs=>if iG ws=ah/\ds.length<=lim then kL (dI ec ee fs) (λxs h=>re (xs.map fR++fs) h) n ds h else af
 | _,_=>af
noncomputable def rsQ (m:Me) (x:Option (W×HH)) (k:HH->Option (az×HH)):Option (az×HH):=match m,x with
 | .append,aa (.r n,h)=>if oM (.r n) h then k h else af
 | _,_=>af
section
variable (F:FK->List W->HH->Option (W×HH)) (R:XF) (D:az->Bool) (G:az->Option W)
mutual
noncomputable def rsE:E->Sl->HH->Option (az×HH)
 | .meth o m as,s,h=>bnd (ev F G o s h) (rsM R m (evs F G as s))| .methL o m as L fv,s,h=>bnd (ev F G o s h) (Q0 R m (evs F G as s) L (caps s fv))| .bi _ _ as,s,h=>gU as s h| .call f as,s,h=>rsC (evs F G as s h) (R (.f f)) (if D f then gU as s h else af)| .idx a _,s,h=>rsE a s h| .bin _ a _,s,h=>rsE a s h| .cmp _ a _,s,h=>rsE a s h| .ite c a b,s,h=>rsI (ev F G c s h) (rsE a s) (rsE b s)| .lst _ as,s,h=>gU as s h| .callv i as,s,h=>rsC (evs F G as s h) (rsV R s[i]?) af| .me m o as,s,h=>rsQ m (ev F G o s h) (gU as s)| .comp _ sr sa tg fv _ elt,s,h=>rsC (evs F G sa s h) (mX sr tg.length (frees s fv) (evs F G .nil) (ev F G elt) (rsE elt)) af| _,_,_=>af
noncomputable def gU:Es->Sl->HH->Option (az×HH)
 | .cons a r,s,h=>rsA (ev F G a s h) (gU r s) (rsE a s h)| .nil,_,_=>af
end
noncomputable def rsS:S->Sl->HH->Option (az×HH)
 | .rai c e,s,h=>(match ev F G e s h with
  | some (.p d,h')=>if pA d then aa (c,h') else af
  | _=>af)
 | .seq a b,s,h=>(match evS F G a s h with
  | some (.nx s' h')=>rsS b s' h'| some _=>af
  | none=>rsS a s h)
 | .ife c a b,s,h=>rsI (ev F G c s h) (rsS a s) (rsS b s)| .ex e,s,h=>rsE F R D G e s h| .ret e,s,h=>rsE F R D G e s h| .set _ e,s,h=>rsE F R D G e s h| .whl c _,s,h=>rsE F R D G c s h| .for tg sr sa b,s,h=>orX (gU F R D G sa s h) (if jK b then rsC (evs F G sa s h) (pB (evS F G b) (rsS b) tg sr s) af else af)| _,_,_=>af
end
section
variable {F:FK->List W->HH->Option (W×HH)}{R:XF}{D:az->Bool}{G:az->Option W}{s:Sl}{h:HH}
theorem xe3:rsE F R D G (.bi b mu as) s h=gU F R D G as s h:=rfl
theorem xe4:rsE F R D G (.call f as) s h=rsC (evs F G as s h) (R (.f f)) (if D f then gU F R D G as s h else af):=rfl
theorem xe8:rsE F R D G (.ite c a b) s h=rsI (ev F G c s h) (rsE F R D G a s) (rsE F R D G b s):=rfl
theorem xa1:gU F R D G (.cons a r) s h=rsA (ev F G a s h) (gU F R D G r s) (rsE F R D G a s h):=rfl
theorem xa2:gU F R D G .nil s h=af:=rfl
theorem xs1:rsS F R D G (.rai c e) s h=(match ev F G e s h with
 | some (.p d,h')=>if pA d then aa (c,h') else af
 | _=>af):=rfl
theorem xs2:rsS F R D G (.seq a b) s h=(match evS F G a s h with
 | some (.nx s' h')=>rsS F R D G b s' h'| some _=>af
 | none=>rsS F R D G a s h):=rfl
theorem xs3:rsS F R D G (.ife c a b) s h=rsI (ev F G c s h) (rsS F R D G a s) (rsS F R D G b s):=rfl
theorem xs4:rsS F R D G (.ex e) s h=rsE F R D G e s h:=rfl
theorem xs5:rsS F R D G (.ret e) s h=rsE F R D G e s h:=rfl
theorem xs6:rsS F R D G (.set i e) s h=rsE F R D G e s h:=rfl
theorem xs9 {tg:List (Nat×az)}{sr:Sr}{sa:Es}{b:S}:rsS F R D G (.for tg sr sa b) s h=orX (gU F R D G sa s h) (if jK b then rsC (evs F G sa s h) (pB (evS F G b) (rsS F R D G b) tg sr s) af else af):=rfl
theorem xeQ {m:Me}{o:E}{as:Es}:rsE F R D G (.me m o as) s h=rsQ m (ev F G o s h) (gU F R D G as s):=rfl
theorem xeC {mu:Bool}{sr:Sr}{sa:Es}{tg:List az}{fv:List (Nat×az)}{cond:Es}{elt:E}:rsE F R D G (.comp mu sr sa tg fv cond elt) s h=rsC (evs F G sa s h) (mX sr tg.length (frees s fv) (evs F G .nil) (ev F G elt) (rsE F R D G elt)) af:=rfl
end
noncomputable def dk (T:FK->Option Fn) (f:az):Bool:=(T (.f f)).isSome
noncomputable def fz (T TX:FK->Option Fn) (G:az->Option W):Nat->FK->List W->HH->Option (az×HH)
 | 0,_,_,_=>af
 | k+1,f,ws,h=>match TX f with
  | some fn=>if ws.length=fn.ps.length then rsS (runN T G k) (fz T TX G k) (dk T) G fn.body (dN fn.ns.length ws) h else af
  | none=>af
theorem kh (hT:TX f=aa fn) (hl:ws.length=fn.ps.length) :
 fz T TX G (k+1) f ws h=rsS (runN T G k) (fz T TX G k) (dk T) G fn.body (dN fn.ns.length ws) h:=by
 rw[fz,hT];exact if_pos hl
end BT
end
section
namespace BS
open PySem PySem.Spec PyProof.Rows L2
variable {K:SA}{st:Tg}
def XW (K:SA) (E:XK) (m:List S6) (H:Hp) (c:az) (h':BT.HH):Prop:=∀ H' m',Ext m H m' H'->RH K m' H' h'->∀ C,CN K c C->E (.ref C) af H'
theorem XW.ext {E:XK} (w:XW K E m H c h') (x:Ext m H m1 H1):XW K E m1 H1 c h':=λH' m' y R C hC=>w H' m' (x.trans y) R C hC
inductive spX (P:Td) (w:Tz) (K:SA) (g:List BT.W->BT.HH->Option (az×BT.HH)) (vs:List V) (H:Hp) (Q:VK) (E:XK):Prop where
 | mk (m:List S6) (ws:List BT.W) (h:BT.HH) (c:az) (h':BT.HH) (R:RH K m H h) (r:RWs P w K m H vs ws) (e:g ws h=aa (c,h')) (p:XW K E m H c h'):spX P w K g vs H Q E
inductive NG (P:Td) (w:Tz) (K:SA) (mg:az->Option aA) (base:au) (A:Ub) (f:az) (sp:Sp):Prop where
 | mk (fa:S6) (fd:UQ) (ps:List az) (k:Nat) (h1:mg f=aa (.ref fa)) (h2:TM K (.ref fa)=ah) (h3:Binds K fd ps []) (h4:f9 k A) (h5:gH P w K mg base (CX1 P w) k fa fd ps sp):NG P w K mg base A f sp
def J0 (P:Td) (w:Tz) (K:SA) (mg:az->Option aA) (base:au) (k L:Nat) (g:List BT.W->BT.HH->Option (az×BT.HH)):Prop :=
 ∀ (A:Ub) (outer:List Env) (s:SL) (H:Hp) (f:S6) (us:List aA) (vs cvs:List V) (m:List S6) (ws:List BT.W) (cs:List BT.Cp) (h:BT.HH) (c:az) (h':BT.HH) (Q:VK) (E:XK),
  f9 k A->zJ P w K mg base A outer s H->dD vs us->RH K m H h->RWs P w K m H vs ws->BT.noC ws=ah->oS m H f L cvs->RCs K m H cvs cs->g (ws++cs.map BT.Cp.w) h=aa (c,h')->XW K E m H c h' →
  ao (Ti P w) A (.call (.ref f) ⟨us,[]⟩) (CR (CX1 P w) outer P w H s Q E) s
structure OkX (X:Cx) (R:BT.XF) (D:az->Bool) (E:XK):Prop where
 meth:∀ (c m:az) ws h r,R (.m c m) ws h=aa r->OkM X.prog X.w X.K X.mg X.base X.A (CX1 X.prog X.w) c m (spX X.prog X.w X.K (R (.m c m)))
 call:∀ (f:az) ws h r,R (.f f) ws h=aa r->NG X.prog X.w X.K X.mg X.base X.A f (spX X.prog X.w X.K (R (.f f)))
 glo:∀ f,D f=ah->∃ fa,X.mg f=aa (.ref fa)/\TM X.K (.ref fa)=ah
 pass:kO (CX1 X.prog X.w) X E
 lam:∀ (L:Nat) ws h r,R (.l L) ws h=aa r->∃ k,f9 k X.A/\J0 X.prog X.w X.K X.mg X.base k L (R (.l L))
def PXE (X:Cx) (e:SR) (t:L2.St->Hp->Prop):Prop:=∀ (zt:List (S6×aq)) (s:SL) (σ:L2.St) (H:Hp) (Q:aA->SL->Prop),Inv X zt σ H s->t σ H->ay (Ti X.prog X.w) X.A (eval e X.env) Q X.xe s
def PXS (X:Cx) (st:Tg) (t:L2.St->Hp->Prop):Prop:=∀ (zt:List (S6×aq)) (s:SL) (σ:L2.St) (H:Hp) (Q:Flow->SL->Prop),Inv X zt σ H s->t σ H->ay (Ti X.prog X.w) X.A (exec st X.env) Q X.xe s
def PXA (X:Cx) (es:List SR) (t:L2.St->Hp->Prop):Prop:=∀ (pos:Pos) (zt:List (S6×aq)) (s:SL) (σ:L2.St) (H:Hp) (Q:List aA->SL->Prop),Inv X zt σ H s->t σ H->ay (Ti X.prog X.w) X.A (Y6 (VS pos (T5 es X.env))) Q X.xe s
def Q2 (X:Cx) (st:List Tg) (t:L2.St->Hp->Prop):Prop:=∀ (zt:List (S6×aq)) (s:SL) (σ:L2.St) (H:Hp) (Q:Flow->SL->Prop),Inv X zt σ H s->t σ H->ay (Ti X.prog X.w) X.A (execs st X.env) Q X.xe s
inductive xD (X:Cx) (E:XK) (g:BT.Sl->BT.HH->Option (az×BT.HH)) (σ:L2.St) (H:Hp):Prop where
 | mk (m:List S6) (s:BT.Sl) (h:BT.HH) (c:az) (h':BT.HH) (R:RH X.K m H h) (S:RS X.prog X.w X.K m H σ s) (e:g s h=aa (c,h')) (p:XW X.K E m H c h'):xD X E g σ H
def cpX (M:Model) (A:Ub) (E:aA->SL->Prop) (Q:aA->SL->Prop) (acc:aA) (C:S6) (fr:Option S6) (r:Result) (z:SL):Prop :=
 match r with
 | .ok _=>∃ m,z.heap.Ns C m/\∀ g,TN C z.heap g->Q acc { z with heap:=g }| .error x=>∃ m,z.heap.Ns C m/\∀ g,TN C z.heap g->∀ ce:Env,ce.locals=C->ce.frame=fr->ay M A (PySem.passOn "comprehension.variables-let-go" x ce:Sem aA) (λ_ _=>False) E { z with heap:=g }
section
variable {M:Model}{A:Ub}{E:aA->SL->Prop}{s:SL}{env:Env}
theorem CF
 (h1:clausesOf e=g::gs) (h2:∀ x,XS g.iter env x=pure x) (h3:closureFor scope env=pure cl) (h4:scope.kind=.function) (h5:∀ x∈scope.names,x.2=.local->scope.names.lookup x.1=aa .local)
 (h:ay M A fi (λx s1=>ay M A (pyIter x) (λit s2=>ay M A na (λacc s3=>ay M A (newFunctionEnv scope env.globals cl [] env.qual af .none (aa env)) (λce s4 =>
  ce.frame=env.frame/\ao M A (.compStart e 0 it acc { ce with scope:=relabel scope env }) (cpX M A E Q acc ce.locals env.frame) s4) E s3) E s2) E s1) E s):ay M A (Xp e scope env pos na ai fi af) Q E s:=by
 unfold Xp;rw[h3,h1];refine SD (thn h λx s1 k1=>SD (VZ (SD (wpAny_of_eq (h2 x) (SD (Ul (thn k1 λit s2 k2=>wpAny_standIf (SD (thn k2 λacc s3 k3=>SD (av (SD (thn k3 λce s4 k4=>?_))))))))))));obtain ⟨kf,k4⟩:=k4;dsimp only;have hv:∀ x∈(scope.names.filter λx=>(x.2==.local||x.2==.cell)&&x.1 != (".0":az)).reverse,x.2=.local->Env.kindOf { ce with scope:=relabel scope env } x.1=aa .local :=
  λx hx hl=>lookup_relabel_local (h5 x (List.mem_filter.mp (List.mem_reverse.mp hx)).1 hl)
 refine Ul (SD (WG (Ul (wpAny_run (Yb k4 λr z hr=>?_)))));cases r with
 | ok f =>
  obtain ⟨m,hn,hr⟩:=hr;exact SD (Ul (wpAny_comp_letGo (cenv:={ ce with scope:=relabel scope env }) h4 _ z m hv hn λg' _ _ sb=>av (hr g' sb)))
 | error x =>
  obtain ⟨m,hn,hr⟩:=hr;exact SD (Ul (wpAny_comp_letGo (cenv:={ ce with scope:=relabel scope env }) h4 _ z m hv hn λg' _ _ sb=>UA (hr g' sb _ rfl kf) (λ_ _ f=>f.elim) λ_ _ y=>y))
end
section
variable {prog:Td}{w:Tz}{A:Ub}{s:SL}
theorem v9 {target:SR} (I:Nat->SL->Prop)
 (turn:∀ n s,I n s->ay (Ti prog w) A (YR it) (λr s1=>match r with
  | none=>R (.ok .next) s1
  | some v=>ay (Ti prog w) A (VB target it v) (λ_ s0=>ay (Ti prog w) A (Xq target env v) (λ_ s2 =>
   ay (Ti prog w) A (eval elt env) (λx s4=>ay (Ti prog w) A (call (.builtin "list.append") [acc,x]) (λ_ s5=>∃ m,m < n/\I m s5) (λ_ _=>False) s4) (notedBy (Ti prog w) A env λx s'=>R (.error x) s') s2) (λ_ _=>False) s0) (λ_ _=>False) s1) (λ_ _=>False) s)
 (n:Nat) (h:I n s):ao (Ti prog w) A (.compLoop (.ListComp elt [⟨target,iter,[],0⟩] scope pos) 0 it acc env) R s:=by
 refine codeAny_loop rfl I (λn s hI=>?_) n h;show ay _ A ((compTurn (.ListComp elt [⟨target,iter,[],0⟩] scope pos) 0 it acc env).onRaise (λx=>do Xn x env;theTreesLotGoes x)) _ _ s;refine wpAny_noted ?_;rw[compTurn_list];refine SD (VZ (SD (UA (turn n s hI) (λr s1 k1=>?_) λ_ _ z=>z.elim)));cases r with
 | none=>exact av k1
 | some v =>
  refine SD (UA k1 (λ_ s0 k0=>?_) λ_ _ z=>z.elim);refine SD (UA k0 (λ_ s2 k2=>SD (wpAny_tests_nil ?_)) λ_ _ z=>z.elim);exact SD (SD (thn k2 λx s4 k4=>SD (UA k4 (λ_ s5 k5=>av (av ⟨rfl,k5⟩)) λ_ _ z=>z.elim)))
end
theorem Ai (x:Yn B l e cls a0 L h1) (hc:∃ o,B.get? C=aa o) (sb:TN C h1 h2):Yn (Uw B [C]) l e cls a0 L h2:=by
 obtain ⟨oC,hc⟩:=hc;have nn:∀ {b:S6},B.get? b=af->b≠C:=λ{b} q z=>by rw[z,hc] at q;exact cS q.symm
 have hn:∀ {b:S6},B.get? b=af->(Uw B [C]).get? b=af:=λ{b} q=>by
  cases z:(Uw B [C]).get? b with
  | none=>rfl
  | some o=>have:=VU _ z;rw[q] at this;exact cS this
 obtain ⟨k1,k2,k3,oe,vs,T,oT,ts,e1,e2,e3,e4,e5,e6,e7,e8,e9⟩:=x;refine ⟨λb o q=>?_,hn k2,?_,oe,vs,T,oT,ts,(sb.2 e (nn k2)).trans e1,e2,e3,e4,hn e5,e6,(sb.2 T (nn e5)).trans e7,e8,e9⟩
 ·have nb:b≠C:=λz=>by rw[z,Ys [C] (by simp)] at q;exact cS q
  exact (sb.2 b nb).trans (k1 b o (VU _ q))
 ·clear e1 e2 e3 e4 e5 e6 e7 e8 e9 k1 k2
  induction l with
  | nil=>trivial
  | cons env r ih =>
   obtain ⟨q1,⟨L',o,f1,f2,f3,f4⟩,q3⟩:=k3;exact ⟨q1,⟨L',o,f1,hn f2,(sb.2 L' (nn f2)).trans f3,f4⟩,ih q3⟩
theorem uG {E:aA->SL->Prop} (x:Yn B l e cls a0 L s.heap)
 (q:∀ g,Yn B l e cls a0 L g->s.heap.UpToSlots g->Q () { s with heap:=g }):ay M A (setFlight (.ref e) (aa L)) Q E s:=by
 obtain ⟨k1,k2,k3,oe,vs,T,oT,ts,e1,e2,e3,e4,e5,e6,e7,e8,e9⟩:=x;have sz:3 < ts.size:=(Array.getElem?_eq_some_iff.mp e9).1;have oth:∀ b,b≠T->(s.heap.update T (Obj.mapFields (·.setIfInBounds 3 ((aa L).elim UW λf=>YQ f)))).get? b=s.heap.get? b:=λb hb=>Wu _ _ (UM hb);have nr:∀ b o,s.heap.get? b=aa o->(∀ vs,o.data≠.fields vs)->b≠T:=λb o hb hnf z=>by rw[z,e7] at hb;cases hb;exact hnf ts e8
 unfold setFlight;refine SD (T9 e1 e3 e4 ?_);rw[if_pos (show (U5 T != UW)=ah by simp)];refine YF e7 e8 sz (q _ ⟨λb o z=>(oth b λw=>by rw[w,e5] at z;exact cS z).trans (k1 b o z),k2,k3.of_keeps λb o hb hnf=>⟨o,(oth b (nr b o hb hnf)).trans hb,rfl⟩,?_⟩ λb o hb hnf=>⟨o.slots,(oth b (nr b o hb hnf)).trans hb⟩);exact ⟨oe,vs,T,_,_,(oth e (UM e6)).trans e1,e2,e3,e4,e5,e6,WE _ e7 (YK (V7 e8 _)),V7 e8 _,by simp[sz]⟩
def CG (X:Cx) (E:XK):Prop:=∀ (zt:List (S6×aq)) (σ:L2.St) (H1:Hp) (s1:SL) (e:aA) (s':SL) (C:S6) (m:az->Option aA) (ce:Env) (Q:aA->SL->Prop) (acc:aA),Inv X zt σ H1 s1->CX1 X.prog X.w X.stack H1 s1 E e s' →
 s1.heap.Ns C m->H1 C=af->X.s₀.heap.get? C=af->C∉frs X.stack->ce.frame=X.env.frame->notedBy (Ti X.prog X.w) X.A ce (λx z=>cpX (Ti X.prog X.w) X.A X.xe Q acc C X.env.frame (.error x) z) e s'
section
variable {P:Td}{w:Tz}{K:SA}{mg:az->Option aA}{base:au}{N:List az}{qual:az}{scope:Um}{f:S6}{cd:aA}{A:Ub}{outer:List Env}{s:SL}{H:Hp}{E:XK}
theorem Gc (hE:∀ C H',E1 (.ref C) af H'->E (.ref C) af H'):CG (dM (CX1 P w) P w K mg base N qual scope f cd A outer s H E) E1:=by
 intro zt σ H1 s1 e s' Cn mC ce Q acc I h hns hH h0 hst hf;obtain ⟨x,C,H',B,G,a0,rfl,e1,e2,un,ho,fl,cov,hg,cv2,hE1⟩:=h;have J:Inv (dM (CX1 P w) P w K mg base N qual scope f cd A outer s H E) zt σ H' s':=I.wX (ch:=[]) e1 un ho e2 (λb z=>absurd z (by simp));have h0:s.heap.get? Cn=af:=h0;obtain ⟨oN,es,ep,hoN,hdN,rN⟩:=hns;obtain ⟨oB,qB,rB⟩:=cov Cn oN hoN hst;have eB:oB=oN:=rB hH;subst eB;have hn:Xn (.ref x) ce=Xn (.ref x) (Vs qual scope s.heap.objs.size f cd):=by unfold Xn PySem.frameOf;rw[hf];rfl
 unfold notedBy;rw[hn];refine wpAny_looks_onW I.ok.frames rfl fl λh4 held4 sm4=>?_;refine ⟨mC,⟨oB,es,ep,held4.1 _ _ qB,hdN,rN⟩,λg sb ce' _ hf'=>?_⟩;have held5:=Ai held4 ⟨_,qB⟩ sb;obtain ⟨_,_,_,oe,vs,T,oT,ts,he,hc,hd,h1,_⟩:=id held5;unfold PySem.passOn;refine SD (T9 he hd h1 ?_);rw[if_neg (show ¬ ((U5 T==UW)=ah) by simp)];refine SD ?_;rw[hf'];refine uG held5 λh6 held6 sm6=>wpAny_throw ?_;show ay (Ti P w) (A.deeper (Vs qual scope s.heap.objs.size f cd)) (Y9 (Vs qual scope s.heap.objs.size f cd) (.ref x)) _ _ _;unfold Y9;refine SD (wpAny_noteFrame_againW rfl held6.2.2.2 ?_);refine wpAny_landsW held6 λh7 fl7 sm7=>?_;have stay:(Uw B [Cn]).StaysIn h7:=fl7.1;have ltC:∀ b o,s.heap.get? b=aa o->b≠Cn:=λb o q z=>by rw[z,h0] at q;exact cS q
 have cov':∀ b o,s.heap.get? b=aa o->b∉frs outer->∃ o',(Uw B [Cn]).get? b=aa o'/\(H b=af->o'=o):=λb o q hb=>by obtain ⟨o1,q1⟩:=I.base.there b o q (by simp[dM]);obtain ⟨o2,q2,r2⟩:=cov b o1 q1 (gM I q hb);refine ⟨o2,Vh _ q2 (by simpa using ltC b o q),λn=>?_⟩;have k:=I.base.keep b o q n hb (by simp[dM]);rw[q1] at k;rw[r2 (I.base.free b o q n (by simp[dM]))];exact S9 k
 have hH':H' Cn=af:=un.free Cn oB hoN hH (by simp);have cv':∀ b o,H' b≠af->G.get? b=aa o->(Uw B [Cn]).get? b=aa o:=λb o n q=>Vh _ (cv2 b o n q) (by
  simp only[W4]
  rintro rfl
  exact n hH')
 have up:∀ b∈frs outer,∀ o,s.heap.get? b=aa o->H b=af->∃ sl,h7.get? b=aa { o with slots:=sl }:=λb hb o q n=>by obtain ⟨sl,q1⟩:=J.base.slot b o q n hb (by simp[dM]);obtain ⟨_,o2,ho2,hd2⟩:=I.ok.jc.mem hb;have ho2:s.heap.get? b=aa o2:=ho2;rw[q] at ho2;cases ho2;obtain ⟨sl2,q2⟩:=sm4 b _ q1 hd2;have q3:=(sb.2 b (ltC b o q)).trans q2;obtain ⟨sl3,q4⟩:=sm6 b _ q3 hd2;obtain ⟨sl4,q5⟩:=sm7 b _ q4 hd2;exact ⟨sl4,q5⟩
 have un':Un (frs outer) [] H H' s.heap h7:=by
  refine ⟨λb o q n hb _=>?_,λb o q n hb _=>up b hb o q n,λb o q n _=>J.base.free b o q n (by simp[dM]),λb o q _=>?_,J.base.tups,J.base.frzs,J.base.tbls⟩
  ·obtain ⟨o',q1,r⟩:=cov' b o q hb;rw[r n] at q1;exact stay b o q1
  ·by_cases hb:b∈frs outer
   ·obtain ⟨sl,q1⟩:=up b hb o q (I.ok.frf b hb);exact ⟨_,q1⟩
   ·obtain ⟨o',q1,_⟩:=cov' b o q hb;exact ⟨o',stay b o' q1⟩
 obtain ⟨k1,k2,⟨_,_,k3⟩,k4⟩:=fl7;exact ⟨x,C,H',_,G,a0,rfl,J.os,J.bare,un',sC hg cv' stay,⟨k1,k2,k3,k4⟩,cov',hg,cv',hE C H' hE1⟩
end
noncomputable def cxE (X:Cx) (xe':aA->SL->Prop):Cx:={ X with xe:=xe' }
theorem NH (I:Inv X zt σ H s):Inv (cxE X xe') zt σ H s :=
 ⟨⟨I.ok.mod,I.ok.kind,I.ok.glob,I.ok.blt,I.ok.above,I.ok.inj,I.ok.has,I.ok.cab,I.ok.hd,I.ok.frames,I.ok.stk,I.ok.exf,I.ok.bs,I.ok.bsz,I.ok.noex,I.ok.exfs,I.ok.jc,I.ok.frf⟩,
  I.os,I.bare,I.base,I.loc,I.cell,I.free,I.freeC,I.pin,I.hok,I.len⟩
theorem Ka (I:Inv (cxE X xe') zt σ H s):Inv X zt σ H s :=
 ⟨⟨I.ok.mod,I.ok.kind,I.ok.glob,I.ok.blt,I.ok.above,I.ok.inj,I.ok.has,I.ok.cab,I.ok.hd,I.ok.frames,I.ok.stk,I.ok.exf,I.ok.bs,I.ok.bsz,I.ok.noex,I.ok.exfs,I.ok.jc,I.ok.frf⟩,
  I.os,I.bare,I.base,I.loc,I.cell,I.free,I.freeC,I.pin,I.hok,I.len⟩
section
variable {X:Cx}{F:FT}{R:BT.XF}{D:az->Bool}{G:az->Option BT.W}{E:XK}{sc:Um}{N:List az}
theorem Q3 (O:Ok X F G sc N) (nf:¬ ∀ x,X.fn x=ah) (own:Xw (Ti X.prog X.w) X.A X.env xe'):Ok (cxE X xe') F G sc N :=
 ⟨O.hsc,O.hN,O.nd,O.calm,O.hu,own,O.glob,O.call,O.meth,O.mkc,O.blt,O.lam,λhf=>absurd hf nf⟩
inductive LIX (X:Cx) (scope:Um) (tg:List az) (fv:List (Nat×az)) (s2:SL) (H1:Hp) (C:S6) (fp:List S6) (tn:Nat->au->Prop) (m1:List S6) (ds:List BT.D) (fs:BT.Sl) (f:List BT.D->BT.HH->Option (Option BT.D×BT.HH)) (g:List BT.D->BT.HH->Option (az×BT.HH)) (r:az×BT.HH) (n:Nat) (s:SL):Prop where
 | mk (i:Nat) (σ':L2.St) (H':Hp) (m':List S6) (hh:BT.HH) (us:List aA) (nn:Nat) (sl:BT.Sl) (p0:i<=ds.length) (p1:n=ds.length - i) (pl:us.length<=i) (p2:Inv (blk X (tg++fv.map (·.2)) s2 H1 scope C fp) [(s2.heap.objs.size,lobj us nn)] σ' H' s) (p3:tn i s.heap) (p4:∀ b∈fp,H' b=af) (p5:Ext m1 H1 m' H') (p6:RH X.K m' H' hh) (p7:RS X.prog X.w X.K m' H' σ' sl) (p8:sl.length=tg.length+fs.length) (p9:sl.drop tg.length=fs) (p12:BT.kL f g tg.length (ds.drop i) hh=aa r):LIX X scope tg fv s2 H1 C fp tn m1 ds fs f g r n s
theorem CH (O:Ok X F G sc N) (O1:OkX X R D E) (HX:CG X E) (hu:gq N=ah) {cond:BT.Es}
 (hk:jf sc N tg fv scope=ah) (ht:oQ (dW scope sc) tg te=ah) (hset:iR iter=ah) (hI:PI X te iter (iD X F G sr sa))
 (hE:∀ X',Ok X' F G (dW scope sc) (tg++fv.map (·.2))->PE X' elt' (tD X' F G elt)) (hX:∀ X',Ok X' F G (dW scope sc) (tg++fv.map (·.2))->OkX X' R D E->PXE X' elt' (xD X' E (BT.rsE F R D G elt))) :
 PXE X (.ListComp elt' [⟨te,iter,[],0⟩] scope pos) (xD X E (BT.rsE F R D G (.comp mu sr sa tg fv cond elt))):=by
 have cf:=Hy hk;obtain ⟨ct,tl,tloc⟩:=ya (fs:=fv.map (·.2)) ht;have t0:tg≠[]:=by
  rintro rfl
  simp[oQ] at ht
 intro zt s σ H Q' I q;rw[eval_ListComp];obtain ⟨m,s',h,c0,h',RR,S,ee,post⟩:=q;simp only[BT.xeC] at ee;cases e1:BT.evs F G sa s' h with
 | none=>rw[e1] at ee;exact cS ee
 | some wh =>
  obtain ⟨ws,h1⟩:=wh;rw[e1] at ee;have ee:BT.mX sr tg.length (BT.frees s' fv) (BT.evs F G .nil) (BT.ev F G elt) (BT.rsE F R D G elt) ws h1=aa (c0,h'):=ee;unfold BT.mX at ee;cases g1:(BT.rds ws h1).bind (BT.gu sr) with
  | none=>rw[g1] at ee;exact cS ee
  | some ds =>
   cases g2:BT.frees s' fv with
   | none=>rw[g1,g2] at ee;exact cS ee
   | some fs =>
    rw[g1,g2] at ee;simp only at ee
    by_cases ca:BT.iG ws=ah/\ds.length<=BT.lim
    case neg=>rw[if_neg ca] at ee;exact cS ee
    rw[if_pos ca] at ee;obtain ⟨ca,dsl⟩:=ca;have hfree:BC.r6 X.env.cells scope.names:=λx hx e=>I.ok.has x.1 (.inl (by
     have:=cf.free x hx e;show X.env.scope.names.lookup x.1=_;rw[O.hsc];exact this))
    refine CF rfl (nS hset) (BC.o6 hfree) cf.k1 cf.loc
     (thn (hI zt s σ H (λJ H1=>∃ m1,Ext m H m1 H1/\RH X.K m1 H1 h1/\qb X.K J m1 H1 ds (qc ws ds)) I ⟨m,s',h,ws,h1,ds,RR,S,e1,g1,.inl ca,λH1 m1 J x1 R1 it=>⟨m1,x1,R1,it⟩⟩) λv s1 hv=>thn hv λitv s2 h2'=>?_)
    obtain ⟨it,fp,tn,J,H1,rfl,I1,T,st,hf,m1,x1,R1,ito⟩:=h2';have hlt:∀ b∈fp,b < s2.heap.objs.size:=λb hb=>by obtain ⟨o,ho,_⟩:=T.obj 0 _ st b hb;exact SW ho
    refine T6 (wpAny_newFunctionEnv cf.cell (by intro y hy;simp at hy) (λh3 hns hsb=>?_) cf.k1);dsimp only at hns hsb ⊢;generalize hH2:s2.heap.push { cls:=.type "list",dict:=af,data:=.seq ([]:List aA).toArray }=H2 at hns hsb ⊢;have hCs:H2.objs.size=s2.heap.objs.size+1:=by rw[← hH2,VE]
    have old:∀ b o,s2.heap.get? b=aa o->h3.get? b=aa o:=λb o e=>hsb.extBut b o (by rw[hCs];exact Tn (Wj (SW e))) (SH _ (hH2 ▸ SH _ e));have hacc:h3.get? s2.heap.objs.size=aa (lobj [] 0):=hsb.extBut _ _ (by rw[hCs];exact Tn (Vo _)) (SH _ (hH2 ▸ Th _ rfl));have I4:=xX (tk:=s2.toks+([]:List (az×aA)).length) I1 O.hsc O.hN cf hCs hf hlt old hns hacc;have O':=Ci (s2:=s2) (H1:=H1) (C:=H2.objs.size) (fp:=fp) O hu cf;obtain ⟨g,hg1,hg2⟩:=sCT O' (O.calm hu) ct λq hq=>.inr (by rw[O'.hsc];exact tloc q hq);have hfl:fs.length=fv.length:=(j6 g2).1;have ltC:s2.heap.objs.size < H2.objs.size:=by rw[hCs];exact Vo _
    have O2:=Q3 (xe':=notedBy (Ti X.prog X.w) X.A (blk X (tg++fv.map (·.2)) s2 H1 scope H2.objs.size fp).env λx z=>cpX (Ti X.prog X.w) X.A X.xe Q' (.ref s2.heap.objs.size) H2.objs.size X.env.frame (.error x) z) O' (λz=>BT.dS (z "")) WT;have O3:OkX (cxE (blk X (tg++fv.map (·.2)) s2 H1 scope H2.objs.size fp) (notedBy (Ti X.prog X.w) X.A (blk X (tg++fv.map (·.2)) s2 H1 scope H2.objs.size fp).env λx z=>cpX (Ti X.prog X.w) X.A X.xe Q' (.ref s2.heap.objs.size) H2.objs.size X.env.frame (.error x) z)) R D E:=by
     refine ⟨O1.meth,O1.call,O1.glo,λpins' σ8 H8 s8 e s9 I8 hcx=>?_,O1.lam⟩;have I8:=Ka I8;obtain ⟨mm,hmm,_⟩:=I8.loc;have J8:Inv X zt σ H8 s8:=I1.wX (ch:=fp) I8.os I8.base I8.hok I8.bare λb hb=>⟨(hf b hb).2.2.2.1,(hf b hb).2.1,(hf b hb).2.2.2.2.1,(hf b hb).2.2.2.2.2⟩;refine HX zt σ H8 s8 e s9 _ mm _ Q' _ J8 hcx hmm I8.free ?_ ?_ rfl
     ·cases z:X.s₀.heap.get? H2.objs.size with
      | none=>rfl| some o=>exact absurd (Tu (SW z) I1.sz) (Nat.not_lt.mpr (Vr ltC))
     ·intro z;obtain ⟨_,o,ho,_⟩:=I1.stack.mem z;exact absurd (SW ho) (Nat.not_lt.mpr (Vr ltC))
    have stat:∀ {H':Hp}{o:aq},(∀ b∈fp,H' b=af)->∀ b∈fp,oj (blk X (tg++fv.map (·.2)) s2 H1 scope H2.objs.size fp) [(s2.heap.objs.size,o)] H' b:=λ{H' o} hn b hb=>by
     refine ⟨hn b hb,?_,?_,.inl hb,λx c e=>(hf b hb).2.2.2.2.1 x c (kK e),λp hp=>?_⟩
     ·show b≠H2.objs.size;rw[hCs];exact Tn (Wj (hlt b hb))
     ·intro zz;rcases List.mem_cons.mp (I1.jA b zz) with e|e
      exact (hf b hb).2.1 e;exact (hf b hb).2.2.1 e
     ·have hp':p=(s2.heap.objs.size,o):=by have:p∈[]++[(s2.heap.objs.size,o)]:=hp;simpa using this
      rw[hp'];show s2.heap.objs.size≠b;exact VI (hlt b hb)
    have loop:∀ s4:SL,s4={ s2 with heap:=h3,toks:=s2.toks+([]:List (az×aA)).length } →
     ao (Ti X.prog X.w) X.A (.compLoop (.ListComp elt' [⟨te,iter,[],0⟩] scope pos) 0 (.ref it) (.ref s2.heap.objs.size) (Yr scope (BC.iT X.env.cells scope.names []) H2.objs.size X.env))
      (cpX (Ti X.prog X.w) X.A X.xe Q' (.ref s2.heap.objs.size) H2.objs.size X.env.frame) s4:=by
     rintro s4 rfl
     refine v9 (LIX X scope tg fv s2 H1 H2.objs.size fp tn m1 ds fs (BT.dI (BT.evs F G .nil) (BT.ev F G elt) fs) (λxs h=>BT.rsE F R D G elt (xs.map BT.fR++fs) h) (c0,h')) ?_
      ds.length ⟨0,_,H1,m1,h1,[],0,_,UK _,rfl,SY _,I4,T.keep 0 _ _ st (λb hb o e=>old b o e),λb hb=>(hf b hb).1,.refl _ _,R1,qD (S.ext x1) g2,by simp,by simp,by rw[VD];exact ee⟩
     rintro n s5 ⟨i,σ5,H5,m5,hh,us,nn,sl,hi,rfl,ul,I5,st5,fr5,x5,R5,S5,sl1,sl2,go5⟩
     by_cases c:i < ds.length
     ·rw[Vj c,BT.kL] at go5;cases eT:BT.target tg.length ds[i] with
      | none=>rw[eT] at go5;exact cS go5
      | some xs =>
       rw[eT] at go5;simp only at go5;refine thn (T.item (blk X (tg++fv.map (·.2)) s2 H1 scope H2.objs.size fp) rfl rfl rfl (O.calm hu) i _ s5 σ5 H5 _ I5 (stat fr5) st5 (ito.go m5 H5 hh i x5 R5 (ji ca) c)) λr s6 hr=>?_;obtain ⟨u,rfl,hr⟩:=hr;refine thn hr λ_ s7 zq=>?_;obtain ⟨x,H7,I7,r7,y7,st7,fr7⟩:=zq;obtain ⟨x7,k7,rd7⟩:=ito.yld m5 H5 hh i x H7 ds[i] x5 R5 (ji ca) (Tc c) y7;have R7:=R5.ext x7 k7;have I7':=I7.pinned (stat fr7) (T.obj _ _ st7);obtain ⟨sq1,sq2,sq3⟩:=yc tl t0 eT sl1 sl2;refine thn (hg1 _ s7 σ5 H7 x u (fun σ8 H8=>H8=H7/\RS X.prog X.w X.K m5 H7 σ8 (xs.map BT.fR++fs)) I7' r7 (hg2 m5 H7 σ5 sl x ds[i] xs _ (S5.ext x7) rd7 (by rw[tl];exact eT) fun σ8 S8=>⟨rfl,by rw[← sq1];exact S8⟩)) λ_ s8 h8=>?_;obtain ⟨σ8,H8,I8,rfl,S8⟩:=h8;have kept:∀ {s9:SL}{σ9:L2.St}{H9:Hp},Inv (blk X (tg++fv.map (·.2)) s2 H1 scope H2.objs.size fp) ([(s2.heap.objs.size,lobj us nn)]++kN fp s7.heap) σ9 H9 s9->tn (i+1) s9.heap/\∀ b∈fp,H9 b=af:=λ{s9 σ9 H9} I9=>by refine ⟨T.keep _ _ _ st7 λb hb o e=>(I9.pin (b,o) (Tj _ (Tj _ (gr hb e)))).1,λb hb=>?_⟩;obtain ⟨o,e,_⟩:=T.obj _ _ st7 b hb;exact (I9.pin (b,o) (Tj _ (Tj _ (gr hb e)))).2.1
       cases gI:BT.dI (BT.evs F G .nil) (BT.ev F G elt) fs xs hh with
       | none =>
        rw[gI] at go5;simp only at go5;exact thn (hX _ O2 O3 _ s8 σ8 H8 _ (NH I8) ⟨m5,_,hh,c0,h',R7,S8,go5,post.ext (x1.trans (x5.trans x7))⟩) λ_ _ z=>z
       | some oh =>
        obtain ⟨o,hA⟩:=oh;rw[gI] at go5;simp only at go5;unfold BT.dI at gI;obtain ⟨cs,hc,eC,eK⟩:=cW gI;simp only[BT.evs] at eC;cases eC;have eK:=(show BT.bnd _ BT.gJ=_ from eK);obtain ⟨w,hB,eE,eL⟩:=cW eK;have ew:∃ d,w=.p d/\hB=hA:=by
         unfold BT.gJ at eL;cases w with
         | p d'=>cases eL;exact ⟨_,rfl,rfl⟩| _=>exact cS eL
        obtain ⟨d,rfl,rfl⟩:=ew;refine UA (hE _ O' _ s8 σ8 H8 (λv Ha=>∃ ma,Ext m5 H8 ma Ha/\RH X.K ma Ha hB/\RD X.K ma Ha v d) I8 ⟨m5,_,hh,_,hB,R7,S8,eE,λv Ha ma xa Ra ra=>by cases ra with|p ra=>exact ⟨ma,xa,Ra,ra⟩⟩) (λu10 s10 ⟨v10,H10,I10,r10,m10,x10,R10,rd10⟩=>?_) λ_ _ z=>z.elim
        obtain ⟨pD,nD,neD,nfD,_⟩:=I10.pin (s2.heap.objs.size,lobj us nn) (by simp);have lle:=fW;refine Y4 ⟨nn,pD⟩ (λh11 hp11 sb11=>?_) (by rw[SQ];have dsl:=dsl;lia);obtain ⟨nn',hp11⟩:=hp11;have hp11:h11.get? s2.heap.objs.size=aa (lobj (us++[u10]) nn'):=by rw[hp11];simp[lobj]
        have sb11:TN s2.heap.objs.size s10.heap h11:=sb11;obtain ⟨st10,fr10⟩:=kept I10;have I11:Inv (blk X (tg++fv.map (·.2)) s2 H1 scope H2.objs.size fp) [] σ8 H10 { s10 with heap:=h11 } :=
         Inv.turned (t':=s10.toks) (I10.jT (λp hp=>by cases hp)) (λb o hb e=>(sb11.2 b hb).trans e) nD neD (.inr (SY _)) (λx c e zz=>by obtain ⟨v,o,ho,_⟩:=I1.cell x c (kK e);have:=SW ho;rw[zz] at this;exact absurd this (UR _)) λp hp=>by cases hp
        have I12:Inv (blk X (tg++fv.map (·.2)) s2 H1 scope H2.objs.size fp) [(s2.heap.objs.size,lobj (us++[u10]) nn')] σ8 H10 { s10 with heap:=h11 }:=I11.jT λp hp=>by simp only[W4] at hp;subst hp;exact ⟨hp11,nD,neD,nfD,λv zz=>by cases (show Data.seq _ _=Data.cell v from zz)⟩
        have xt:Ext m5 H5 m10 H10:=x7.trans x10;refine ⟨ds.length - (i+1),by lia,i+1,σ8,H10,m10,hB,us++[u10],nn',_,c,rfl,by rw[SN];exact Xx ul,I12,?_,fr10,x5.trans xt,R10,S8.ext x10,sq2,sq3,go5⟩;refine T.keep _ _ _ st10 λb hb o' e=>(sb11.2 b ?_).trans e;exact Tn (hlt b hb)
     ·have ei:i=ds.length:=by lia
      subst ei;rw[Wq,BT.kL] at go5;exact cS go5
    exact ⟨rfl,codeAny_compStart_list (loop _ rfl) (T.self _ 0 _ _ _ (T.keep 0 _ _ st (λb hb o e=>old b o e)) (loop _ rfl))⟩
end
section
variable {D:az->Bool}{E:XK}
end
noncomputable def NI:BT.Me->Bool
 | .append=>ai| _=>ah
theorem uH (hg:∀ xs h,g xs h=af) (n:Nat):∀ (ds:List BT.D) (h:BT.HH),BT.kL f g n ds h=af
 | [],h=>rfl
 | d::r,h=>by
  rw[BT.kL];cases BT.target n d with
  | none=>rfl
  | some xs =>
   simp only;cases f xs h with
   | none=>exact hg xs h| some o=>exact uH hg n r o.2
noncomputable def noX:BT.E->Bool
 | .var _=>ah| .cst _=>ah| .lst _ .nil=>ah| .tup _=>ah| .fld _ _=>ah| .tx _ _=>ah| .slc _ _ _=>ah| .me m _ _=>NI m| .comp _ _ _ _ _ _ elt=>noX elt| _=>ai
noncomputable def Kc:BT.Es->Bool
 | .nil=>ah| .cons a r=>noX a&&Kc r
section
variable {D:az->Bool}{E:XK}
theorem sD (h:noX a=ah) (s:BT.Sl) (g:BT.HH):BT.rsE F R D G a s g=af:=by
 cases a with
 | me m o as =>
  rw[BT.xeQ];cases m with
  | append=>exact BT.dS h| _=>rfl
 | comp mu sr sa tg fv cond elt =>
  have hg:∀ s h,BT.rsE F R D G elt s h=af:=λs h'=>sD (a:=elt) h s h';rw[BT.xeC];cases BT.evs F G sa s g with
  | none=>rfl
  | some wh =>
   show BT.mX _ _ _ _ _ _ _ _=af;unfold BT.mX;split
   ·split;exact uH (λxs h=>hg _ h) _ _ _;rfl
   rfl
 | lst _ as=>cases as with
  | nil=>rfl| cons _ _=>exact BT.dS h
 | _=>first|exact BT.dS h|rfl
theorem yp:∀ {as:BT.Es},Kc as=ah->∀ (s:BT.Sl) (g:BT.HH),BT.gU F R D G as s g=af
 | .nil,_,s,g=>rfl
 | .cons a r,h,s,g=>by obtain ⟨h1,h2⟩:=Bool.and_eq_true_iff.mp h;rw[BT.xa1];unfold BT.rsA;split;exact yp h2 _ _;exact sD h1 _ _
theorem Gd (hg:GOk X tg g) (R0:RH X.K m H h) (S:RS X.prog X.w X.K m H σ s)
 (e:BT.rsC (BT.evs F G sa s h) (BT.pB (BT.evS F G b) (BT.rsS F R D G b) tg sr s) af=aa (c,h')) (post:XW X.K E m H c h') :
 Io (iD X F G sr sa) g (λD' σ H=>tDS X F G b D' σ H\/xD X E (BT.rsS F R D G b) σ H) D1 σ H:=by
 cases e1:BT.evs F G sa s h with
 | none=>rw[e1] at e;exact cS e
 | some wh =>
  obtain ⟨ws,h1⟩:=wh;rw[e1] at e;have e2:BT.pB (BT.evS F G b) (BT.rsS F R D G b) tg sr s ws h1=aa (c,h'):=e;unfold BT.pB at e2;cases g1:(BT.rds ws h1).bind (BT.gu sr) with
  | none=>rw[g1] at e2;exact cS e2
  | some ds =>
   rw[g1] at e2;simp only at e2;split at e2
   ·rename_i ca;refine ⟨m,s,h,ws,h1,ds,R0,S,e1,g1,.inl ca,λH1 m1 J x1 R1 it=>?_⟩;refine ⟨λi n σ H=>i<=ds.length/\n=ds.length - i/\∃ m s h,Ext m1 H1 m H/\RH X.K m H h/\RS X.prog X.w X.K m H σ s/\BT.lV (BT.evS F G b) (BT.rsS F R D G b) tg (ds.drop i) s h=aa (c,h')/\XW X.K E m H c h',
     ⟨ds.length,UK _,rfl,m1,s,h1,.refl _ _,R1,S.ext x1,by rw[VD];exact e2,post.ext x1⟩,?_⟩
    rintro i n σ2 H2 ⟨hi,rfl,m2,s2,h2,x2,R2,S2,e3,post2⟩
    by_cases cc:i < ds.length
    ·refine .inr ⟨it.go m2 H2 h2 i x2 R2 (ji ca) cc,_,fun σ' H' z=>⟨ds.length - (i+1),by lia,cc,rfl,z⟩,λx H3 y=>?_⟩;obtain ⟨x3,k3,r3⟩:=it.yld m2 H2 h2 i x H3 ds[i] x2 R2 (ji ca) (Tc cc) y;rw[Vj cc,BT.lV] at e3;cases g2:BT.target tg.length ds[i] with
     | none=>rw[g2] at e3;exact cS e3
     | some dd =>
      rw[g2] at e3;simp only at e3;have R3:=R2.ext x3 k3;refine hg m2 H3 σ2 s2 x ds[i] dd _ (S2.ext x3) r3 g2 fun σ4 S4=>?_;cases g3:BT.evS F G b (BT.sets tg dd s2) h2 with
      | none =>
       rw[g3] at e3;exact .inr ⟨m2,_,h2,c,h',R3,S4,e3,post2.ext x3⟩
      | some f1 =>
       rw[g3] at e3;refine .inl ⟨m2,_,h2,f1,R3,S4,g3,?_⟩;cases f1 with
       | nx s5 h5=>exact fun σ5 H5 m5 x5 R5 S5=>⟨m5,s5,h5,(x2.trans x3).trans x5,R5,S5,e3,(post2.ext x3).ext x5⟩
       | ct s5 h5=>exact fun σ5 H5 m5 x5 R5 S5=>⟨m5,s5,h5,(x2.trans x3).trans x5,R5,S5,e3,(post2.ext x3).ext x5⟩
       | _=>exact cS e3
    ·have ei:i=ds.length:=by lia
     subst ei;rw[Wq,BT.lV] at e3;exact cS e3
   exact cS e2
theorem CJ (O:Ok X F G sc N) (O1:OkX X R D E) (hg:d8 sc f=ah) (hn:d7 f=ah) (hc:CEs sc N as es) (ha:PA X es (tDs X F G as)) (hx:PXA X es (xD X E (BT.gU F R D G as))) :
 PXE X (.Call (.Name f p) es [] cpos) (xD X E (BT.rsE F R D G (.call f as))):=by
 have hst:=mT hc;intro zt s σ H Q I q;obtain ⟨m0,s',h,c0,h',RR,S,ee,post⟩:=q;simp only[BT.xe4] at ee;cases es with
 | nil =>
  cases as with
  | cons a r=>exact (vS hc).elim
  | nil =>
   simp only[BT.evs,BT.rsC] at ee;obtain ⟨fa,fd,ps,k,hm,hk,hb,hr,ok⟩:=O1.call _ _ _ _ ee;exact thn (tS ok hr (eX O hg) hm hk hb .nil O1.pass (gK hn).1 zt s σ H (λ_ _=>False) I ⟨m0,[],h,c0,h',RR,.nil,ee,post⟩) λu s2 ⟨_,_,_,_,z⟩=>z.elim
 | cons e es =>
  simp only[dm,SM] at hst;cases g:BT.evs F G as s' h with
  | some q =>
   obtain ⟨ws,g1⟩:=q;rw[g] at ee;simp only[BT.rsC] at ee;obtain ⟨fa,fd,ps,k,hm,hk,hb,hr,ok⟩:=O1.call _ _ _ _ ee;refine thn (xo ok hr (eX O hg) hm hk hb .nil O1.pass ha (gK hn).1 (cY hst.1) (fm hst.2) zt s σ H (λ_ _=>False) I ?_) λu s2 ⟨_,_,_,_,z⟩=>z.elim;refine ⟨m0,s',h,ws,g1,RR,S,g,λus H2 m2 x2 R2 r2=>?_⟩;show spX X.prog X.w X.K (R (.f f)) (us++[]) H2 _ E;rw[Ug];exact ⟨m2,ws,g1,c0,h',R2,r2,ee,post.ext x2⟩
  | none =>
   rw[g] at ee;simp only[BT.rsC] at ee;split at ee
   ·rename_i hd;obtain ⟨fa,hm,hk⟩:=O1.glo _ hd;refine Vb (lD I (eX O hg) hm ?_ (gK hn).1);exact YB (h₀:=X.base) I.ok.mod.kin hk (hx cpos zt s σ H _ I ⟨m0,s',h,c0,h',RR,S,ee,post⟩) (cY hst.1) (fm hst.2)
   exact cS ee
end
section
variable {F:FT}{R:BT.XF}{D:az->Bool}{G:az->Option BT.W}{E:XK}{X:Cx}
theorem Ge (hx:PXA X es (xD X E (BT.gU F R D G as))):PXE X (.List es p) (xD X E (BT.rsE F R D G (.lst mu as))):=λzt s σ H Q I q=>by refine wpAny_List_spliced (hx p zt s σ H _ I ?_);obtain ⟨m,s',h,c0,h',RR,S,ee,post⟩:=q;exact ⟨m,s',h,c0,h',RR,S,ee,post⟩
theorem we (hb:d9 oe=ah) (hl:(apos.endLine==cpos.line)=ah) (hlen:(e::es).length < 20) (hst:dm (e::es)=ah) (ho:PE X oe (tD X F G o)) (hx:PXA X (e::es) (xD X E (BT.gU F R D G as))) :
 PXE X (.Call (.Attribute oe "append" apos) (e::es) [] cpos) (xD X E (BT.rsE F R D G (.me .append o as))):=by
 have hst':=hst;simp only[dm,SM] at hst';have h30:decide ((e::es).length+([]:List WL).length+(if ([]:List WL).isEmpty then 0 else 1) < 30)=ah:=decide_eq_true (by
  simp only[SX,Uo,Xk,if_true] at hlen ⊢;lia)
 intro zt s σ H Q I q;obtain ⟨m,s',h,c0,h',RR,S,ee,post⟩:=q;rw[BT.xeQ] at ee;cases e1:BT.ev F G o s' h with
 | none=>rw[e1] at ee;exact cS ee
 | some xh =>
  obtain ⟨x,h1⟩:=xh;rw[e1] at ee;cases x with
  | r n =>
   have ee:(if BT.oM (.r n) h1=ah then BT.gU F R D G as s' h1 else af)=aa (c0,h'):=ee;obtain ⟨ok,ee⟩:=uz ee;refine WQ (nP hb) (by rw[lR hst,h30];rfl) hl rfl (thn (ho zt s σ H (λx H1=>tyV X.K "list" x H1/\xD X E (BT.gU F R D G as) σ H1) I ⟨m,s',h,.r n,h1,RR,S,e1,λv H1 m1 x1 R1 r1=>⟨ty_list R1 r1 ok,m1,s',h1,c0,h',R1,S.ext x1,ee,post.ext x1⟩⟩) λv s1 zq=>?_);obtain ⟨x,H1,I1,r1,ty,q1⟩:=zq;obtain ⟨t1,t2⟩:=vD I1 r1 ty;refine ⟨"list","list.append",Vp,XC,XA,t1,t2,?_⟩;have hA:=hx cpos zt s1 σ H1 (λ_ _=>False) I1 q1;rw[cY hst'.1] at hA ⊢;refine Vz (by show (ai||(VS cpos (T5 es X.env)).any (·.1))=ai;rw[fm hst'.2];rfl) (VM ?_);exact thn hA λus s2 z=>z.elim
  | _=>exact cS ee
end
mutual
inductive CXE (sc:Um) (N:List az):BT.E->SR->Prop where
 | call (hg:d8 sc f=ah) (hn:d7 f=ah) (ha:CEs sc N as es) (hx:sF sc N as es):CXE sc N (.call f as) (.Call (.Name f np) es [] p)
 | idx (ha:CXE sc N a x):CXE sc N (.idx a i) (.Subscript x sl p)
 | bin (ha:CXE sc N a x):CXE sc N (.bin o a b) (.BinOp x op y p)
 | ite {c a b:BT.E}{t x y:SR}{p:Pos} (h:tOK c=ah) (hc:CE' sc N c t) (ha:CXE sc N a x) (hb:CXE sc N b y):CXE sc N (.ite c a b) (.IfExp t x y p)
 | lst {mu:Bool}{as:BT.Es}{es:List SR}{p:Pos} (hx:sF sc N as es):CXE sc N (.lst mu as) (.List es p)
 | app {e:SR}{es:List SR} (h3:d9 oe=ah) (h6:(apos.endLine==cpos.line)=ah) (h7:(e::es).length < 20) (ho:CE' sc N o oe) (hx:sF sc N as (e::es)):CXE sc N (.me .append o as) (.Call (.Attribute oe "append" apos) (e::es) [] cpos)
 | no (h:noX a=ah):CXE sc N a x
inductive sF (sc:Um) (N:List az):BT.Es->List SR->Prop where
 | nil:sF sc N .nil []
 | cons {a:BT.E}{as:BT.Es}{e:SR}{es:List SR} (hs:noStar e=ah) (hc:CE' sc N a e) (ha:CXE sc N a e) (hr:sF sc N as es):sF sc N (.cons a as) (e::es)
end
mutual
inductive CXS (sc:Um) (N:List az) (ra:List az):BT.S->Tg->Prop where
 | rai (hu:gq N=ah) (hx:ra.contains c=ah) (hg:d8 sc c=ah) (hn:d7 c=ah) (hl:t.length<=1000) (he:CE' sc N e v) :
  CXS sc N ra (.rai c e) (.Raise (aa (.Call (.Name c np) [.JoinedStr [.Constant (.str t) j p1,.FormattedValue v 114 af p2] p3] [] cpos)) af pos)
 | bad {st:Tg}:CXS sc N ra .bad st
 | ex (h:mW v=ah) (he:CXE sc N e v):CXS sc N ra (.ex e) (.Expr v p)
 | ret (he:CXE sc N e v):CXS sc N ra (.ret e) (.Return (aa v) p)
 | set {st:Tg} (h:noX e=ah):CXS sc N ra (.set i e) st
 | setx (h:mW v=ah) (he:CXE sc N e v):CXS sc N ra (.set i e) (.Assign [.Name x np] v p)
 | forb {tg:List (Nat×az)}{sr:BT.Sr}{sa:BT.Es}{b:BT.S}{te iter:SR}{xs:List Tg}{p:Pos} (hu:gq N=ah) (hn:Kc sa=ah) (ht:CT sc N tg te) (hi:CI sc N sr sa iter) (hz:nk sr te=ah) (hs:iR iter=ah) (hb:CSs sc N b xs) (hx:iH sc N ra b xs):CXS sc N ra (.for tg sr sa b) (.For te iter xs [] p)
 | setcx {i:Nat}{mu mu2:Bool}{sr:BT.Sr}{sa:BT.Es}{tg:List az}{fv:List (Nat×az)}{elt:BT.E}{te iter elt':SR}{scope:Um}{x:az}{pos np tp cp p:Pos} (hu:gq N=ah) (hr:ra≠[]) (hg:d8 sc "tuple"=ah) (hk:jf sc N tg fv scope=ah) (ht:oQ (dW scope sc) tg te=ah) (hz:nk sr te=ah) (hs:iR iter=ah) (hi:CI sc N sr sa iter) (he:CE' (dW scope sc) (tg++fv.map (·.2)) elt elt') (hx:CXE (dW scope sc) (tg++fv.map (·.2)) elt elt') :
  CXS sc N ra (.set i (.bi .tuple mu2 (.cons (.comp mu sr sa tg fv .nil elt) .nil))) (.Assign [.Name x np] (.Call (.Name "tuple" tp) [.ListComp elt' [⟨te,iter,[],0⟩] scope pos] [] cp) p)
 | ife {c:BT.E}{a b:BT.S}{t:SR}{xs ys:List Tg}{p:Pos} (h:tOK c=ah) (hc:CE' sc N c t) (ha:iH sc N ra a xs) (hb:iH sc N ra b ys):CXS sc N ra (.ife c a b) (.If t xs ys p)
inductive iH (sc:Um) (N:List az) (ra:List az):BT.S->List Tg->Prop where
 | nil {sts:List Tg}:iH sc N ra .nil sts
 | bads {sts:List Tg}:iH sc N ra .bad sts
 | one {st:Tg} (h:CXS sc N ra s st):iH sc N ra s (st::r)
 | cons {a b:BT.S}{st:Tg}{r:List Tg} (hn:CS sc N a st) (h:CXS sc N ra a st) (hr:iH sc N ra b r):iH sc N ra (.seq a b) (st::r)
end
theorem qG:∀ {as:BT.Es}{es:List SR},sF sc N as es->dm es=ah
 | _,_,.nil=>rfl
 | _,_,.cons hs _ _ hr=>by simp only[dm,SM];exact ⟨hs,qG hr⟩
structure MadeX (ra:List az) (X:Cx) (E:XK):Prop where
 made:∀ zt σ H s1 h2 a args C,Inv X zt σ H s1->WU s1.heap h2 a (.ref C) args->E (.ref C) af H->X.xe (.ref a) { s1 with heap:=h2 }
 cls:∀ c,ra.contains c=ah->∃ C,CN X.K c C/\X.mg c=aa (.ref C)/\lU X.K C
 held:CG X E
section
variable {F:FT}{R:BT.XF}{D:az->Bool}{G:az->Option BT.W}{E:XK}{X:Cx}{sc:Um}{N:List az}{ra:List az}
theorem sEs (h:CEs sc N as es) (O:Ok X F G sc N):PA X es (tDs X F G as):=sQ h X O
mutual
theorem sXE (O:Ok X F G sc N) (O1:OkX X R D E):∀ {e:BT.E}{v:SR},CXE sc N e v->PXE X v (xD X E (BT.rsE F R D G e))
 | _,_,.call hg hn ha hx=>CJ O O1 hg hn ha (sEs ha O) (Gf O O1 hx)
 | _,_,.idx ha=>λzt s σ H Q I q=>XX (sXE O O1 ha zt s σ H _ I (by
  obtain ⟨m,s',h,c0,h',RR,S,ee,post⟩:=q;exact ⟨m,s',h,c0,h',RR,S,ee,post⟩))
 | _,_,.bin ha=>λzt s σ H Q I q=>wpAny_BinOp (sXE O O1 ha zt s σ H _ I (by
  obtain ⟨m,s',h,c0,h',RR,S,ee,post⟩:=q;exact ⟨m,s',h,c0,h',RR,S,ee,post⟩))
 | _,_,@CXE.ite _ _ c a b t x y p h hc ha hb=>λzt s σ H Q I q=>by
  obtain ⟨m,s',h0,c0,h',RR,S,ee,post⟩:=q;simp only[BT.xe8] at ee;unfold BT.rsI at ee;split at ee
  ·rename_i h1 e1;refine wpAny_IfExp (thn ((sT hc O h).1 zt s σ H (λd H1=>d=ah/\xD X E (BT.rsE F R D G a) σ H1) I ⟨m,s',h0,ah,h1,RR,S,e1,λH1 m1 x1 R1=>⟨rfl,m1,s',h1,c0,h',R1,S.ext x1,ee,post.ext x1⟩⟩) λd s1 zq=>?_);obtain ⟨H1,I1,q1,q2⟩:=zq;subst q1;exact sXE O O1 ha zt s1 σ H1 Q I1 q2
  ·rename_i h1 e1;refine wpAny_IfExp (thn ((sT hc O h).1 zt s σ H (λd H1=>d=ai/\xD X E (BT.rsE F R D G b) σ H1) I ⟨m,s',h0,ai,h1,RR,S,e1,λH1 m1 x1 R1=>⟨rfl,m1,s',h1,c0,h',R1,S.ext x1,ee,post.ext x1⟩⟩) λd s1 zq=>?_);obtain ⟨H1,I1,q1,q2⟩:=zq;subst q1;exact sXE O O1 hb zt s1 σ H1 Q I1 q2
  exact cS ee
 | _,_,.lst hx=>Ge (Gf O O1 hx)| _,_,.app h3 h6 h7 ho hx=>we h3 h6 h7 (qG hx) (sE ho O) (Gf O O1 hx)
 | _,_,.no h=>λzt s σ H Q I q=>by obtain ⟨m,s',h0,c0,h',RR,S,ee,post⟩:=q;rw[sD h] at ee;exact cS ee
theorem Gf (O:Ok X F G sc N) (O1:OkX X R D E):∀ {as:BT.Es}{es:List SR},sF sc N as es->PXA X es (xD X E (BT.gU F R D G as))
 | _,_,.nil=>λpos zt s σ H Q I q=>by obtain ⟨m,s',h0,c0,h',RR,S,ee,post⟩:=q;simp only[BT.xa1,BT.xa2] at ee;exact cS ee
 | _,_,@sF.cons _ _ a as e es hs hc ha hr=>λpos zt s σ H Q I q=>by
  obtain ⟨m,s',h0,c0,h',RR,S,ee,post⟩:=q;simp only[BT.xa1,BT.xa2] at ee;rw[cY hs];show ay _ _ (Y6 ((ai,eval e X.env)::VS pos (T5 es X.env))) _ _ s;unfold BT.rsA at ee;split at ee
  ·rename_i z g1 e1;refine Vu (thn (sE hc O zt s σ H (λv H1=>xD X E (BT.gU F R D G as) σ H1) I ⟨m,s',h0,z,g1,RR,S,e1,λv H1 m1 x1 R1 r1=>⟨m1,s',g1,c0,h',R1,S.ext x1,ee,post.ext x1⟩⟩) λu s1 zq=>?_);obtain ⟨v,H1,I1,rv,q1⟩:=zq;exact Gf O O1 hr pos zt s1 σ H1 _ I1 q1
  exact Vu (sXE O O1 ha zt s σ H _ I ⟨m,s',h0,c0,h',RR,S,ee,post⟩)
end
theorem Ke (O:Ok X F G sc N) (hu:gq N=ah) (M:MadeX ra X E) (hx:ra.contains c=ah) (hg:d8 sc c=ah) (hn:d7 c=ah) (hl:t.length<=1000) (he:CE' sc N e v) :
 PXS X (.Raise (aa (.Call (.Name c np) [.JoinedStr [.Constant (.str t) j p1,.FormattedValue v 114 af p2] p3] [] cpos)) af pos) (xD X E (BT.rsS F R D G (.rai c e))):=by
 intro zt s σ H Q I q;obtain ⟨C,hC,hm,xc⟩:=M.cls c hx;obtain ⟨m,s',h,c0,h',RR,S,ee,post⟩:=q;simp only[BT.xs1] at ee;split at ee
 ·rename_i d h2 e1;split at ee
  ·rename_i hb;cases ee;refine Cz (eX O hg) hn hm xc (O.calm hu) hl (sE he O) I ⟨m,s',h,_,_,RR,S,e1,λv H1 m1 x1 R1 r1=>?_⟩;cases r1 with
   | p r1 =>
    refine ⟨?_,λs1 h2 a args I1 hx=>M.made _ _ _ _ _ _ _ _ I1 hx (post H1 m1 x1 R1 C hC)⟩;cases r1 with
    | int i=>exact .int (by simpa [BT.big] using hb)| str x hx=>exact .str (by simpa using hb)| non=>exact .non| bl b=>exact .bl| _=>exact BT.dS hb
  exact cS ee
 exact cS ee
mutual
theorem sXS (O:Ok X F G sc N) (O1:OkX X R D E) (M:ra≠[]->MadeX ra X E) (hf:∀ x,X.fn x=ah):∀ {s:BT.S}{st:Tg},CXS sc N ra s st->PXS X st (xD X E (BT.rsS F R D G s))
 | _,_,.rai hu hx hg hn hl he=>Ke O hu (M (by rintro rfl;exact BT.dS hx)) hx hg hn hl he
 | _,_,.bad=>λzt s σ H Q I q=>by obtain ⟨m,s',h,c0,h',RR,S,ee,post⟩:=q;exact cS ee
 | _,_,.ex h he=>λzt s σ H Q I q=>by refine wpAny_Expr_any (sXE O O1 he zt s σ H _ I ?_) I.quiet (j9 h);obtain ⟨m,s',h,c0,h',RR,S,ee,post⟩:=q;exact ⟨m,s',h,c0,h',RR,S,ee,post⟩
 | _,_,.ret he=>λzt s σ H Q I q=>by refine wpAny_Return_some (sXE O O1 he zt s σ H _ I ?_);obtain ⟨m,s',h,c0,h',RR,S,ee,post⟩:=q;exact ⟨m,s',h,c0,h',RR,S,ee,post⟩
 | _,_,.set h=>λzt s σ H Q I q=>by obtain ⟨m,s',h0,c0,h',RR,S,ee,post⟩:=q;simp only[BT.xs6] at ee;rw[sD h] at ee;exact cS ee
 | _,_,.setx h he=>λzt s σ H Q I q=>by obtain ⟨m,s',h0,c0,h',RR,S,ee,post⟩:=q;simp only[BT.xs6] at ee;exact XQ (sXE O O1 he zt s σ H _ I ⟨m,s',h0,c0,h',RR,S,ee,post⟩) (j9 h)
 | _,_,@CXS.forb _ _ _ tg sr sa b te iter xs p hu hn ht hi hz hs hb hx=>λzt s σ H Q I q=>by
  obtain ⟨g,hg1,hg2⟩:=sCT O (O.calm hu) ht (λq _=>.inl (hf q.2));have hbb:PSs X xs (λD' σ H=>tDS X F G b D' σ H\/xD X E (BT.rsS F R D G b) σ H):=λzt s σ H D' I q=>q.elim (λq=>sSs O hf hb zt s σ H D' I q) λq=>Aj O O1 M hf hx zt s σ H _ I q;obtain ⟨m,s',h,c0,h',RR,S,ee,post⟩:=q;simp only[BT.xs9] at ee;rw[yp hn,BT.CB] at ee;split at ee
  ·refine thn (AU O.own (O.calm hu) (sCI hi O hz) hg1 hbb (nS hs) zt s σ H { nx:=λ_ _=>False,rt:=λ_ _=>False } I (Gd hg2 RR S ee post)) λfl s2 q=>?_;cases fl with
   | ret u=>obtain ⟨_,_,_,_,_,z⟩:=q;exact z.elim| _=>obtain ⟨_,_,_,z⟩:=q;exact z.elim
  exact cS ee
 | _,_,@CXS.setcx _ _ _ i mu mu2 sr sa tg fv elt te iter elt' scope x pos np tp cp p hu hr hg hk ht hz hs hi he hx=>λzt s σ H Q I q=>by
  obtain ⟨m,s',h,c0,h',RR,S,ee,post⟩:=q;simp only[BT.xs6,BT.xe3,BT.xa1,BT.xa2] at ee;have PX:PXE X (.ListComp elt' [⟨te,iter,[],0⟩] scope pos) (xD X E (BT.rsE F R D G (.comp mu sr sa tg fv .nil elt))):=CH O O1 (M hr).held hu hk ht hs (sCI hi O hz) (λX' O'=>sE he O') λX' O' O2=>sXE O' O2 hx;have ee:BT.rsE F R D G (.comp mu sr sa tg fv .nil elt) s' h=aa (c0,h'):=by unfold BT.rsA at ee;split at ee;exact cS ee;exact ee
  refine XQ ?_ (j9 rfl);refine Vb (kM I (eX O hg) (O.blt _ (by decide)) (show VR "tuple"=aa (.type "tuple") by decide +kernel) ?_ (by decide) (by decide));refine UB ?_ (cY rfl) rfl;show ay _ _ (Y6 ((ai,eval (.ListComp elt' [⟨te,iter,[],0⟩] scope pos) X.env)::VS cp (T5 [] X.env))) _ _ s;exact Vu (PX zt s σ H _ I ⟨m,s',h,c0,h',RR,S,ee,post⟩)
 | _,_,@CXS.ife _ _ _ c a b t xs ys p h hc ha hb=>λzt s σ H Q I q=>by
  obtain ⟨m,s',h0,c0,h',RR,S,ee,post⟩:=q;simp only[BT.xs3] at ee;unfold BT.rsI at ee;split at ee
  ·rename_i h1 e1;refine wpAny_If (thn ((sT hc O h).1 zt s σ H (λd H1=>d=ah/\xD X E (BT.rsS F R D G a) σ H1) I ⟨m,s',h0,ah,h1,RR,S,e1,λH1 m1 x1 R1=>⟨rfl,m1,s',h1,c0,h',R1,S.ext x1,ee,post.ext x1⟩⟩) λd s1 zq=>?_);obtain ⟨H1,I1,q1,q2⟩:=zq;subst q1;exact Aj O O1 M hf ha zt s1 σ H1 Q I1 q2
  ·rename_i h1 e1;refine wpAny_If (thn ((sT hc O h).1 zt s σ H (λd H1=>d=ai/\xD X E (BT.rsS F R D G b) σ H1) I ⟨m,s',h0,ai,h1,RR,S,e1,λH1 m1 x1 R1=>⟨rfl,m1,s',h1,c0,h',R1,S.ext x1,ee,post.ext x1⟩⟩) λd s1 zq=>?_);obtain ⟨H1,I1,q1,q2⟩:=zq;subst q1;exact Aj O O1 M hf hb zt s1 σ H1 Q I1 q2
  exact cS ee
theorem Aj (O:Ok X F G sc N) (O1:OkX X R D E) (M:ra≠[]->MadeX ra X E) (hf:∀ x,X.fn x=ah):∀ {s:BT.S}{sts:List Tg},iH sc N ra s sts->Q2 X sts (xD X E (BT.rsS F R D G s))
 | _,_,.nil=>λzt s σ H Q I q=>by obtain ⟨m,s',h,c0,h',RR,S,ee,post⟩:=q;exact cS ee
 | _,_,.bads=>λzt s σ H Q I q=>by obtain ⟨m,s',h,c0,h',RR,S,ee,post⟩:=q;exact cS ee
 | _,_,.one h=>λzt s σ H Q I q=>Vv (sXS O O1 M hf h zt s σ H _ I q)
 | _,_,@iH.cons _ _ _ a b st r hn h hr=>λzt s σ H Q I q=>by
  obtain ⟨m,s',h0,c0,h',RR,S,ee,post⟩:=q;simp only[BT.xs2] at ee;cases g:BT.evS F G a s' h0 with
  | none =>
   rw[g] at ee;exact Vv (sXS O O1 M hf h zt s σ H _ I ⟨m,s',h0,c0,h',RR,S,ee,post⟩)
  | some fl =>
   rw[g] at ee;cases fl with
   | nx s2 h2 =>
    simp only at ee;refine Vv (thn (sS O hf hn zt s σ H { nx:=fun σ' H'=>xD X E (BT.rsS F R D G b) σ' H',rt:=λ_ _=>False } I ⟨m,s',h0,.nx s2 h2,RR,S,g,fun σ' H1 m1 x1 R1 S1=>⟨m1,s2,h2,c0,h',R1,S1,ee,post.ext x1⟩⟩) λf s1 q=>?_);cases f with
    | next =>
     obtain ⟨σ',H1,I1,q1⟩:=q;exact Aj O O1 M hf hr zt s1 σ' H1 Q I1 q1
    | ret u=>obtain ⟨_,_,_,_,_,z⟩:=q;exact z.elim| _=>obtain ⟨_,_,_,z⟩:=q;exact z.elim
   | _=>exact cS ee
end
end
noncomputable def Q4 (P:Td) (w:Tz) (K:SA) (mg:az->Option aA) (base:au) (N:List az) (q:az) (sc:Um) (cl:List (az×S6)) (f c':S6) (A:Ub) (outer:List Env) (s:SL) (H:Hp) (E:XK):Cx :=
 { Np P w K mg base N q sc cl f c' A outer s H with xe:=λe s'=>ay (Ti P w) (A.deeper (Wo q sc s.heap.objs.size f (.ref c') cl)) (Y9 (Wo q sc s.heap.objs.size f (.ref c') cl) e) (λ_ s''=>CX1 P w outer H s E e s'') (λe' s''=>CX1 P w outer H s E e' s'') s' }
section
variable {P:Td}{w:Tz}{K:SA}{mg:az->Option aA}{base:au}{N:List az}{q:az}{sc:Um}{cl:List (az×S6)}{f c':S6}{A:Ub}{outer:List Env}{s:SL}{H:Hp}{E:XK}
end
inductive CK (rn:List az) (K:SA) (c m:az) (fn:BT.Fn):Prop where
 | mk (C f:S6) (fd:UQ) (x qual:az) (st:Tg) (h1:uu K c C) (h2:Iz K C m f) (h3:Fun K x qual st f fd) (h4:eV fn.ns fn.ps (cU st)) (h5:Binds K fd fn.ps []) (h6:iH (cU st) fn.ns rn fn.body (dz st)) (h7:jz K qual fd fn):CK rn K c m fn
structure yq (rn:List az) (K:SA) (c m:az) (fn:BT.Fn):Prop where
 ex:CK rn K c m fn
inductive HC (rn:List az) (K:SA) (mg:az->Option aA) (x:az) (fn:BT.Fn):Prop where
 | mk (f:S6) (fd:UQ) (st:Tg) (h1:mg x=aa (.ref f)) (h2:Fun K x x st f fd) (h3:eV fn.ns fn.ps (cU st)) (h4:Binds K fd fn.ps []) (h5:iH (cU st) fn.ns rn fn.body (dz st)) (h6:jz K x fd fn):HC rn K mg x fn
structure CM (rn:List az) (K:SA) (mg:az->Option aA) (x:az) (fn:BT.Fn):Prop where
 ex:HC rn K mg x fn
structure Ak (rn:List az) (K:SA) (mg:az->Option aA) (TX:BT.FK->Option BT.Fn):Prop where
 defs:∀ x fn,TX (.f x)=aa fn->CM rn K mg x fn
 meths:∀ c m fn,TX (.m c m)=aa fn->yq rn K c m fn
 cls:∀ c,rn.contains c=ah->∃ C,CN K c C/\mg c=aa (.ref C)/\lU K C
 lams:∀ L fn,TX (.l L)=aa fn->False
theorem wg (e:BT.fz T TX G k x ws h=aa r):∃ fn,TX x=aa fn:=by
 cases k with
 | zero=>exact cS e
 | succ k =>
  rw[BT.fz] at e;cases q:TX x with
  | none=>rw[q] at e;exact cS e| some fn=>exact ⟨fn,rfl⟩
theorem NJ (X:Txt P w K mg T G) {ps:List az}{E:XK}
 (nd:N.Nodup) (nt:∀ x,N.contains (BT.iQ x)=ai) (hr:f9 (2*k+1) (A.deeper (Vs qual (cU st) s.heap.objs.size f cdv))):Ok (dM CX P w K mg base N qual (cU st) f cdv A outer s H E) (BT.runN T G k) G (cU st) N :=
 yl X (kg X k).1 (kg X k).2 rfl rfl rfl rfl rfl rfl rfl nd rfl hr Yy λ_ x hx=>by rw[nt x] at hx;exact BT.dS hx
theorem CO {rn:List az}{P:Td}{w:Tz}{mg:az->Option aA}{base:au}{T TX:BT.FK->Option BT.Fn}{G:az->Option BT.W}{k:Nat}{E:XK}{Z:Cx} (X:Txt P w K mg T G) (Y:Ak rn K mg TX)
 (ih:∀ (x:BT.FK) (fn:BT.Fn),TX x=aa fn->∀ (f:S6) (fd:UQ) (nm qual:az) (st:Tg),Fun K nm qual st f fd->eV fn.ns fn.ps (cU st)->iH (cU st) fn.ns rn fn.body (dz st)->jz K qual fd fn->gH P w K mg base (CX1 P w) (2*k) f fd fn.ps (spX P w K (BT.fz T TX G k x)))
 (il:∀ L,(∃ fn,TX (.l L)=aa fn)->J0 P w K mg base (2*k) L (BT.fz T TX G k (.l L)))
 (e1:Z.prog=P) (e2:Z.w=w) (e3:Z.K=K) (e4:Z.mg=mg) (e5:Z.base=base) (hr:f9 (2*k+1) Z.A) (ps:kO (CX1 P w) Z E):OkX Z (BT.fz T TX G k) (BT.dk T) E:=by
 subst e1 e2 e3 e4 e5;refine ⟨λc g ws h r e=>?_,λg ws h r e=>?_,λf hf=>?_,ps,λL ws h r e=>⟨2*k,hr.mono (U8 _),il L (wg e)⟩⟩
 ·obtain ⟨fn',hTg⟩:=wg e;obtain ⟨C,f',fd',x',q',st',b1,b3,a2,a3,a4,a5,a6⟩:=(Y.meths c g fn' hTg).ex;exact ⟨C,f',fd',fn'.ps,2*k,b1,b3,a4,hr.mono (U8 _),ih _ fn' hTg f' fd' x' q' st' a2 a3 a5 a6⟩
 ·obtain ⟨fn',hTg⟩:=wg e;obtain ⟨f',fd',st',b1,a2,a3,a4,a5,a6⟩:=(Y.defs g fn' hTg).ex;exact ⟨f',fd',fn'.ps,2*k,b1,a2.kp,a4,hr.mono (U8 _),ih _ fn' hTg f' fd' g g st' a2 a3 a5 a6⟩
 ·obtain ⟨fn,hT⟩:=Option.isSome_iff_exists.mp hf;obtain ⟨fa,fd,st,a1,a2,_⟩:=(X.defs f fn hT).ex;exact ⟨fa,a1,a2.kp⟩
theorem Gg (F:Fun K x qual st f fd) (S:eV N ps (cU st)) (len:∀ vs H Q E,sp vs H Q E->vs.length=ps.length)
 (hbody:∀ (cdv:aA) (A:Ub) (outer:List Env) (s:SL) (H:Hp) (vs:List V) (Q:VK) (E:XK),fd.code=cdv->f9 k (A.deeper (Vs qual (cU st) s.heap.objs.size f cdv))->Mod K mg base->sp vs H Q E →
  ∃ t,PSs (dM CX P w K mg base N qual (cU st) f cdv A outer s H E) (dz st) t/\t { nx:=λ_ H'=>Q .non H',rt:=Q } (L2.start N vs) H):gH P w K mg base CX (k+1) f fd ps sp:=by
 obtain ⟨oc,od,kV,doc,pm,an,cdv,ct,osl,rfl,lk,hcd⟩:=F.ex;refine ⟨len,λA outer s H args us vs Q E hr e0 hb r hs=>?_⟩;have F1:gH P w K mg base CX (k+1) f (UO x qual (f7 st) (dz st) (cU st) .none kV doc pm an cdv ct) ps sp:=A4 lk hcd S len λA outer s H vs Q E hr hsp=>hbody cdv A outer s H vs Q E rfl hr e0.mod hsp;exact F1.run A outer s H args us vs Q E hr e0 hb r hs
theorem uI {rn:List az}{P:Td}{w:Tz}{mg:az->Option aA}{base:au}{T TX:BT.FK->Option BT.Fn}{G:az->Option BT.W} (X:Txt P w K mg T G) (Y:Ak rn K mg TX) :
 ∀ (k:Nat),(∀ (x:BT.FK) (fn:BT.Fn),TX x=aa fn->∀ (f:S6) (fd:UQ) (nm qual:az) (st:Tg),Fun K nm qual st f fd->eV fn.ns fn.ps (cU st)->iH (cU st) fn.ns rn fn.body (dz st)->jz K qual fd fn->gH P w K mg base (CX1 P w) (2*k) f fd fn.ps (spX P w K (BT.fz T TX G k x)))/\∀ L,(∃ fn,TX (.l L)=aa fn)->J0 P w K mg base (2*k) L (BT.fz T TX G k (.l L)):=by
 intro k
 induction k with
 | zero =>
  refine ⟨?_,λL hL A outer s H f us vs cvs m ws cs h z h' Q E hr e0 rv R rw nc la rc e post=>nomatch e⟩;intro x fn hT f fd nm qual st h2 h3 h5 h6;have no:∀ vs H Q E,¬ spX P w K (BT.fz T TX G 0 x) vs H Q E:=λvs H Q E h=>by obtain ⟨m,ws,h,z,h',_,_,e,_⟩:=h;exact cS e
  exact ⟨λvs H Q E h=>absurd h (no vs H Q E),λA outer s H args us vs Q E _ _ _ _ h=>absurd h (no vs H Q E)⟩
 | succ k ihk =>
  obtain ⟨ih,il⟩:=ihk;refine ⟨?_,λL hL=>?_⟩
  rotate_left
  ·obtain ⟨fn,hT⟩:=hL;exact (Y.lams L fn hT).elim
  intro x fn hT f fd nm qual st h2 h3 h5 h6;show gH P w K mg base (CX1 P w) (2*k+1+1) f fd fn.ps (spX P w K (BT.fz T TX G (k+1) x));have inv:∀ {ws:List BT.W}{h:BT.HH}{r:az×BT.HH},BT.fz T TX G (k+1) x ws h=aa r->ws.length=fn.ps.length/\BT.rsS (BT.runN T G k) (BT.fz T TX G k) (BT.dk T) G fn.body (BT.dN fn.ns.length ws) h=aa r:=λ{ws h r} e=>by rw[BT.fz,hT] at e;simp only at e;split at e;rename_i c;exact ⟨c,e⟩;exact cS e
  refine Gg h2 h3 (λvs H Q E h=>?_) λcdv A outer s H vs Q E hcd hr hM h=>?_
  ·obtain ⟨m,ws,h,c,h',R,r,e,post⟩:=h;rw[r.length];exact (inv e).1
  ·obtain ⟨m,ws,h,c,h',R,r,e,post⟩:=h;have O:Ok (dM (CX1 P w) P w K mg base fn.ns qual (cU st) f cdv A outer s H E) (BT.runN T G k) G (cU st) fn.ns:=by refine yl X (kg X k).1 (kg X k).2 rfl rfl rfl rfl rfl rfl rfl h3.nd rfl hr Yy λ_ y hy=>?_;obtain ⟨t1,t2,⟨c,Pt,t3,t4,t5,t6⟩,bm,ob,t7,t8,t9,t10,t11,t12⟩:=h6 y hy;exact ⟨t2,⟨c,Pt,t3,hcd.symm.trans t4,VP hM.kin t5,t6⟩,by show qual++".<locals>."=_;rw[t1],bm,ob,Ua hM.kin hM.glob t7,t8,hM.kin _ _ t9,t10,t11,t12⟩
   have O1:OkX (dM (CX1 P w) P w K mg base fn.ns qual (cU st) f cdv A outer s H E) (BT.fz T TX G k) (BT.dk T) E:=CO (base:=base) X Y ih il rfl rfl rfl rfl rfl hr (ND λ_ _ z=>z);have M:MadeX rn (dM (CX1 P w) P w K mg base fn.ns qual (cU st) f cdv A outer s H E) E:=⟨λzt σ H s1 h2 a args C I hx hE=>Ga I hx hE,Y.cls,Gc λ_ _ z=>z⟩;exact ⟨λD σ H'=>xD (dM (CX1 P w) P w K mg base fn.ns qual (cU st) f cdv A outer s H E) E (BT.rsS (BT.runN T G k) (BT.fz T TX G k) (BT.dk T) G fn.body) σ H',
    λzt s σ H D I q=>Aj O O1 (λ_=>M) (λ_=>rfl) h5 zt s σ H _ I q,m,_,h,c,h',R,jJ r,(inv e).2,post⟩
noncomputable def lW (tn:az) (told:List BT.W->BT.HH->Option (BT.W×BT.HH)) (F:FT):FT:=λx=>match x with
 | .f y=>if y=tn then told else F (.f y)
 | .m c m=>F (.m c m)| .l L=>F (.l L)
theorem uJ:lW tn told F (.f tn)=told:=if_pos rfl
theorem yr (h:¬ y=tn):lW tn told F (.f y)=F (.f y):=if_neg h
theorem Gi (O:Ok X F G sc N)
 (h1:X.mg tn=aa (.ref fa)) (h2:TM X.K (.ref fa)=ah) (h3:Binds X.K fd ps []) (h4:f9 k X.A) (h5:gH X.prog X.w X.K X.mg X.base CX0 k fa fd ps (spF X.prog X.w X.K told)):Ok X (lW tn told F) G sc N :=
 ⟨O.hsc,O.hN,O.nd,O.calm,O.hu,O.own,O.glob,λf ws h r e=>by
  by_cases c:f=tn
  ·subst c;rw[uJ];exact ⟨fa,fd,ps,k,h1,h2,h3,h4,h5⟩
  ·rw[yr c] at e ⊢;exact O.call f ws h r e,O.meth,O.mkc,O.blt,O.lam,O.lamx⟩
noncomputable def uK (F:FT) (G:az->Option BT.W) (fn:BT.Fn) (ws:List BT.W) (h:BT.HH):Option (BT.W×BT.HH):=if ws.length=fn.ps.length then BT.gS (BT.evS F G fn.body (BT.dN fn.ns.length ws) h) (BT.fin h) else af
section
variable {K:SA}
theorem CP (X:Txt P w K mg T G) (k:Nat) (h2:Fun K nm qual st f fd) (h3:eV fn.ns fn.ps (cU st)) (h5:CSs (cU st) fn.ns fn.body (dz st)) (h6:jz K qual fd fn)
 (q1:mg tn=aa (.ref fa)) (q2:TM K (.ref fa)=ah) (q3:Binds K fd' ps []) (q5:gH P w K mg base CX0 (2*k) fa fd' ps (spF P w K told)) :
 gH P w K mg base CX0 (2*k+1+1) f fd fn.ps (spF P w K (uK (lW tn told (BT.runN T G k)) G fn)):=by
 refine yk h2 h3 (λvs H Q E h=>?_) λcdv A outer s H vs Q E hcd hr hM h=>?_
 ·obtain ⟨m,ws,h,z,h',R,r,e,post⟩:=h;unfold uK at e;split at e;rename_i c;rw[r.length];exact c;cases e
 ·obtain ⟨m,ws,h,z,h',R,r,e,post⟩:=h;unfold uK at e;split at e
  ·have O:Ok (dM CX0 P w K mg base fn.ns qual (cU st) f cdv A outer s H E).nox (BT.runN T G k) G (cU st) fn.ns:=by refine yl X (kg X k).1 (kg X k).2 rfl rfl rfl rfl rfl rfl rfl h3.nd rfl hr Wi λ_ y hy=>?_;obtain ⟨t1,t2,⟨c,Pt,t3,t4,t5,t6⟩,bm,ob,t7,t8,t9,t10,t11,t12⟩:=h6 y hy;exact ⟨t2,⟨c,Pt,t3,hcd.symm.trans t4,VP hM.kin t5,t6⟩,by show qual++".<locals>."=_;rw[t1],bm,ob,Ua hM.kin hM.glob t7,t8,hM.kin _ _ t9,t10,t11,t12⟩
   have O':=Gi O (tn:=tn) (told:=told) (k:=2*k) q1 q2 q3 (hr.mono (U8 _)) q5;refine ⟨_,sSs O' (λ_=>rfl) h5,?_⟩;cases gg:BT.evS (lW tn told (BT.runN T G k)) G fn.body (BT.dN fn.ns.length ws) h with
   | none=>rw[gg] at e;cases e
   | some fl =>
    rw[gg] at e;refine ⟨m,_,h,fl,R,jJ r,gg,?_⟩;cases fl with
    | rt y g =>
     intro v H' m' x' R' r';obtain ⟨m2,y1,y2,y3⟩:=g9 e R x' R' r';exact post v H' m2 y1 y2 y3
    | nx s' g =>
     intro σ' H' m' x' R' _;obtain ⟨m2,y1,y2,y3⟩:=g9 (v:=.non) e R x' R' (.p .non);exact post .non H' m2 y1 y2 y3
    | _=>cases e
  cases e
end
noncomputable def cxT (X:Cx) (zt:List (S6×aq)) (xe':aA->SL->Prop):Cx:={ X with pn:=X.pn++zt,xe:=xe' }
theorem HD (I:Inv X zt σ H s):Inv (cxT X zt xe') [] σ H s :=
 ⟨⟨I.ok.mod,I.ok.kind,I.ok.glob,I.ok.blt,I.ok.above,I.ok.inj,I.ok.has,I.ok.cab,I.ok.hd,I.ok.frames,I.ok.stk,I.ok.exf,I.ok.bs,I.ok.bsz,I.ok.noex,I.ok.exfs,I.ok.jc,I.ok.frf⟩,
  I.os,I.bare,I.base,I.loc,I.cell,I.free,I.freeC,λp hp=>I.pin p (by simpa [cxT] using hp),I.hok,I.len⟩
theorem HE (ok:X.Ok) (I:Inv (cxT X zt xe') pins' σ H s):Inv X zt σ H s :=
 ⟨ok,I.os,I.bare,I.base,I.loc,I.cell,I.free,I.freeC,λp hp=>I.pin p (T4 _ hp),I.hok,I.len⟩
theorem NK (O:Ok X F G sc N) (own:Xw (Ti X.prog X.w) X.A X.env xe'):Ok (cxT X zt xe') F G sc N :=
 ⟨O.hsc,O.hN,O.nd,O.calm,O.hu,own,O.glob,O.call,O.meth,O.mkc,O.blt,O.lam,λhf x hx=>let L:=O.lamx hf x hx;⟨L.mem,L.ex,L.ql,L.bm⟩⟩
section
variable {K:SA}
end
noncomputable def cxI (X:Cx) (x:S6):Cx:={ X with A:=X.A.mark (aa (.ref x)),calm:=ai,xe:=λ_ _=>False }
theorem Gj (I:Inv X zt σ H s) (hx:s.heap.get? x=aa oe) (hc:oe.cls=.ref C) (cn:CN X.K c C) (xt:XT X.K c C) (hH:H x=af) (hl:x≠X.env.locals) (hd:∀ v,oe.data≠.cell v)
 (hp:∀ p∈X.pn++zt,p.1≠x) (h0:X.s₀.heap.get? x=af):Inv (cxI X x) zt σ (upd H x (.ext (excAt X.K c x))) s:=by
 have up:∀ {b:S6}{o:HO},H b=aa o->upd H x (.ext (excAt X.K c x)) b=aa o:=λ{b o} e=>by rw[dw (λz=>by rw[z,hH] at e;exact cS e)];exact e
 refine ⟨⟨I.ok.mod,I.ok.kind,I.ok.glob,I.ok.blt,I.ok.above,I.ok.inj,I.ok.has,I.ok.cab,λz=>(by exact BT.dS z),I.ok.frames,I.ok.stk,I.ok.exf,I.ok.bs,I.ok.bsz,I.ok.noex,I.ok.exfs,I.ok.jc,I.ok.frf⟩,
  I.os,I.bare,⟨I.base.keep,I.base.slot,λb o e n hb=>?_,I.base.there,λb xs e=>up (I.base.tups b xs e),λb o u e=>up (I.base.frzs b o u e),λb ps e=>?_⟩,I.loc,I.cell,?_,λy a e=>?_,λp hq=>?_,λb u e=>?_,I.len⟩
 rw[dw (λz=>by rw[z] at e;have e:X.s₀.heap.get? x=aa o:=e;rw[h0] at e;exact cS e)];exact I.base.free b o e n hb
 ·obtain ⟨more,q⟩:=I.base.tbls b ps e;exact ⟨more,up q⟩
 ·show upd H x _ X.env.locals=af;rw[dw (UM hl)];exact I.free
 ·rw[dw ?_];exact I.freeC y a e
  ·intro z;obtain ⟨v,o,ho,hdd⟩:=I.cell y a e;rw[z,hx] at ho;cases ho;exact hd v hdd
 ·obtain ⟨q1,q2,q3,q4,q5⟩:=I.pin p hq;exact ⟨q1,by rw[dw (hp p hq)];exact q2,q3,q4,q5⟩
 ·by_cases z:b=x
  ·subst z;rw[fc] at e;cases e;refine ⟨⟨oe,C,cn,xt,hx,hc⟩,⟨oe,hx⟩,λh1 h2 q k=>?_⟩;obtain ⟨o,C',a1,a2,a3,a4⟩:=q;exact ⟨o,C',a1,a2,k _ a3,a4⟩
  ·rw[dw z] at e;exact (I.hok b u e).stay (λ_ _ _ q=>q) (λ_ q=>up q) λ_ _ q=>up q
theorem Al (ok:X.Ok) (I:Inv (cxI X x) zt σ H s):Inv X zt σ H s :=
 ⟨ok,I.os,I.bare,I.base,I.loc,I.cell,I.free,I.freeC,I.pin,I.hok,I.len⟩
section
variable {K:SA}{E:XK}
end
section
variable {K:SA}
end
section
variable {P:Td}{w:Tz}{K:SA}{mg:az->Option aA}{base:au}{T TX:BT.FK->Option BT.Fn}{G:az->Option BT.W}
end
section
variable {P:Td}{w:Tz}{K:SA}{mg:az->Option aA}{base:au}{T:BT.FK->Option BT.Fn}{G:az->Option BT.W}
end
section
variable {CX:CXT}{P:Td}{w:Tz}{K:SA}{mg:az->Option aA}{base:au}{N:List az}{qual:az}{scope:Um}{f:S6}{cd:aA}{A:Ub}{outer:List Env}{s0:SL}{H0:Hp}{E E1:XK}
theorem Am {zt:List (S6×aq)}{σ:L2.St}{H1:Hp}{s1 s':SL}{e:aA}{tn n c:az}{C D:S6}{i:Nat}{p1 hp:Pos}{b0:Tg}{hb:List Tg}{Wn:Hp->Prop}{R:VK}{Q:Flow->SL->Prop}
 (I:Inv (dM CX P w K mg base N qual scope f cd A outer s0 H0 E) zt σ H1 s1) (h:CX1 P w (dM CX P w K mg base N qual scope f cd A outer s0 H0 E).stack H1 s1 E1 e s') (hE1:∀ C' d H',E1 (.ref C') d H'->C'=C/\Wn H')
 (nd:N.Nodup) (hi:N[i]?=aa n) (hln:scope.names.lookup n=aa .local) (okn:d7 n=ah) (hgD:Gl (dM CX P w K mg base N qual scope f cd A outer s0 H0 E) tn) (okD:d7 tn=ah) (hmD:mg tn=aa (.ref D)) (cnC:CN K c C) (xt:XT K c C) (xC:lU K C) (xD:lU K D) (hsub:pq K C D=ah)
 (hbd:∀ H' x,Wn H'->H' x=af->∃ t,PSs (cxI (dM CX P w K mg base N qual scope f cd A outer s0 H0 E) x) (b0::hb) t/\(σ.length=N.length->t { nx:=λ_ _=>False,rt:=R } (σ.set i (aa (.ref x))) (upd H' x (.ext (excAt K c x)))))
 (hQ:∀ v u σ' H' s'',R v H'->RelV v u->Inv (dM CX P w K mg base N qual scope f cd A outer s0 H0 E) zt σ' H' s''->Q (.ret u) s'') :
 ay (Ti P w) (dM CX P w K mg base N qual scope f cd A outer s0 H0 E).A (Xn e (dM CX P w K mg base N qual scope f cd A outer s0 H0 E).env) (λ_ s2=>ay (Ti P w) (dM CX P w K mg base N qual scope f cd A outer s0 H0 E).A (setFlight e af) (λ_ s3 =>
  ay (Ti P w) (dM CX P w K mg base N qual scope f cd A outer s0 H0 E).A (handleBy e (dM CX P w K mg base N qual scope f cd A outer s0 H0 E).env [.ExceptHandler (aa (.Name tn p1)) (aa n) (b0::hb) hp]) Q
   (dM CX P w K mg base N qual scope f cd A outer s0 H0 E).xe s3) (dM CX P w K mg base N qual scope f cd A outer s0 H0 E).xe s2) (dM CX P w K mg base N qual scope f cd A outer s0 H0 E).xe s':=by
 obtain ⟨x,C',H',B,G,a0,rfl,e1,e2,un,ho,fl,cov,hg,cv2,hE⟩:=h;obtain ⟨rfl,wn⟩:=hE1 _ _ _ hE;have J:Inv (dM CX P w K mg base N qual scope f cd A outer s0 H0 E) zt σ H' s':=I.wX (ch:=[]) e1 un ho e2 (λb z=>absurd z (by simp));have dbg:∀ {y:az},d7 y=ah->(y==("__debug__":az))=ai:=λ{y} q=>(gK q).1;refine wpAny_looks_onW I.ok.frames rfl fl λh4 held4 sm4=>?_;refine wpAny_landsW held4 λh5 fl5 sm5=>?_;have J5:Inv (dM CX P w K mg base N qual scope f cd A outer s0 H0 E) zt σ H' { s' with heap:=h5 }:=yo I J cov hg cv2 fl5.1 (sm4.trans sm5);obtain ⟨ob,hob,hobc⟩:=fl5.there;refine wpAny_handleBy_cons (codeAny_handlers_test ?_) (by intro q;cases q);refine VX J5.ok.kind hgD (Yp (by rw[J5.ok.glob];exact J5.mod.glob.keeps J5.bk) hmD ?_) (dbg okD);obtain ⟨bm,N1,nm,qn,bs,hdct,sn,sub,ab,col,dd,k0,k1,k2,k3,k5,mN,hC,hN,hni,T,lC⟩:=xC.obj I.mod.kin;obtain ⟨bm2,N2,nm2,qn2,bs2,hdct2,sn2,sub2,ab2,col2,dd2,j0,j1,j2,j3,j5,mN2,hD,hN2,hni2,T2,_⟩:=xD.obj I.mod.kin;have lC:K.lookup C'=_:=lC;have hcD:(U5 C'::bm).contains (.ref D)=ah:=by unfold pq at hsub;rw[lC] at hsub;exact hsub
 refine o9 (J5.bk _ _ hC) (J5.bk _ _ hD) hob hobc (T2.hasType rfl) hcD ?_;refine codeAny_handlers_suite_as ?_;refine lands_againW fl5 λh6 fl6 sm6=>?_;have J6:Inv (dM CX P w K mg base N qual scope f cd A outer s0 H0 E) zt σ H' { s' with heap:=h6 }:=yo I J cov hg cv2 fl6.1 ((sm4.trans sm5).trans sm6);obtain ⟨_,xB,_,oe,vs,_,_,_,hoe,⟨hoc,_⟩,hod,_⟩:=fl6;have nl:x≠(dM CX P w K mg base N qual scope f cd A outer s0 H0 E).env.locals:=λz=>by obtain ⟨m,⟨o,es,ep,ho',hd',_⟩,_⟩:=J6.loc;have ho':h6.get? _=aa o:=ho';rw[← z,hoe] at ho';cases ho';rw[hod] at hd';cases hd'
 have nH:H' x=af:=by
  cases q:H' x with
  | none=>rfl
  | some u =>
   obtain ⟨o,q2⟩:=obj_some (hg x u q);have:=cv2 x o (by rw[q];exact λz=>nomatch z) q2;rw[xB] at this;exact cS this
 have nf:x∉(dM CX P w K mg base N qual scope f cd A outer s0 H0 E).fs:=λz=>by obtain ⟨_,o,ho',hd'⟩:=J6.jc.mem z;have ho':h6.get? _=aa o:=ho';rw[hoe] at ho';cases ho';exact hd' _ hod
 have ns:∀ {b:S6}{o:aq},s1.heap.get? b=aa o->b∉frs (dM CX P w K mg base N qual scope f cd A outer s0 H0 E).stack->b≠x:=λ{b o} q1 q2 z=>by obtain ⟨o',q3,_⟩:=cov b o q1 q2;rw[z,xB] at q3;exact cS q3
 have hpn:∀ p∈(dM CX P w K mg base N qual scope f cd A outer s0 H0 E).pn++zt,p.1≠x:=λp hp=>by
  obtain ⟨q1,_,q3,q4,_⟩:=I.pin p hp;refine ns q1 λz=>?_;rcases List.mem_cons.mp (I.jA p.1 z) with q|q
  exact q3 q;exact q4 q
 have hs0:s0.heap.get? x=af:=by
  cases q:s0.heap.get? x with
  | none=>rfl
  | some o =>
   obtain ⟨o1,q1⟩:=I.base.there x o q (by simp[dM]);exact absurd rfl (ns q1 (gM I q nf))
 refine mJ J6 nd hi (.inl hln) (v:=.ref x) rfl (λs7 J7 sb=>?_) (.inr hln);have h7:s7.heap.get? x=aa oe:=by
  obtain ⟨a,sb,ha⟩:=sb;have ne:x≠a:=by
   rcases ha with rfl|ha
   exact nl
   ·intro z;obtain ⟨v,o,ho',hd'⟩:=J6.cell n a ha;have ho':h6.get? _=aa o:=ho';rw[← z,hoe] at ho';cases ho';rw[hod] at hd';cases hd'
  exact (sb.2 x ne).trans hoe
 have J8:=Gj (c:=c) J7 h7 hoc cnC xt nH nl (λv z=>by rw[hod] at z;cases z) hpn hs0;have body:ay (Ti P w) (cxI (dM CX P w K mg base N qual scope f cd A outer s0 H0 E) x).A (execs (b0::hb) (dM CX P w K mg base N qual scope f cd A outer s0 H0 E).env)
  (SP (cxI (dM CX P w K mg base N qual scope f cd A outer s0 H0 E) x) zt { nx:=λ_ _=>False,rt:=R }) (λ_ _=>False) s7:=by
  obtain ⟨t,ht,hq⟩:=hbd H' x wn nH;exact ht zt s7 _ _ _ J8 (hq J6.len)
 refine UA body (λfl s8 q=>?_) λ_ _ z=>z.elim;cases fl with
 | ret u =>
  obtain ⟨v,σ',H2,J9,rv,q⟩:=q;obtain ⟨m,hn,_⟩:=J9.loc;show ay _ _ (do bindName _ n .none;unbindBehindTheSuite _ n hp) _ _ _;exact wpAny_nameGoes hln hn (by rw[show (dM CX P w K mg base N qual scope f cd A outer s0 H0 E).env.scope.kind=.function from J.ok.kind];rfl) λh' m' hn' sb=>hQ _ _ _ _ _ q rv (CA (Al J.ok J9) hn' sb)
 | _=>obtain ⟨_,_,_,z⟩:=q;exact z.elim
end
noncomputable def lX (F:FT) (R:BT.XF) (D:az->Bool) (G:az->Option BT.W) (fn:BT.Fn) (hb:BT.S) (i:Nat) (cn:az) (ws:List BT.W) (h:BT.HH):Option (BT.W×BT.HH) :=
 if ws.length=fn.ps.length then (match BT.evS F G fn.body (BT.dN fn.ns.length ws) h with
  | some (.rt y g)=>BT.fin h y g| some _=>af
  | none=>match BT.rsS F R D G fn.body (BT.dN fn.ns.length ws) h with
   | some (c,h')=>if c=cn then (match BT.evS (λ_ _ _=>af) (λ_=>af) hb ((Te fn.ns.length af).set i (aa (.x c))) h' with
    | some (.rt y g)=>BT.fin h y g
    | _=>af) else af
   | none=>af) else af
section
variable {P:Td}{w:Tz}{K:SA}{mg:az->Option aA}{base:au}{T TX:BT.FK->Option BT.Fn}{G:az->Option BT.W}
theorem CU (X:Txt P w K mg T G) (Y:Ak rn K mg TX) {rest:List Tg}{D:S6} (cnC:CN K cn C) (xt:XT K cn C) (xC:lU K C) (hsub:pq K C D=ah)
 (h2:Fun K nm qual st f fd) (h3:eV fn.ns fn.ps (cU st)) (hB:dz st=.Try body [.ExceptHandler (aa (.Name tn p1)) (aa n) (b0::hb) hp] [] [] pos::rest)
 (h5:CSs (cU st) fn.ns fn.body body) (h6:iH (cU st) fn.ns [] fn.body body) (h7:CSs (cU st) fn.ns hbt (b0::hb)) (hu:gq fn.ns=ai) (hnt:∀ x,fn.ns.contains (BT.iQ x)=ai) (hi:fn.ns[i]?=aa n) (hln:(cU st).names.lookup n=aa .local) (okn:d7 n=ah)
 (hgD:d8 (cU st) tn=ah) (okD:d7 tn=ah) (hmD:mg tn=aa (.ref D)) (xD':lU K D) :
 gH P w K mg base CX0 (2*k+1+1) f fd fn.ps (spF P w K (lX (BT.runN T G k) (BT.fz T TX G k) (BT.dk T) G fn hbt i cn)):=by
 obtain ⟨oc,od,kV,doc,pm,an,cdv,ct,osl,rfl,lk,hcd⟩:=h2.ex;refine A4 lk hcd h3 (λvs H Q E h=>?_) λA outer s H vs Q E hr h=>?_
 ·obtain ⟨m,ws,h,z,h',R,r,e,post⟩:=h;rw[r.length];unfold lX at e;split at e;rename_i c;exact c;exact cS e
 ·obtain ⟨m,ws,h,z,h',R,r,e,post⟩:=h;unfold lX at e;split at e
  ·have O:=NJ (CX:=CX0) (base:=base) (outer:=outer) (H:=H) (E:=E) (ps:=fn.ps) X h3.nd hnt hr;rw[hB];refine ⟨λDd σ H'=>σ=L2.start fn.ns vs/\H'=H/\(∀ v H2,Dd.rt v H2↔Q v H2),?_,rfl,rfl,λ_ _=>Iff.rfl⟩;intro zt s1 σ H1 Dd I ⟨q1,q2,q3⟩;subst q1 q2;refine Vv (wpAny_Try_except ?_);cases gg:BT.evS (BT.runN T G k) G fn.body (BT.dN fn.ns.length ws) h with
   | some fl =>
    rw[gg] at e;cases fl with
    | rt y g =>
     have g0:BT.fin h y g=aa (z,h'):=e;refine thn (sSs (NK (zt:=zt) O WT) (λ_=>rfl) h5 [] s1 (L2.start fn.ns vs) H1 { nx:=λ_ _=>False,rt:=Q } (HD I) ⟨m,_,h,_,R,jJ r,gg,?_⟩) λfw s2 q=>?_
     ·intro v H' m' x' R' r';obtain ⟨m2,y1,y2,y3⟩:=g9 g0 R x' R' r';exact post v H' m2 y1 y2 y3
     ·cases fw with
      | ret u =>
       obtain ⟨v,σ',H',J,rv,z⟩:=q;exact ⟨v,σ',H',HE I.ok J,rv,(q3 _ _).mpr z⟩
      | _=>obtain ⟨_,_,_,z⟩:=q;exact z.elim
    | _=>exact cS e
   | none =>
    rw[gg] at e;simp only at e;cases g1:BT.rsS (BT.runN T G k) (BT.fz T TX G k) (BT.dk T) G fn.body (BT.dN fn.ns.length ws) h with
    | none=>rw[g1] at e;exact cS e
    | some cq =>
     obtain ⟨c,hq⟩:=cq;rw[g1] at e;simp only at e;split at e
     ·rename_i hc;subst hc;cases g2:BT.evS (λ_ _ _=>af) (λ_=>af) hbt ((Te fn.ns.length af).set i (aa (.x c))) hq with
      | none=>rw[g2] at e;exact cS e
      | some fl =>
       rw[g2] at e;cases fl with
       | rt y g =>
        have g0:BT.fin h y g=aa (z,h'):=e;refine Aj (R:=BT.fz T TX G k) (E:=λcv _ H2=>cv=.ref C/\∃ m2,Ext m H1 m2 H2/\RH K m2 H2 hq) (ra:=[]) (NK (zt:=zt) O WT) (CO (base:=base) X Y (uI X Y k).1 (uI X Y k).2 rfl rfl rfl rfl rfl hr ?_) (λz=>absurd rfl z) (λ_=>rfl) h6 [] s1 (L2.start fn.ns vs) H1 _ (HD I) ⟨m,_,h,c,hq,R,jJ r,g1,λH' m' x' R' C' hC'=>⟨by rw[hC'.inj cnC],m',x',R'⟩⟩;intro pins' σ' H2 s2 ee s3 I' hcx;refine Am (Wn:=λH2=>∃ m2,Ext m H1 m2 H2/\RH K m2 H2 hq) (R:=Q) (HE I.ok I') hcx (λC' d H' z=>⟨by have:=z.1;cases this;rfl,z.2⟩) h3.nd hi hln okn (eX O hgD) okD hmD cnC xt xC xD' hsub (λH' x wn hx=>?_) λv u σ' H' s'' q rv J=>⟨v,σ',H',J,rv,(q3 _ _).mpr q⟩;obtain ⟨m2,x2,R2⟩:=wn;have O2:Ok (cxI (dM CX0 P w K mg base fn.ns qual (cU st) f cdv A outer s H1 E) x) (λ_ _ _=>af) (λ_=>af) (cU st) fn.ns:=by refine ⟨rfl,rfl,h3.nd,λz=>absurd z (by rw[hu];decide),O.hu,Wi,λx z e=>(by exact cS e),λg ws h r e=>(by exact cS e),λc g ws h r e=>(by exact cS e),λc ws h r e=>(by exact cS e),X.blt,λL ws h r e=>(by exact cS e),λ_ x hx=>absurd hx (by rw[hnt x];decide)⟩
        refine ⟨_,sSs O2 (λ_=>rfl) h7,λhl=>⟨m2,_,hq,.rt y g,R2.new hx,?_,g2,?_⟩⟩
        ·refine RS.set ⟨by rw[hl,U7],λj y e=>?_⟩ (.x fc (R2.iW hx) ⟨C,xt⟩);rw[UF] at e;split at e<;>cases e
        ·intro v H3 m3 x3 R3 r3;obtain ⟨m4,y1,y2,y3⟩:=g9 g0 R ((x2.trans (iL hx)).trans x3) R3 r3;exact post v H3 m4 y1 y2 y3
       | _=>exact cS e
     exact cS e
  exact cS e
end
end BS
end
section
namespace BT
open PySem
noncomputable def iz:Fn:=⟨["thing"],["thing"], (.ret (.cmp .mem (.var 0) (.glo "LETTERS")))⟩
theorem yt:SE s=SE t↔s=t:=by
 constructor
 ·intro h;rw[Wx,Wx] at h;have h1:(s.toList.map Yo)=(t.toList.map Yo):=by have:=congrArg (λx:az=>x.cps.toList) h;simpa using this
  have inj:∀ (a b:List Char),a.map Yo=b.map Yo->a=b:=by
   intro a
   induction a with
   | nil=>intro b h;cases b with
    | nil=>rfl| cons _ _=>simp at h
   | cons x xs ih=>intro b h;cases b with
    | nil=>simp at h
    | cons y ys =>
     simp only[Tw,VJ] at h;have:x=y:=Char.toNat_inj.mp h.1;rw[this,ih ys h.2]
  have h2:=inj _ _ h1;exact String.toList_inj.mp h2
 intro h;rw[h]
@[simp] theorem Pd (s t:String):(SE s==SE t)=(s==t):=by
 by_cases h:s=t
 subst h;simp
 ·have h1:¬ SE s=SE t:=λe=>h (yt.mp e);rw[beq_eq_false_iff_ne.mpr h1,beq_eq_false_iff_ne.mpr h]
@[simp] theorem Q5 (s t:String):(SE s=SE t)=(s=t):=propext yt
@[simp] theorem Ss (h:List α) (a:α) (r:List α):(h++a::r)[h.length]?=aa a:=by simp
@[simp] theorem NL (h:List α) (a b:α) (r:List α):(h++a::b::r)[h.length+1]?=aa b:=by rw[Uc (by lia)];simp
@[simp] theorem Su (h:List α) (a x:α) (r:List α):(h++a::r).set h.length x=h++x::r:=by simp
@[simp] theorem Sv (h:List α) (a b x:α) (r:List α):(h++a::b::r).set (h.length+1) x=h++a::x::r:=by rw[List.set_append_right _ _ (by lia)];simp
theorem cT (h:HH) (w:W):fin h w h=aa (w,h):=by simp[fin]
theorem lY (h g:HH) (d:D):fin h (.p d) (h++g)=aa (.p d,h):=by
 unfold fin;cases g with
 | _=>simp
@[simp] theorem Sw (h:HH) (a:Cl) (r:HH):lat (h++a::r) h.length=ua a:=by simp[lat]
@[simp] theorem Sx (h:HH) (a b:Cl) (r:HH):lat (h++a::b::r) (h.length+1)=ua b:=by unfold lat;rw[NL];rfl
@[simp] theorem Sy (h:HH) (a:Cl) (r:HH):oat (h++a::r) h.length=vF a:=by simp[oat]
@[simp] theorem Sz (h:HH) (a b:Cl) (r:HH):oat (h++a::b::r) (h.length+1)=vF b:=by unfold oat;rw[NL];rfl
inductive Op where
 | add|sub|mul|less
noncomputable def Op.w:Op->String
 | .add=>"add" | .sub=>"sub" | .mul=>"mul" | .less=>"less"
inductive Nm where
 | a|b|c|d|e|f
noncomputable def Nm.w:Nm->String
 | .a=>"a" | .b=>"b" | .c=>"c" | .d=>"d" | .e=>"e" | .f=>"f"
noncomputable def Nm.ix:Nm->Nat
 | .a=>0 | .b=>1 | .c=>2 | .d=>3 | .e=>4 | .f=>5
inductive Sm where
 | num (n:Int)
 | nam (i:Nm)
 | cell (s:Sm)
 | two (o:Op) (s t:Sm)
noncomputable def Sm.enc:Sm->D
 | .num n=>.tup [.str "num",.int n]| .nam i=>.tup [.str "name",.str i.w]| .cell s=>.tup [.str "cell",s.enc]| .two o s t=>.tup [.str o.w,s.enc,t.enc]
noncomputable def Sm.size:Sm->Nat
 | .num _=>1| .nam _=>1| .cell s=>s.size+1| .two _ s t=>s.size+t.size+1
def Wth (n:Int):Prop:=0<=n/\n<=10006
noncomputable def Sm.ok:Sm->Prop
 | .num n=>Wth n| .nam _=>True| .cell s=>s.ok| .two _ s t=>s.ok/\t.ok
theorem Sm.size_pos (s:Sm):1<=s.size:=by cases s<;>simp[Sm.size]
structure St where
 row:Nat
 names:List Int
 cells:List Int
 calls:List Nat
 asked:Nat
 said:List Int
noncomputable def dh (xs:List Int):List D:=xs.map D.int
noncomputable def NN (xs:List Nat):List D:=xs.map λ(n:Nat)=>D.int (n:Int)
noncomputable def St.enc (s:St):D:=.tup [.int s.row,.tup (dh s.names),.tup (dh s.cells),.tup (NN s.calls),.int s.asked,.tup (dh s.said)]
structure St.ok (s:St):Prop where
 nlen:s.names.length=6
 clen:s.cells.length=4
 nw:∀ x∈s.names,Wth x
 cw:∀ x∈s.cells,Wth x
noncomputable def two (o:Op) (x y:Int):Int:=match o with
 | .add=>(x+y) % 10007| .sub=>(x - y) % 10007| .mul=>(x*y) % 10007
 | .less=>if x < y then 1 else 0
noncomputable def Sm.val (st:St):Sm->Int
 | .num n=>n| .nam i=>st.names.getD i.ix 0| .cell s=>st.cells.getD (s.val st % 4).toNat 0| .two o s t=>BT.two o (s.val st) (t.val st)
section
noncomputable def An:List D:=[.str "a",.str "b",.str "c",.str "d",.str "e",.str "f"]
end
section
variable {T:FK->Option Fn}{F:FK->List W->HH->Option (W×HH)}{G:az->Option W}{i:Nat}{e e' c:E}{a b:S}{s s':Sl}{h g:HH}{w:W}{d d' z:D}
theorem eU (h1:BT.ev F G e s h=aa (w,g)):evS F G (.seq (.set i e) b) s h=evS F G b (s.set i (aa w)) g:=by simp[h1]
theorem qH (h1:BT.ev F G c s h=aa (.p (.bl ai),h)):evS F G (.seq (.ife c a .nil) b) s h=evS F G b s h:=by simp[h1]
theorem jk (h1:BT.ev F G c s h=aa (.p (.bl ah),h)) (h2:BT.ev F G e s h=aa (w,g)):evS F G (.seq (.ife c (.ret e) .nil) b) s h=aa (.rt w g):=by simp[h1,h2]
theorem kY (hT:T f=aa fn) (hl:ws.length=fn.ps.length) (h1:evS (runN T G k) G fn.body (dN fn.ns.length ws) h=aa (.rt (.p d) h)):runN T G (k+1) f ws h=aa (.p d,h):=by rw[run_eq hT hl,h1];exact cT h (.p d)
theorem wj (h1:BT.ev F G e s h=aa (.p d,h)) (h2:BT.ev F G e' s h=aa (.p d',g)) (h3:gR o d d'=aa t):BT.ev F G (.cmp o e e') s h=aa (.p (.bl t),g):=by simp[h1,h2,h3]
end
section
theorem jm (xs:List α) (i:Nat):atP xs (i:Int)=xs[i]?:=by
 unfold atP place
 by_cases h:i < xs.length
 ·have h1:((i:Int) < (xs.length:Int)):=by lia
  simp[h1,h]
 ·have h1:¬ ((i:Int) < (xs.length:Int)):=by lia
  simp[h1];lia
inductive Rw where
 | set (x:Nm) (s:Sm)|put (s t:Sm)|ask (x:Nm)|say (s:Sm)|jump (p:Nat)|unless (s:Sm) (p:Nat)|call (p:Nat)|back|stop
noncomputable def Rw.enc:Rw->D
 | .set x s=>.tup [.str "set",.str x.w,s.enc]| .put s t=>.tup [.str "put",s.enc,t.enc]| .ask x=>.tup [.str "ask",.str x.w]| .say s=>.tup [.str "say",s.enc]| .jump p=>.tup [.str "jump",.int p]| .unless s p=>.tup [.str "unless",s.enc,.int p]| .call p=>.tup [.str "call",.int p]| .back=>.tup [.str "back"]| .stop=>.tup [.str "stop"]
def mY (s:Sm):Prop:=s.ok/\s.size<=15
noncomputable def Rw.ok (n:Nat):Rw->Prop
 | .set _ s=>mY s| .put s t=>mY s/\mY t| .ask _=>True| .say s=>mY s| .jump p=>p<=n| .unless s p=>mY s/\p<=n| .call p=>p<=n| .back=>True| .stop=>True
noncomputable abbrev Pg:=List Rw
noncomputable def gy (p:Pg):D:=.tup (p.map Rw.enc)
def Pg.ok (p:Pg):Prop:=∀ r∈p,r.ok p.length
noncomputable def Rw.next (asked:List Int) (st:St):Rw->St
 | .set x s=>{ st with row:=st.row+1,names:=st.names.set x.ix (s.val st) }| .put s t=>{ st with row:=st.row+1,cells:=st.cells.set (s.val st % 4).toNat (t.val st) }| .ask x=>{ st with row:=st.row+1,names:=st.names.set x.ix (asked.getD st.asked 0),asked:=st.asked+1 }| .say s=>{ st with row:=st.row+1,said:=st.said++[s.val st] }| .jump p=>{ st with row:=p }| .unless s p=>{ st with row:=if s.val st=0 then p else st.row+1 }| .call p=>{ st with row:=p,calls:=st.calls++[st.row+1] }| .back=>{ st with row:=st.calls.getLast?.getD 0,calls:=st.calls.dropLast }| .stop=>st
noncomputable def Rw.over (st:St):Rw->Bool
 | .back=>st.calls.length==0| .call _=>decide (6<=st.calls.length)| .stop=>ah| _=>ai
noncomputable def over (p:Pg) (st:St):Bool:=match p[st.row]? with
 | some r=>r.over st| none=>ah
noncomputable def step (p:Pg) (asked:List Int) (st:St):St:=match p[st.row]? with
 | some r=>r.next asked st
 | none=>st
noncomputable def St.zero:St:=⟨0,[0,0,0,0,0,0],[0,0,0,0],[],0,[]⟩
noncomputable def sts (p:Pg) (asked:List Int):Nat->St->List St
 | 0,st=>[st]
 | n+1,st=>if over p st then [st] else st::sts p asked n (step p asked st)
noncomputable def Rw.word:Rw->String
 | .set _ _=>"set" | .put _ _=>"put" | .ask _=>"ask" | .say _=>"say" | .jump _=>"jump" | .unless _ _=>"unless" | .call _=>"call" | .back=>"back" | .stop=>"stop"
theorem CV (xs:List Int):(dh xs).length=xs.length:=by simp[dh]
end
def Ask (asked:List Int):Prop:=∀ x∈asked,Wth x
section
end
noncomputable def gO:Fn:=⟨["_law_script","_law_k"],["_law_script","_law_k"], (.seq (.ife (.cmp .eq (.var 0) (.lst ai .nil)) (.ret (.bin .mul (.cst (.int 7)) (.var 1))) .nil) (.ret (.bin .add (.idx (.var 0) (.bin .mod (.var 1) (.bi .len ai (Z9 (.var 0))))) (.bin .mul (.cst (.int 6553)) (.bin .fdiv (.var 1) (.bi .len ai (Z9 (.var 0))))))))⟩
noncomputable def gW:Fn:=⟨["_law_script","_law_k","_law_many"],["_law_script","_law_k","_law_many","_law_cell_here"], (.seq (.set 3 (.bin .mod (.bin .add (.bin .mul (.bin .mod (.call "_law_cell" (Z8 (.var 0) (.var 1))) (.cst (.int 2147483563))) (.cst (.int 69069))) (.bin .mul (.cst (.int 104723)) (.bin .add (.var 1) (.cst (.int 1))))) (.cst (.int 2147483563)))) (.seq (.set 3 (.bin .mod (.bin .add (.bin .mul (.var 3) (.var 3)) (.bin .fdiv (.var 3) (.cst (.int 3)))) (.cst (.int 2147483399)))) (.ret (.bin .mod (.bin .fdiv (.bin .mod (.bin .add (.bin .mul (.var 3) (.var 3)) (.bin .fdiv (.var 3) (.cst (.int 7)))) (.cst (.int 2147483647))) (.cst (.int 11))) (.var 2)))))⟩
noncomputable def smL:S:=(.seq (.ife (.cmp .eq (.call "_law_drawn" (Z7 (.var 0) (.bin .add (.var 1) (.cst (.int 1))) (.cst (.int 2)))) (.cst (.int 0))) (.ret (.tup (Z8 (.cst (.str "num")) (.idx (.lst ai (Z0 (.cst (.int 0)) (.cst (.int 1)) (.cst (.int 2)) (.cst (.int 3)) (.cst (.int 10)) (.cst (.int 10006)))) (.call "_law_drawn" (Z7 (.var 0) (.bin .add (.var 1) (.cst (.int 2))) (.cst (.int 6)))))))) .nil) (.ret (.tup (Z8 (.cst (.str "name")) (.idx (.cst (.str "abcf")) (.call "_law_drawn" (Z7 (.var 0) (.bin .add (.var 1) (.cst (.int 2))) (.cst (.int 4)))))))))
noncomputable def smR:S:=(.seq (.set 4 (.call "_law_sum" (Z7 (.var 0) (.bin .add (.bin .mul (.var 1) (.cst (.int 2))) (.cst (.int 5))) (.bin .sub (.var 2) (.cst (.int 1)))))) (.seq (.ife (.cmp .lt (.var 3) (.cst (.int 6))) (.ret (.tup (Z8 (.cst (.str "cell")) (.var 4)))) .nil) (.ret (.tup (Z7 (.idx (.lst ai (Z6 (.cst (.str "add")) (.cst (.str "sub")) (.cst (.str "mul")) (.cst (.str "less")))) (.bin .sub (.var 3) (.cst (.int 6)))) (.var 4) (.call "_law_sum" (Z7 (.var 0) (.bin .add (.bin .mul (.var 1) (.cst (.int 2))) (.cst (.int 19))) (.bin .sub (.var 2) (.cst (.int 1))))))))))
noncomputable def fX:Fn:=⟨["_law_script","_law_at","_law_deep"],["_law_script","_law_at","_law_deep","_law_way","_law_one"], (.seq (.set 3 (.call "_law_drawn" (Z7 (.var 0) (.var 1) (.cst (.int 10))))) (.seq (.ife (.or (.cmp .eq (.var 2) (.cst (.int 0))) (.cmp .lt (.var 3) (.cst (.int 4)))) smL .nil) smR))⟩
noncomputable def jn:Fn:=⟨["_law_script","_law_at","_law_size"],["_law_script","_law_at","_law_size","_law_way","_law_place","_law_name","_law_one"], (.seq (.set 3 (.call "_law_drawn" (Z7 (.var 0) (.var 1) (.cst (.int 16))))) (.seq (.set 4 (.call "_law_drawn" (Z7 (.var 0) (.bin .add (.var 1) (.cst (.int 1))) (.bin .add (.var 2) (.cst (.int 1)))))) (.seq (.set 5 (.idx (.cst (.str "abc")) (.call "_law_drawn" (Z7 (.var 0) (.bin .add (.var 1) (.cst (.int 2))) (.cst (.int 3)))))) (.seq (.set 6 (.call "_law_sum" (Z7 (.var 0) (.bin .add (.var 1) (.cst (.int 3))) (.cst (.int 2))))) (.seq (.ife (.cmp .lt (.var 3) (.cst (.int 5))) (.ret (.tup (Z7 (.cst (.str "set")) (.var 5) (.var 6)))) .nil) (.seq (.ife (.cmp .lt (.var 3) (.cst (.int 7))) (.ret (.tup (Z7 (.cst (.str "put")) (.call "_law_sum" (Z7 (.var 0) (.bin .add (.var 1) (.cst (.int 9))) (.cst (.int 1)))) (.var 6)))) .nil) (.seq (.ife (.cmp .lt (.var 3) (.cst (.int 9))) (.ret (.idx (.lst ai (Z8 (.tup (Z8 (.cst (.str "ask")) (.var 5))) (.tup (Z8 (.cst (.str "say")) (.var 6))))) (.bin .sub (.var 3) (.cst (.int 7))))) .nil) (.seq (.ife (.cmp .lt (.var 3) (.cst (.int 12))) (.ret (.idx (.lst ai (Z7 (.tup (Z8 (.cst (.str "jump")) (.var 4))) (.tup (Z7 (.cst (.str "unless")) (.var 6) (.var 4))) (.tup (Z7 (.cst (.str "unless")) (.tup (Z8 (.cst (.str "name")) (.var 5))) (.var 4))))) (.bin .sub (.var 3) (.cst (.int 9))))) .nil) (.ret (.idx (.lst ai (Z6 (.tup (Z8 (.cst (.str "call")) (.var 4))) (.tup (Z8 (.cst (.str "call")) (.var 4))) (.tup (Z9 (.cst (.str "back")))) (.idx (.lst ai (Z8 (.tup (Z9 (.cst (.str "stop")))) (.tup (Z9 (.cst (.str "back")))))) (.bin .mod (.var 4) (.cst (.int 2)))))) (.bin .sub (.var 3) (.cst (.int 12)))))))))))))⟩
noncomputable def fG:Fn:=⟨["_law_script","_law_at"],["_law_script","_law_at","_law_size","_law_put","_law_sign","_law_rows"], (.seq (.set 2 (.bin .add (.cst (.int 1)) (.call "_law_drawn" (Z7 (.var 0) (.var 1) (.cst (.int 9)))))) (.seq (.ife (.cmp .eq (.call "_law_drawn" (Z7 (.var 0) (.bin .add (.var 1) (.cst (.int 1))) (.cst (.int 4)))) (.cst (.int 0))) (.seq (.set 3 (.tup (Z7 (.cst (.str "put")) (.tup (Z8 (.cst (.str "name")) (.cst (.str "a")))) (.tup (Z8 (.cst (.str "num")) (.call "_law_drawn" (Z7 (.var 0) (.bin .add (.var 1) (.cst (.int 2))) (.cst (.int 9))))))))) (.seq (.set 4 (.idx (.lst ai (Z8 (.cst (.str "add")) (.cst (.str "sub")))) (.call "_law_drawn" (Z7 (.var 0) (.bin .add (.var 1) (.cst (.int 3))) (.cst (.int 2)))))) (.seq (.set 5 (.tup (Z5 (.tup (Z8 (.cst (.str "ask")) (.cst (.str "a")))) (.tup (Z8 (.cst (.str "call")) (.cst (.int 4)))) (.tup (Z8 (.cst (.str "say")) (.tup (Z8 (.cst (.str "name")) (.cst (.str "a")))))) (.tup (Z8 (.cst (.str "jump")) (.cst (.int 0)))) (.var 3)))) (.ret (.bin .add (.var 5) (.tup (Z6 (.tup (Z8 (.cst (.str "call")) (.cst (.int 7)))) (.tup (Z9 (.cst (.str "back")))) (.tup (Z7 (.cst (.str "set")) (.cst (.str "b")) (.tup (Z7 (.var 4) (.tup (Z8 (.cst (.str "name")) (.cst (.str "b")))) (.tup (Z8 (.cst (.str "name")) (.cst (.str "a")))))))) (.tup (Z9 (.cst (.str "back"))))))))))) .nil) (.ret (.bi .tuple ai (Z9 (.comp ai .rng1 (Z9 (.var 2)) ["_law_k"] [(0,"_law_script"),(1,"_law_at"),(2,"_law_size")] .nil (.call "_law_row" (Z7 (.var 1) (.bin .add (.bin .add (.var 2) (.cst (.int 10))) (.bin .mul (.cst (.int 40)) (.var 0))) (.var 3)))))))))⟩
noncomputable def jo:Fn:=⟨["_law_script","_law_at"],["_law_script","_law_at"], (.ret (.comp ai .rng1 (Z9 (.call "_law_drawn" (Z7 (.var 0) (.var 1) (.cst (.int 4))))) ["_law_k"] [(0,"_law_script"),(1,"_law_at")] .nil (.idx (.lst ai (Z6 (.cst (.int 0)) (.cst (.int 1)) (.cst (.int 5)) (.cst (.int 10006)))) (.call "_law_drawn" (Z7 (.var 1) (.bin .add (.bin .add (.var 2) (.cst (.int 1))) (.var 0)) (.cst (.int 4)))))))⟩
structure Lw (T:FK->Option Fn):Prop where
 cell:T "_law_cell"=aa gO
 drawn:T "_law_drawn"=aa gW
 sum:T "_law_sum"=aa fX
 row:T "_law_row"=aa jn
 asked:T "_law_asked"=aa jo
noncomputable def yu (ns:List Int) (k:Int):Int:=if ns=[] then 7*k else ns.getD (k % ns.length).toNat 0+6553*(k / ns.length)
noncomputable def drw (ns:List Int) (k many:Int):Int :=
 let a:=(yu ns k % 2147483563*69069+104723*(k+1)) % 2147483563
 let b:=(a*a+a / 3) % 2147483399
 (b*b+b / 7) % 2147483647 / 11 % many
theorem fY (ns:List Int) (k:Int) (h:0 < many):0<=drw ns k many:=Int.emod_nonneg _ (by lia)
theorem fZ (ns:List Int) (k:Int) (h:0 < many):drw ns k many < many:=Int.emod_lt_of_pos _ h
theorem qI (h0:0<=i) (h1:i < 18446744073709551616):big i=ah:=by unfold big;exact decide_eq_true (by lia)
section
theorem Gk (ns:List Int):eqv (.lst (dh ns)) (.lst [])=decide (ns=[]):=by cases ns<;>simp[dh]
theorem CW (L:Lw T) (m:Nat) (ns:List Int) (hl:ns.length<=1000) (k:Int) (h:HH):runN T G (m+1) "_law_cell" [.p (.lst (dh ns)),.p (.int k)] h=aa (.p (.int (yu ns k)),h):=by
 rw[run_eq L.cell rfl]
 by_cases c:ns=[]
 ·subst c;simp[gO,dh,yu,big,cT]
 ·have n0:0 < ns.length:=List.length_pos_iff.mpr c;have q:eqv (.lst (dh ns)) (.lst [])=ai:=by rw[Gk];exact decide_eq_false c
  have p1:(0:Int) < (ns.length:Int):=by lia
  have p2:(ns.length:Int) < 1073741824:=by lia
  have m1:=Int.emod_nonneg k (b:=(ns.length:Int)) (by lia);have m2:=Int.emod_lt_of_pos k p1;have i1:(k % (ns.length:Int)).toNat < ns.length:=by lia
  have n2:ns.length < 1073741824:=by lia
  simp[gO,-eqv,q,CV,p1,p2,n0,n2,m1,m2,big,cT,yu,c];simp[dh,i1,cT,n0,n2,m1,m2,big,p1,p2]
theorem gz (L:Lw T) (m:Nat) (ns:List Int) (hl:ns.length<=1000) (k many:Int) (hm:0 < many) (h:HH) :
 runN T G (m+2) "_law_drawn" [.p (.lst (dh ns)),.p (.int k),.p (.int many)] h=aa (.p (.int (drw ns k many)),h):=by
 rw[run_eq L.drawn rfl];have r:=CW (G:=G) L m ns hl k;have b0:big 69069=ah:=by decide
 have b1:big 104723=ah:=by decide
 have b2:∀ x:Int,big (x % 2147483563)=ah:=λx=>qI (by lia) (by lia);have b3:∀ x:Int,big (x % 2147483399)=ah:=λx=>qI (by lia) (by lia);simp[gW,r,b0,b1,b2,b3,cT,hm,drw]
theorem sG:SE "abcf"=⟨#[97,98,99,102]⟩:=by decide +kernel
theorem CY:SE "abc"=⟨#[97,98,99]⟩:=by decide +kernel
theorem o_a:SE "a"=⟨#[97]⟩:=by decide +kernel
theorem o_b:SE "b"=⟨#[98]⟩:=by decide +kernel
theorem o_c:SE "c"=⟨#[99]⟩:=by decide +kernel
theorem o_f:SE "f"=⟨#[102]⟩:=by decide +kernel
theorem yv (i:Int) (h0:0<=i) (h1:i < 4):∃ x:Nm,fE (.str "abcf") (.int i)=aa (.str x.w):=by
 have:i=0\/i=1\/i=2\/i=3:=by lia
 rcases this with rfl|rfl|rfl|rfl
 exact ⟨.a,by rw[Nm.w,sG,o_a];rfl⟩;exact ⟨.b,by rw[Nm.w,sG,o_b];rfl⟩;exact ⟨.c,by rw[Nm.w,sG,o_c];rfl⟩;exact ⟨.f,by rw[Nm.w,sG,o_f];rfl⟩
theorem Kf (i:Int) (h0:0<=i) (h1:i < 3):∃ x:Nm,fE (.str "abc") (.int i)=aa (.str x.w):=by
 have:i=0\/i=1\/i=2:=by lia
 rcases this with rfl|rfl|rfl
 exact ⟨.a,by rw[Nm.w,CY,o_a];rfl⟩;exact ⟨.b,by rw[Nm.w,CY,o_b];rfl⟩;exact ⟨.c,by rw[Nm.w,CY,o_c];rfl⟩
theorem yw (i:Int) (h0:0<=i) (h1:i < 6):∃ n:Int,Wth n/\fE (.lst [.int 0,.int 1,.int 2,.int 3,.int 10,.int 10006]) (.int i)=aa (.int n):=by
 have:i=0\/i=1\/i=2\/i=3\/i=4\/i=5:=by lia
 rcases this with rfl|rfl|rfl|rfl|rfl|rfl
 exact ⟨0,⟨by decide,by decide⟩,rfl⟩;exact ⟨1,⟨by decide,by decide⟩,rfl⟩;exact ⟨2,⟨by decide,by decide⟩,rfl⟩;exact ⟨3,⟨by decide,by decide⟩,rfl⟩;exact ⟨10,⟨by decide,by decide⟩,rfl⟩;exact ⟨10006,⟨by decide,by decide⟩,rfl⟩
theorem Kg (i:Int) (h0:0<=i) (h1:i < 4):∃ o:Op,fE (.lst [.str "add",.str "sub",.str "mul",.str "less"]) (.int i)=aa (.str o.w):=by
 have:i=0\/i=1\/i=2\/i=3:=by lia
 rcases this with rfl|rfl|rfl|rfl
 exact ⟨.add,rfl⟩;exact ⟨.sub,rfl⟩;exact ⟨.mul,rfl⟩;exact ⟨.less,rfl⟩
theorem CZ (L:Lw T) (ns:List Int) (hl:ns.length<=1000) (p n:Int) (k:Nat) (rest:Sl) (h:HH) (c:drw ns (p+1) 2=0) (en:fE (.lst [.int 0,.int 1,.int 2,.int 3,.int 10,.int 10006]) (.int (drw ns (p+2) 6))=aa (.int n)) :
 evS (runN T G (k+2)) G smL (aa (.p (.lst (dh ns)))::aa (.p (.int p))::rest) h=aa (.rt (.p (Sm.num n).enc) h):=by
 have dr:=λq many (hm:0 < many)=>gz (G:=G) L k ns hl q many hm;simp[-dG,-jE,smL,dr,c,en,Sm.enc]
theorem C1 (L:Lw T) (ns:List Int) (hl:ns.length<=1000) (p:Int) (x:Nm) (k:Nat) (rest:Sl) (h:HH) (c:¬ drw ns (p+1) 2=0) (ex:fE (.str "abcf") (.int (drw ns (p+2) 4))=aa (.str x.w)) :
 evS (runN T G (k+2)) G smL (aa (.p (.lst (dh ns)))::aa (.p (.int p))::rest) h=aa (.rt (.p (Sm.nam x).enc) h):=by
 have dr:=λq many (hm:0 < many)=>gz (G:=G) L k ns hl q many hm;simp[-dG,-jE,smL,dr,c,ex,Sm.enc]
theorem sH (L:Lw T) (ns:List Int) (hl:ns.length<=1000):∀ (deep:Nat) (p:Int),∃ s:Sm,s.ok/\s.size+1<=2 ^ (deep+1)/\∀ (m:Nat) (h:HH),
 runN T G (m+deep+3) "_law_sum" [.p (.lst (dh ns)),.p (.int p),.p (.int deep)] h=aa (.p s.enc,h):=by
 intro deep
 induction deep with
 | zero =>
  intro p;have dr:=λm q many (hm:0 < many)=>gz (G:=G) L m ns hl q many hm;obtain ⟨x,ex⟩:=yv (drw ns (p+2) 4) (fY _ _ (by decide)) (fZ _ _ (by decide));obtain ⟨n,hn,en⟩:=yw (drw ns (p+2) 6) (fY _ _ (by decide)) (fZ _ _ (by decide));have key:∀ (s:Sm) (m:Nat) (h:HH),(∀ rest,evS (runN T G (m+2)) G smL (aa (.p (.lst (dh ns)))::aa (.p (.int p))::rest) h=aa (.rt (.p s.enc) h))->runN T G (m+0+3) "_law_sum" [.p (.lst (dh ns)),.p (.int p),.p (.int ((0:Nat):Int))] h=aa (.p s.enc,h):=λs m h q=>by rw[run_eq L.sum rfl];simp[fX,dr,q,cT]
  by_cases c:drw ns (p+1) 2=0
  exact ⟨.num n,hn,by simp[Sm.size],λm h=>key _ m h λrest=>CZ L ns hl p n m rest h c en⟩;exact ⟨.nam x,trivial,by simp[Sm.size],λm h=>key _ m h λrest=>C1 L ns hl p x m rest h c ex⟩
 | succ deep ih =>
  intro p;have dr:=λm q many (hm:0 < many)=>gz (G:=G) L m ns hl q many hm;obtain ⟨x,ex⟩:=yv (drw ns (p+2) 4) (fY _ _ (by decide)) (fZ _ _ (by decide));obtain ⟨n,hn,en⟩:=yw (drw ns (p+2) 6) (fY _ _ (by decide)) (fZ _ _ (by decide));obtain ⟨s,so,ss,sr0⟩:=ih (p*2+5);obtain ⟨t,to,tt,tr0⟩:=ih (p*2+19);have ee:∀ m,m+(deep+1)+2=m+deep+3:=λm=>by lia
  have sr:=λm h=>(ee m).symm ▸ sr0 m h;have tr:=λm h=>(ee m).symm ▸ tr0 m h;have d0:¬ ((deep:Int)+1=0):=by lia
  have d1:((deep:Int)+1 - 1)=deep:=by lia
  have b2:big 2=ah:=by decide
  have w0:=fY ns p (many:=10) (by decide);have w1:=fZ ns p (many:=10) (by decide);have pw:2 ^ (deep+1+1)=2 ^ (deep+1)+2 ^ (deep+1):=by lia
  by_cases c1:drw ns p 10 < 4
  ·have key:∀ (s:Sm) (m:Nat) (h:HH),(∀ rest,evS (runN T G (m+deep+1+2)) G smL (aa (.p (.lst (dh ns)))::aa (.p (.int p))::rest) h=aa (.rt (.p s.enc) h))->runN T G (m+(deep+1)+3) "_law_sum" [.p (.lst (dh ns)),.p (.int p),.p (.int ((deep+1:Nat):Int))] h=aa (.p s.enc,h):=λs m h q=>by rw[run_eq L.sum rfl];have dq:=dr (m+(deep+1));have q:∀ rest,evS (runN T G (m+(deep+1)+2)) G smL (aa (.p (.lst (dh ns)))::aa (.p (.int p))::rest) h=aa (.rt (.p s.enc) h):=q;simp[fX,dq,c1,d0,q,cT]
   by_cases c:drw ns (p+1) 2=0
   exact ⟨.num n,hn,by simp only[Sm.size];lia,λm h=>key _ m h λrest=>CZ L ns hl p n (m+deep+1) rest h c en⟩;exact ⟨.nam x,trivial,by simp only[Sm.size];lia,λm h=>key _ m h λrest=>C1 L ns hl p x (m+deep+1) rest h c ex⟩
  ·by_cases c2:drw ns p 10 < 6
   ·refine ⟨.cell s,so,by simp only[Sm.size];lia,λm h=>?_⟩;rw[run_eq L.sum rfl];simp[-dG,-jE,fX,smR,dr,c1,c2,d0,d1,b2,sr,cT,Sm.enc]
   ·obtain ⟨o,eo⟩:=Kg (drw ns p 10 - 6) (by lia) (by lia);refine ⟨.two o s t,⟨so,to⟩,by simp only[Sm.size];lia,λm h=>?_⟩;rw[run_eq L.sum rfl];simp[-dG,-jE,fX,smR,dr,c1,c2,d0,d1,b2,sr,tr,eo,cT,Sm.enc]
end
noncomputable def HF:S:=(.ret (.idx (.lst ai (Z6 (.tup (Z8 (.cst (.str "call")) (.var 4))) (.tup (Z8 (.cst (.str "call")) (.var 4))) (.tup (Z9 (.cst (.str "back")))) (.idx (.lst ai (Z8 (.tup (Z9 (.cst (.str "stop")))) (.tup (Z9 (.cst (.str "back")))))) (.bin .mod (.var 4) (.cst (.int 2)))))) (.bin .sub (.var 3) (.cst (.int 12)))))
noncomputable def rA3:S:=(.ret (.idx (.lst ai (Z7 (.tup (Z8 (.cst (.str "jump")) (.var 4))) (.tup (Z7 (.cst (.str "unless")) (.var 6) (.var 4))) (.tup (Z7 (.cst (.str "unless")) (.tup (Z8 (.cst (.str "name")) (.var 5))) (.var 4))))) (.bin .sub (.var 3) (.cst (.int 9)))))
noncomputable def C2:S:=(.seq (.ife (.cmp .lt (.var 3) (.cst (.int 12))) rA3 .nil) HF)
noncomputable def rA2:S:=(.ret (.idx (.lst ai (Z8 (.tup (Z8 (.cst (.str "ask")) (.var 5))) (.tup (Z8 (.cst (.str "say")) (.var 6))))) (.bin .sub (.var 3) (.cst (.int 7)))))
noncomputable def yx:S:=(.seq (.ife (.cmp .lt (.var 3) (.cst (.int 9))) rA2 .nil) C2)
noncomputable def rA1:S:=(.ret (.tup (Z7 (.cst (.str "put")) (.call "_law_sum" (Z7 (.var 0) (.bin .add (.var 1) (.cst (.int 9))) (.cst (.int 1)))) (.var 6))))
noncomputable def uL:S:=(.seq (.ife (.cmp .lt (.var 3) (.cst (.int 7))) rA1 .nil) yx)
noncomputable def rA0:S:=(.ret (.tup (Z7 (.cst (.str "set")) (.var 5) (.var 6))))
noncomputable def wk:S:=(.seq (.ife (.cmp .lt (.var 3) (.cst (.int 5))) rA0 .nil) uL)
theorem qe:jn=⟨["_law_script","_law_at","_law_size"],["_law_script","_law_at","_law_size","_law_way","_law_place","_law_name","_law_one"],
 (.seq (.set 3 (.call "_law_drawn" (.cons (.var 0) (.cons (.var 1) (.cons (.cst (.int 16)) .nil)))))
 (.seq (.set 4 (.call "_law_drawn" (.cons (.var 0) (.cons (.bin .add (.var 1) (.cst (.int 1))) (.cons (.bin .add (.var 2) (.cst (.int 1))) .nil)))))
 (.seq (.set 5 (.idx (.cst (.str "abc")) (.call "_law_drawn" (.cons (.var 0) (.cons (.bin .add (.var 1) (.cst (.int 2))) (.cons (.cst (.int 3)) .nil))))))
 (.seq (.set 6 (.call "_law_sum" (.cons (.var 0) (.cons (.bin .add (.var 1) (.cst (.int 3))) (.cons (.cst (.int 2)) .nil)))))
 wk))))⟩:=rfl
section
theorem Gm (L:Lw T) (ns:List Int) (hl:ns.length<=1000) (p:Int) (size:Nat):∃ r:Rw,r.ok size/\∀ (m:Nat) (h:HH),
 runN T G (m+6) "_law_row" [.p (.lst (dh ns)),.p (.int p),.p (.int size)] h=aa (.p r.enc,h):=by
 have dr:=λm q many (hm:0 < many)=>gz (G:=G) L m ns hl q many hm;obtain ⟨x,ex⟩:=Kf (drw ns (p+2) 3) (fY _ _ (by decide)) (fZ _ _ (by decide));obtain ⟨s,so,ss,sr⟩:=sH (G:=G) L ns hl 2 (p+3);obtain ⟨t,to,tt,tr⟩:=sH (G:=G) L ns hl 1 (p+9);have w0:=fY ns p (many:=16) (by decide);have w1:=fZ ns p (many:=16) (by decide);have sz:(0:Int) < (size:Int)+1:=by lia
 have p0:=fY ns (p+1) sz;have p1:=fZ ns (p+1) sz;obtain ⟨pl,hpl⟩:∃ pl:Nat,drw ns (p+1) ((size:Int)+1)=(pl:Int):=⟨(drw ns (p+1) ((size:Int)+1)).toNat,by lia⟩;have ple:pl<=size:=by lia
 have sok:mY s:=⟨so,by lia⟩;have tok:mY t:=⟨to,by lia⟩;have sr':=λm h=>sr (m+0) h;have tr':=λm h=>tr (m+1) h;simp at sr' tr';have dp:=λm h=>dr m (p+1) ((size:Int)+1) sz h;rw[hpl] at dp;have pre:∀ (m:Nat) (h:HH),runN T G (m+6) "_law_row" [.p (.lst (dh ns)),.p (.int p),.p (.int size)] h =
  gS (evS (runN T G (m+5)) G wk [aa (.p (.lst (dh ns))),aa (.p (.int p)),aa (.p (.int size)),aa (.p (.int (drw ns p 16))),aa (.p (.int (pl:Int))),aa (.p (.str x.w)),aa (.p s.enc)] h) (fin h):=λm h=>by
  rw[run_eq L.row rfl,qe];simp[-jE,dp,dr,ex,sr']
 by_cases c1:drw ns p 16 < 5
 ·refine ⟨.set x s,sok,λm h=>?_⟩;rw[pre];simp[-dG,-jE,wk,rA0,c1,cT,Rw.enc]
 ·by_cases c2:drw ns p 16 < 7
  ·refine ⟨.put t s,⟨tok,sok⟩,λm h=>?_⟩;rw[pre];simp[-dG,-jE,wk,uL,rA1,tr',c1,c2,cT,Rw.enc]
  ·by_cases c3:drw ns p 16 < 9
   ·obtain ⟨r,ro,ix⟩:∃ r:Rw,r.ok size/\fE (.lst [.tup [.str "ask",.str x.w],.tup [.str "say",s.enc]]) (.int (drw ns p 16 - 7))=aa r.enc:=by
     have c:drw ns p 16=7\/drw ns p 16=8:=by lia
     rcases c with c|c<;>rw[c]
     exact ⟨.ask x,trivial,rfl⟩;exact ⟨.say s,sok,rfl⟩
    refine ⟨r,ro,λm h=>?_⟩;rw[pre];simp[-dG,wk,uL,yx,rA2,c1,c2,c3,ix,cT]
   ·by_cases c4:drw ns p 16 < 12
    ·obtain ⟨r,ro,ix⟩:∃ r:Rw,r.ok size/\fE (.lst [.tup [.str "jump",.int pl],.tup [.str "unless",s.enc,.int pl],.tup [.str "unless",.tup [.str "name",.str x.w],.int pl]]) (.int (drw ns p 16 - 9))=aa r.enc:=by
      have c:drw ns p 16=9\/drw ns p 16=10\/drw ns p 16=11:=by lia
      rcases c with c|c|c<;>rw[c]
      exact ⟨.jump pl,ple,rfl⟩;exact ⟨.unless s pl,⟨sok,ple⟩,rfl⟩;exact ⟨.unless (.nam x) pl,⟨⟨trivial,by simp[Sm.size]⟩,ple⟩,rfl⟩
     refine ⟨r,ro,λm h=>?_⟩;rw[pre];simp[-dG,wk,uL,yx,C2,rA3,c1,c2,c3,c4,ix,cT]
    ·obtain ⟨u,uo,iu⟩:∃ u:Rw,u.ok size/\fE (.lst [.tup [.str "stop"],.tup [.str "back"]]) (.int ((pl:Int) % 2))=aa u.enc:=by
      have z:(pl:Int) % 2=0\/(pl:Int) % 2=1:=by lia
      rcases z with z|z<;>rw[z]
      exact ⟨.stop,trivial,rfl⟩;exact ⟨.back,trivial,rfl⟩
     obtain ⟨r,ro,ix⟩:∃ r:Rw,r.ok size/\fE (.lst [.tup [.str "call",.int pl],.tup [.str "call",.int pl],.tup [.str "back"],u.enc]) (.int (drw ns p 16 - 12))=aa r.enc:=by
      have c:drw ns p 16=12\/drw ns p 16=13\/drw ns p 16=14\/drw ns p 16=15:=by lia
      rcases c with c|c|c|c<;>rw[c]
      exact ⟨.call pl,ple,rfl⟩;exact ⟨.call pl,ple,rfl⟩;exact ⟨.back,trivial,rfl⟩;exact ⟨u,uo,rfl⟩
     refine ⟨r,ro,λm h=>?_⟩;rw[pre];simp[-dG,wk,uL,yx,C2,HF,c1,c2,c3,c4,iu,ix,cT]
theorem comp_map (f:List D->HH->Option (Option D×HH)) (g:D->D):∀ (ds:List D) (h:HH),(∀ d∈ds,∀ h,f [d] h=aa (aa (g d),h))->dj f 1 ds h=aa (ds.map g,h):=by
 intro ds
 induction ds with
 | nil=>intro h _;rfl
 | cons d r ih =>
  intro h hf;have e1:=hf d SG h;have e2:=ih h λx hx=>hf x (SI _ hx);rw[dj,uh];simp[e1,e2]
theorem C3 (h:d∈upto 0 n):∃ k:Nat,k < n/\d=.int k:=by simp[upto] at h;obtain ⟨k,hk,e⟩:=h;exact ⟨k,hk,e.symm⟩
theorem C4 (n:Nat) (g:D->D):(upto 0 n).map g=(U0 n).map λ(k:Nat)=>g (.int k):=by simp[upto,Function.comp_def]
noncomputable def C5:E:=.call "_law_row" (Z7 (.var 1) (.bin .add (.bin .add (.var 2) (.cst (.int 10))) (.bin .mul (.cst (.int 40)) (.var 0))) (.var 3))
structure Drawn (p:Pg):Prop where
 ok:Pg.ok p
 lo:1<=p.length
 hi:p.length<=9
noncomputable def jL (n:Int) (o:Op):Pg:=[.ask .a,.call 4,.say (.nam .a),.jump 0,.put (.nam .a) (.num n),.call 7,.back,.set .b (.two o (.nam .b) (.nam .a)),.back]
theorem sI (n:Int) (o:Op) (h:Wth n):Drawn (jL n o):=by refine ⟨?_,by simp[jL],by simp[jL]⟩;intro r hr;simp only[jL,Uh,TR,or_false] at hr;rcases hr with rfl|rfl|rfl|rfl|rfl|rfl|rfl|rfl|rfl<;>simp[Rw.ok,jL,mY,Sm.ok,Sm.size,h]
theorem pC (L:Lw T)
 (ns:List Int) (hl:ns.length<=1000) (p:Int)
 (run1:∀ (m:Nat) (h:HH) (n:Int) (o:Op),drw ns (p+1) 4=0->n=drw ns (p+2) 9->fE (.lst [.str "add",.str "sub"]) (.int (drw ns (p+3) 2))=aa (.str o.w) →
  (∀ m q many,0 < many->∀ h,runN T G (m+2) "_law_drawn" [.p (.lst (dh ns)),.p (.int q),.p (.int many)] h=aa (.p (.int (drw ns q many)),h)) →
  runN T G (m+7) "_law_program" [.p (.lst (dh ns)),.p (.int p)] h=aa (.p (gy (jL n o)),h))
 (run2:∀ (m:Nat) (h:HH) (pg:Pg),drw ns (p+1) 4≠0->pg.length=(1+drw ns p 9).toNat →
  (∀ m q many,0 < many->∀ h,runN T G (m+2) "_law_drawn" [.p (.lst (dh ns)),.p (.int q),.p (.int many)] h=aa (.p (.int (drw ns q many)),h)) →
  (∀ h,dj (dI (λ_ h=>aa ([],h)) (ev (runN T G (m+6)) G C5) [aa (.p (.lst (dh ns))),aa (.p (.int p)),aa (.p (.int (1+drw ns p 9)))]) 1 (upto 0 (1+drw ns p 9).toNat) h=aa (pg.map Rw.enc,h)) →
  runN T G (m+7) "_law_program" [.p (.lst (dh ns)),.p (.int p)] h=aa (.p (gy pg),h)) :
 ∃ pg:Pg,Drawn pg/\∀ (m:Nat) (h:HH),runN T G (m+7) "_law_program" [.p (.lst (dh ns)),.p (.int p)] h=aa (.p (gy pg),h):=by
 have dr:=λm q many (hm:0 < many)=>gz (G:=G) L m ns hl q many hm
 by_cases c:drw ns (p+1) 4=0
 ·have d0:=fY ns (p+3) (many:=2) (by decide);have d1:=fZ ns (p+3) (many:=2) (by decide);have e0:=fY ns (p+2) (many:=9) (by decide);have e1:=fZ ns (p+2) (many:=9) (by decide);have z:drw ns (p+3) 2=0\/drw ns (p+3) 2=1:=by lia
  have:∃ o:Op,fE (.lst [.str "add",.str "sub"]) (.int (drw ns (p+3) 2))=aa (.str o.w):=by
   rcases z with z|z<;>rw[z]
   exact ⟨.add,rfl⟩;exact ⟨.sub,rfl⟩
  obtain ⟨o,eo⟩:=this;exact ⟨jL (drw ns (p+2) 9) o,sI _ _ ⟨by lia,by lia⟩,λm h=>run1 m h _ o c rfl eo dr⟩
 ·have d0:=fY ns p (many:=9) (by decide);have d1:=fZ ns p (many:=9) (by decide);obtain ⟨sz,hsz⟩:∃ sz:Nat,1+drw ns p 9=(sz:Int):=⟨(1+drw ns p 9).toNat,by lia⟩;have ch:∀ k:Nat,∃ r:Rw,r.ok sz/\∀ (m:Nat) (h:HH),runN T G (m+6) "_law_row" [.p (.lst (dh ns)),.p (.int (p+10+40*(k:Int))),.p (.int sz)] h=aa (.p r.enc,h) :=
   λk=>Gm L ns hl _ sz
  obtain ⟨g,hg⟩:=Classical.axiomOfChoice ch;refine ⟨(U0 sz).map g,⟨?_,by simp;lia,by simp;lia⟩,λm h=>run2 m h _ c (by simp;lia) dr λh=>?_⟩
  ·intro r hr;simp at hr;obtain ⟨k,_,rfl⟩:=hr;simpa using (hg k).1
  ·rw[hsz];have b:big 40=ah:=by decide
   have he:∀ (k:Nat) (h:HH),ev (runN T G (m+6)) G C5 [aa (.p (.int k)),aa (.p (.lst (dh ns))),aa (.p (.int p)),aa (.p (.int sz))] h=aa (.p (g k).enc,h):=λk h=>by have e:=(hg k).2;simp[C5,e,b]
   have cm:=comp_map (dI (λ_ h=>aa ([],h)) (ev (runN T G (m+6)) G C5) [aa (.p (.lst (dh ns))),aa (.p (.int p)),aa (.p (.int sz))]) (λd=>match d with | .int k=>(g k.toNat).enc|_=>.non) (upto 0 sz) h (by
    intro d hd h;obtain ⟨k,hk,rfl⟩:=C3 hd;simp[fR,he])
   rw[C4] at cm;simp only[Xf,V6];rw[cm];rfl
end
section
noncomputable def prA:S:=(.seq (.set 3 (.tup (Z7 (.cst (.str "put")) (.tup (Z8 (.cst (.str "name")) (.cst (.str "a")))) (.tup (Z8 (.cst (.str "num")) (.call "_law_drawn" (Z7 (.var 0) (.bin .add (.var 1) (.cst (.int 2))) (.cst (.int 9))))))))) (.seq (.set 4 (.idx (.lst ai (Z8 (.cst (.str "add")) (.cst (.str "sub")))) (.call "_law_drawn" (Z7 (.var 0) (.bin .add (.var 1) (.cst (.int 3))) (.cst (.int 2)))))) (.seq (.set 5 (.tup (Z5 (.tup (Z8 (.cst (.str "ask")) (.cst (.str "a")))) (.tup (Z8 (.cst (.str "call")) (.cst (.int 4)))) (.tup (Z8 (.cst (.str "say")) (.tup (Z8 (.cst (.str "name")) (.cst (.str "a")))))) (.tup (Z8 (.cst (.str "jump")) (.cst (.int 0)))) (.var 3)))) (.ret (.bin .add (.var 5) (.tup (Z6 (.tup (Z8 (.cst (.str "call")) (.cst (.int 7)))) (.tup (Z9 (.cst (.str "back")))) (.tup (Z7 (.cst (.str "set")) (.cst (.str "b")) (.tup (Z7 (.var 4) (.tup (Z8 (.cst (.str "name")) (.cst (.str "b")))) (.tup (Z8 (.cst (.str "name")) (.cst (.str "a")))))))) (.tup (Z9 (.cst (.str "back")))))))))))
noncomputable def prB:S:=(.ret (.bi .tuple ai (Z9 (.comp ai .rng1 (Z9 (.var 2)) ["_law_k"] [(0,"_law_script"),(1,"_law_at"),(2,"_law_size")] .nil C5))))
theorem iM:fG=⟨["_law_script","_law_at"],["_law_script","_law_at","_law_size","_law_put","_law_sign","_law_rows"],
 (.seq (.set 2 (.bin .add (.cst (.int 1)) (.call "_law_drawn" (.cons (.var 0) (.cons (.var 1) (.cons (.cst (.int 9)) .nil))))))
 (.seq (.ife (.cmp .eq (.call "_law_drawn" (.cons (.var 0) (.cons (.bin .add (.var 1) (.cst (.int 1))) (.cons (.cst (.int 4)) .nil)))) (.cst (.int 0))) prA .nil)
 prB))⟩:=rfl
theorem uM (L:Lw T) (hP:T "_law_program"=aa fG) (ns:List Int) (hl:ns.length<=1000) (p:Int) :
 ∃ pg:Pg,Drawn pg/\∀ (m:Nat) (h:HH),runN T G (m+7) "_law_program" [.p (.lst (dh ns)),.p (.int p)] h=aa (.p (gy pg),h):=by
 refine pC L ns hl p (λm h n o c en eo dr=>?_) (λm h pg c el dr cm=>?_)
 ·rw[run_eq hP rfl];have d:=λq many hm h=>dr (m+4) q many hm h;rw[iM];simp[-dG,prA,d,c,eo,cT,gy,jL,Rw.enc,Sm.enc,← en,Nm.w]
 ·rw[run_eq hP rfl];have d:=λq many hm h=>dr (m+4) q many hm h;have d0:=fY ns p (many:=9) (by decide);have d1:=fZ ns p (many:=9) (by decide);have c0:-100000<=1+drw ns p 9:=by lia
  have c1:1+drw ns p 9<=100000:=by lia
  have c2:pg.length<=100000:=by lia
  have cm':=cm h;rw[iM];simp[-dI,prB,d,c,c0,c1,c2,cm',cT,gy,iG]
mutual
theorem pF:∀ d:D,eqv d d=ah
 | .non=>rfl
 | .bl b=>by simp
 | .int i=>by simp
 | .str x=>by simp
 | .tup xs=>by simp[kj xs]
 | .lst xs=>by simp[kj xs]
theorem kj:∀ ds:List D,pY ds ds=ah
 | []=>rfl
 | d::r=>by simp[pF d,kj r]
end
theorem uN (n:Nat) (xs:List Int):(dh xs).all (dok n)=ah:=by simp[dh,TU]
@[simp] theorem Kl (ds:List D):pY ds ds=ah:=kj ds
@[simp] theorem Ln (d:D):eqv d d=ah:=pF d
@[simp] theorem Lo (x:D) (xs:List Int):fL x (.tup (dh xs))=ah:=rg (uN 99 xs)
@[simp] theorem NO (x:D) (xs ys:List Int):fL x (.tup [.tup (dh xs),.tup (dh ys)])=ah:=rg (by simp[uN])
end
section
variable {T:FK->Option Fn}{G:az->Option W}
end
noncomputable def itr (p:Pg) (asked:List Int):Nat->St
 | 0=>St.zero| n+1=>step p asked (itr p asked n)
structure Run (p:Pg) (asked:List Int) (most e:Nat):Prop where
 le:e<=most
 on:∀ i,i < e->over p (itr p asked i)=ai
 last:e=most\/over p (itr p asked e)=ah
structure Tp where
 p:Pg
 asked:List Int
 gap:Nat
 most:Nat
 kept:List St
 far:Nat
 front:St
 now:Nat
noncomputable def Tp.fs (t:Tp) (r:Nat):List (az×W):=[("program",.p (gy t.p)),("asked",.p (.lst (dh t.asked))),("gap",.p (.int t.gap)),("most",.p (.int t.most)),("kept",.r r),("farthest",.p (.int t.far)),("front",.p t.front.enc),("now",.p (.int t.now))]
section
variable (t:Tp) (r:Nat)
end
noncomputable def fH:Fn:=⟨["thing"],["thing"], (.ret (.and (.bi .isInt ai (Z9 (.var 0))) (.not (.bi .isBool ai (Z9 (.var 0))))))⟩
section
noncomputable def Tp.keep (t:Tp) (st:St):Tp:=if t.kept.length < 8 then { t with kept:=t.kept++[st] } else { t with kept:=(U0 5).filterMap λi=>(t.kept++[st])[2*i]?,gap:=2*t.gap }
end
structure TI (t:Tp) (e gv:Nat):Prop where
 run:Run t.p t.asked t.most e
 ok:Pg.ok t.p
 ask:Ask t.asked
 g0:0 < t.gap
 g1:t.gap<=1000
 m1:t.most<=1000
 far:t.far<=e
 front:t.front=itr t.p t.asked t.far
 len:t.kept.length=t.far / t.gap+1
 l8:t.kept.length<=8
 kept:∀ j,j < t.kept.length->t.kept[j]?=aa (itr t.p t.asked (j*t.gap))
 now:t.now<=t.far
 pw:∃ j,t.gap=gv*2 ^ j/\(0 < j->8<=t.far / (t.gap / 2))
noncomputable def Tp.on (t:Tp):Tp:={ t with front:=step t.p t.asked t.front,far:=t.far+1 }
noncomputable def Tp.nx (t:Tp):Tp:=if (t.far+1) % t.gap=0 then t.on.keep t.on.front else t.on
section
end
section
noncomputable def Tp.new (p:Pg) (asked:List Int) (ev most:Nat):Tp:=⟨p,asked,ev,most,[St.zero],0,St.zero,0⟩
end
noncomputable def jl (c:Nat):List (List Nat)->List Nat
 | []=>[]| [x]=>x| x::y::r=>x++c::jl c (y::r)
theorem jq (c:Nat):∀ ts:List az,(SV ⟨#[c]⟩ ts).cps.toList=jl c (ts.map λt=>t.cps.toList)
 | []=>rfl| [x]=>rfl
 | x::y::r=>by have ih:=jq c (y::r);show ((x++⟨#[c]⟩++SV ⟨#[c]⟩ (y::r):az)).cps.toList=x.cps.toList++c::jl c ((y::r).map λt=>t.cps.toList);rw[← ih];show (x.cps++#[c]++(SV ⟨#[c]⟩ (y::r)).cps).toList=_;simp
theorem C6 {c:Nat}:∀ {x y a b:List Nat},c∉x->c∉y->x++c::a=y++c::b->x=y/\a=b
 | [],[],a,b,_,_,h=>⟨rfl,(Us h).2⟩| [],y::ys,a,b,_,hy,h=>absurd ((Us h).1 ▸ SG) hy| x::xs,[],a,b,hx,_,h=>absurd ((Us h).1 ▸ SG) hx
 | x::xs,y::ys,a,b,hx,hy,h=>by obtain ⟨h1,h2⟩:=Us h;obtain ⟨q1,q2⟩:=C6 (λz=>hx (SI _ z)) (λz=>hy (SI _ z)) h2;exact ⟨by rw[h1,q1],q2⟩
theorem C7 {c:Nat}:∀ {xs ys:List (List Nat)},xs≠[]->ys≠[]->(∀ x∈xs,c∉x)->(∀ y∈ys,c∉y)->jl c xs=jl c ys->xs=ys
 | [],_,h,_,_,_,_=>absurd rfl h| _::_,[],_,h,_,_,_=>absurd rfl h
 | [x],[y],_,_,_,_,h=>by have h:x=y:=h;rw[h]
 | [x],y::y'::r,_,_,hx,_,h=>by have h:x=y++c::jl c (y'::r):=h;exact absurd (by rw[h];simp) (hx x SG)
 | x::x'::r,[y],_,_,_,hy,h=>by have h:x++c::jl c (x'::r)=y:=h;exact absurd (by rw[← h];simp) (hy y SG)
 | x::x'::r,y::y'::r',_,_,hx,hy,h=>by have h:x++c::jl c (x'::r)=y++c::jl c (y'::r'):=h;obtain ⟨h1,h2⟩:=C6 (hx x SG) (hy y SG) h;have:=C7 (by simp) (by simp) (λz hz=>hx z (SI _ hz)) (λz hz=>hy z (SI _ hz)) h2;rw[h1,this]
theorem lZ {x y:az} (h:x.cps.toList=y.cps.toList):x=y:=by obtain ⟨a⟩:=x;obtain ⟨b⟩:=y;have:a=b:=Array.toList_inj.mp h;rw[this]
theorem fS (x y:az):Txt.split x y≠[]:=by
 unfold Txt.split;split;simp
 ·split;simp
  ·intro h;have:=length_partsBetween x (Vi x y 0 x.length (x.length+1)) y.length;rw[h] at this;simp at this
theorem map_toList_inj:∀ {ts us:List az},ts.map (λt=>t.cps.toList)=us.map (λt=>t.cps.toList)->ts=us
 | [],[],_=>rfl
 | [],_::_,h=>by cases h
 | _::_,[],h=>by cases h
 | t::ts,u::us,h=>by obtain ⟨h1,h2⟩:=Us h;rw[lZ h1,map_toList_inj h2]
def Fre (c:Nat) (t:az):Prop:=c∉t.cps.toList
theorem C8 {c:Nat}{ts us:List az} (h1:ts≠[]) (h2:us≠[]) (f1:∀ t∈ts,Fre c t) (f2:∀ t∈us,Fre c t) (h:SV ⟨#[c]⟩ ts=SV ⟨#[c]⟩ us):ts=us:=by have e:=congrArg (λx:az=>x.cps.toList) h;simp only[jq] at e;refine map_toList_inj (C7 (by simpa using h1) (by simpa using h2) (λx hx=>?_) (λx hx=>?_) e);obtain ⟨t,ht,rfl⟩:=List.mem_map.mp hx;exact f1 t ht;obtain ⟨t,ht,rfl⟩:=List.mem_map.mp hx;exact f2 t ht
theorem kZ {c:Nat}{ts:List az} (h1:ts≠[]) (f1:∀ t∈ts,Fre c t):Txt.split (SV ⟨#[c]⟩ ts) ⟨#[c]⟩=ts :=
 C8 (fS _ _) h1 (λt ht=>WR _ c t ht) f1 (Uy _ _)
theorem sJ (y:az):∀ (xs zs:List az),zs≠[]->SV y (xs++[SV y zs])=SV y (xs++zs)
 | [],zs,h=>rfl
 | [x],zs,h=>by
  cases zs with
  | nil=>exact absurd rfl h| cons z zs=>rfl
 | x::x'::r,zs,h=>by have ih:=sJ y (x'::r) zs h;show x++y++SV y ((x'::r)++[SV y zs])=x++y++SV y ((x'::r)++zs);rw[ih]
theorem pG:∀ (ls:List az),SV ⟨#[]⟩ (ls.map (λl:az=>l++(⟨#[10]⟩:az)))=SV ⟨#[10]⟩ (ls++[⟨#[]⟩])
 | []=>rfl
 | [x]=>by apply lZ;show (x.cps++#[10]).toList=(x.cps++#[10]++#[]).toList;simp
 | x::x'::r=>by have ih:=pG (x'::r);apply lZ;show ((x.cps++#[10])++#[]++(SV ⟨#[]⟩ ((x'::r).map (λl:az=>l++(⟨#[10]⟩:az)))).cps).toList=(x.cps++#[10]++(SV ⟨#[10]⟩ ((x'::r)++[(⟨#[]⟩:az)])).cps).toList;rw[ih];simp
theorem join_le (y:az) (B:Nat):∀ ts:List az,(∀ t∈ts,t.length<=B)->(SV y ts).length<=ts.length*(B+y.length)
 | [],_=>UK _
 | [x],h=>by have:=h x SG;show x.length<=1*(B+y.length);lia
 | x::x'::r,h=>by
  have ih:=join_le y B (x'::r) λt ht=>h t (SI _ ht);have:=h x SG;have e:(SV y (x::x'::r)).length=x.length+y.length+(SV y (x'::r)).length:=by show (x++y++SV y (x'::r)).length=_;rw[UI,UI]
  rw[e,SX,Nat.add_mul];lia
noncomputable def nK:S:=(.seq (.set 3 (.me .pop (.var 1) .nil)) (.seq (.aug 2 .add (.cst (.int 1))) (.seq (.ife (.or (.cmp .gt (.var 2) (.glo "MOST_PARTS")) (.not (.call "has_sum_form" (Z9 (.var 3))))) (.ret (.cst (.bl ai))) .nil) (.ex (.me .extend (.var 1) (Z9 (.call "inner_sums" (Z9 (.var 3)))))))))
noncomputable def wsB:S:=(.seq (.set 3 (.me .pop (.var 2) .nil)) (.seq (.ex (.me .append (.var 1) (Z9 (.call "written_word" (Z9 (.var 3)))))) (.ex (.me .extend (.var 2) (Z9 (.rvs (.call "inner_sums" (Z9 (.var 3)))))))))
noncomputable def wrB:S:=(.ex (.me .append (.var 1) (Z9 (.ite (.cmp .eq (.var 3) (.cst (.str "sum"))) (.call "written_sum" (Z9 (.var 2))) (.tx .str (Z9 (.var 2)))))))
noncomputable def soB:S:=(.seq (.set 3 (.tx .dget (Z7 (.glo "INNER_COUNTS") (.var 2) (.cst (.int 0))))) (.seq (.ife (.cmp .gt (.var 3) (.bi .len ai (Z9 (.var 1)))) .bad .nil) (.seq (.set 4 (.comp ai .rng1 (Z9 (.var 3)) ["number"] [(1,"parts")] .nil (.me .pop (.var 1) .nil))) (.ex (.me .append (.var 1) (Z9 (.ite (.cmp .gt (.var 3) (.cst (.int 0))) (.bin .add (.tup (Z9 (.var 2))) (.bi .tuple ai (Z9 (.var 4)))) (.call "leaf_of" (Z9 (.var 2))))))))))
noncomputable def seB:S:=(.seq (.aug 2 .add (.bin .sub (.tx .dget (Z7 (.glo "INNER_COUNTS") (.idx (.var 0) (.var 1)) (.cst (.int 0)))) (.cst (.int 1)))) (.aug 1 .add (.cst (.int 1))))
noncomputable def roB:S:=(.seq (.set 5 (.var 3)) (.seq (.ife (.cmp .eq (.var 5) (.bi .len ai (Z9 (.var 1)))) .bad .nil) (.seq (.set 3 (.ite (.cmp .eq (.var 4) (.cst (.str "sum"))) (.call "sum_end" (Z8 (.var 1) (.var 5))) (.bin .add (.var 5) (.cst (.int 1))))) (.ex (.me .append (.var 2) (Z9 (.ite (.cmp .eq (.var 4) (.cst (.str "sum"))) (.call "sum_of" (Z9 (.slc (.var 1) (Z9 (.var 5)) (Z9 (.var 3))))) (.call "number_or_word" (Z9 (.idx (.var 1) (.var 5)))))))))))
noncomputable def gA:Fn:=⟨["thing"],["thing"], (.ret (.and (.call "is_whole" (Z9 (.var 0))) (.chain .le .lt (.cst (.int 0)) (.var 0) (.glo "WORTH_COUNT"))))⟩
noncomputable def gB:Fn:=⟨["thing","row_count"],["thing","row_count"], (.ret (.and (.call "is_whole" (Z9 (.var 0))) (.chain .le .le (.cst (.int 0)) (.var 0) (.var 1))))⟩
noncomputable def fy:Fn:=⟨["thing"],["thing"], (.seq (.ife (.and (.bi .isTuple ai (Z9 (.var 0))) (.and (.cmp .gt (.bi .len ai (Z9 (.var 0))) (.cst (.int 0))) (.bi .isStr ai (Z9 (.idx (.var 0) (.cst (.int 0))))))) (.ret (.idx (.var 0) (.cst (.int 0)))) .nil) (.ret (.cst .non)))⟩
noncomputable def dH:Fn:=⟨["part"],["part"], (.seq (.ife (.cmp .eq (.idx (.glo "INNER_COUNTS") (.idx (.var 0) (.cst (.int 0)))) (.cst (.int 0))) (.ret (.tup .nil)) .nil) (.ret (.slc (.var 0) (Z9 (.cst (.int 1))) .nil)))⟩
noncomputable def cV:Fn:=⟨["thing"],["thing","word"], (.seq (.set 1 (.call "first_word" (Z9 (.var 0)))) (.seq (.ife (.cmp .eq (.var 1) (.cst (.str "num"))) (.ret (.and (.cmp .eq (.bi .len ai (Z9 (.var 0))) (.cst (.int 2))) (.call "is_worth" (Z9 (.idx (.var 0) (.cst (.int 1))))))) .nil) (.seq (.ife (.cmp .eq (.var 1) (.cst (.str "name"))) (.ret (.and (.cmp .eq (.bi .len ai (Z9 (.var 0))) (.cst (.int 2))) (.call "is_name" (Z9 (.idx (.var 0) (.cst (.int 1))))))) .nil) (.ret (.and (.cmp .mem (.var 1) (.glo "INNER_COUNTS")) (.cmp .eq (.bi .len ai (Z9 (.var 0))) (.bin .add (.idx (.glo "INNER_COUNTS") (.var 1)) (.cst (.int 1)))))))))⟩
noncomputable def jM:Fn:=⟨["thing"],["thing","waiting","parts","part"], (.seq (.set 1 (.lst ah (Z9 (.var 0)))) (.seq (.set 2 (.cst (.int 0))) (.seq (.whl (.cmp .gt (.bi .len ai (Z9 (.var 1))) (.cst (.int 0))) nK) (.ret (.cst (.bl ah))))))⟩
noncomputable def k6:Fn:=⟨["thing","form","row_count"],["thing","form","row_count"], (.seq (.ife (.cmp .eq (.var 1) (.cst (.str "name"))) (.ret (.call "is_name" (Z9 (.var 0)))) .nil) (.seq (.ife (.cmp .eq (.var 1) (.cst (.str "place"))) (.ret (.call "is_place" (Z8 (.var 0) (.var 2)))) .nil) (.ret (.call "is_sum" (Z9 (.var 0))))))⟩
noncomputable def jN:Fn:=⟨["thing","row_count"],["thing","row_count","forms"], (.seq (.set 2 (.tx .dget (Z8 (.glo "ROW_FORMS") (.call "first_word" (Z9 (.var 0)))))) (.seq (.ife (.or (.cmp .isN (.var 2) (.cst .non)) (.cmp .ne (.bi .len ai (Z9 (.var 0))) (.bin .add (.bi .len ai (Z9 (.var 2))) (.cst (.int 1))))) (.ret (.cst (.bl ai))) .nil) (.ret (.tx .all (Z9 (.comp ai .zipG (Z8 (.slc (.var 0) (Z9 (.cst (.int 1))) .nil) (.var 2)) ["part","form"] [(1,"row_count")] .nil (.call "fits" (Z7 (.var 0) (.var 1) (.var 2)))))))))⟩
noncomputable def gi:Fn:=⟨["thing"],["thing"], (.seq (.ife (.or (.not (.bi .isTuple ai (Z9 (.var 0)))) (.cmp .gt (.bi .len ai (Z9 (.var 0))) (.glo "MOST_ROWS"))) (.ret (.cst (.bl ai))) .nil) (.ret (.tx .all (Z9 (.comp ai .seq (Z9 (.var 0)) ["row"] [(0,"thing")] .nil (.call "is_row" (Z8 (.var 0) (.bi .len ai (Z9 (.var 1))))))))))⟩
noncomputable def eH:Fn:=⟨["part"],["part"], (.seq (.ife (.cmp .eq (.idx (.var 0) (.cst (.int 0))) (.cst (.str "num"))) (.ret (.tx .str (Z9 (.idx (.var 0) (.cst (.int 1)))))) .nil) (.ret (.ite (.cmp .eq (.idx (.var 0) (.cst (.int 0))) (.cst (.str "name"))) (.idx (.var 0) (.cst (.int 1))) (.idx (.var 0) (.cst (.int 0))))))⟩
noncomputable def gF:Fn:=⟨["term"],["term","words","waiting","part"], (.seq (.set 1 (.lst ah .nil)) (.seq (.set 2 (.lst ah (Z9 (.var 0)))) (.seq (.whl (.cmp .gt (.bi .len ai (Z9 (.var 2))) (.cst (.int 0))) wsB) (.ret (.tx .join (Z8 (.cst (.str " ")) (.var 1)))))))⟩
noncomputable def gG:Fn:=⟨["row"],["row","words","part","form"], (.seq (.set 1 (.lst ah (Z9 (.idx (.var 0) (.cst (.int 0)))))) (.seq (.for [(2,"part"),(3,"form")] .zipG (Z8 (.slc (.var 0) (Z9 (.cst (.int 1))) .nil) (.idx (.glo "ROW_FORMS") (.idx (.var 0) (.cst (.int 0))))) wrB) (.ret (.tx .join (Z8 (.cst (.str " ")) (.var 1))))))⟩
noncomputable def ko:Fn:=⟨["program"],["program"], (.ret (.tx .join (Z8 (.cst (.str "")) (.comp ai .seq (Z9 (.var 0)) ["row"] [] .nil (.bin .add (.call "written_row" (Z9 (.var 0))) (.cst (.str "\n")))))))⟩
noncomputable def fM:Fn:=⟨["word"],["word"], (.ret (.and (.chain .lt .le (.cst (.int 0)) (.bi .len ai (Z9 (.var 0))) (.glo "MOST_FIGURES")) (.tx .all (Z9 (.comp ai .chs (Z9 (.var 0)) ["sign"] [] .nil (.tx .inS (Z8 (.var 0) (.glo "FIGURES"))))))))⟩
noncomputable def dX:Fn:=⟨["word"],["word"], (.ret (.ite (.call "is_figures" (Z9 (.var 0))) (.tx .intS (Z9 (.var 0))) (.var 0)))⟩
noncomputable def gC:Fn:=⟨["word"],["word","part"], (.seq (.set 1 (.call "number_or_word" (Z9 (.var 0)))) (.ret (.ite (.call "is_whole" (Z9 (.var 1))) (.tup (Z8 (.cst (.str "num")) (.var 1))) (.tup (Z8 (.cst (.str "name")) (.var 1))))))⟩
noncomputable def i6:Fn:=⟨["words"],["words","parts","word","many","inner"], (.seq (.set 1 (.lst ah .nil)) (.seq (.for [(2,"word")] .rev (Z9 (.var 0)) soB) (.ret (.idx (.var 1) (.neg (.cst (.int 1)))))))⟩
noncomputable def i7:Fn:=⟨["words","start"],["words","start","missing"], (.seq (.set 2 (.cst (.int 1))) (.seq (.whl (.and (.cmp .gt (.var 2) (.cst (.int 0))) (.cmp .lt (.var 1) (.bi .len ai (Z9 (.var 0))))) seB) (.ret (.var 1))))⟩
noncomputable def i8:Fn:=⟨["line"],["line","words","row","behind","form","start"], (.seq (.set 1 (.tx .split (Z8 (.var 0) (.cst (.str " "))))) (.seq (.set 2 (.lst ah (Z9 (.idx (.var 1) (.cst (.int 0)))))) (.seq (.set 3 (.cst (.int 1))) (.seq (.for [(4,"form")] .seq (Z9 (.tx .dget (Z7 (.glo "ROW_FORMS") (.idx (.var 1) (.cst (.int 0))) (.tup .nil)))) roB) (.ret (.bi .tuple ai (Z9 (.var 2))))))))⟩
noncomputable def iA:Fn:=⟨["text"],["text","term"], (.seq (.set 1 (.call "sum_of" (Z9 (.tx .split (Z8 (.var 0) (.cst (.str " "))))))) (.seq (.ife (.or (.not (.call "is_sum" (Z9 (.var 1)))) (.cmp .ne (.call "written_sum" (Z9 (.var 1))) (.var 0))) .bad .nil) (.ret (.var 1))))⟩
noncomputable def pH:Fn:=⟨["text"],["text","program"], (.seq (.set 1 (.bi .tuple ai (Z9 (.comp ai .seq (Z9 (.slc (.tx .split (Z8 (.var 0) (.cst (.str "\n")))) .nil (Z9 (.neg (.cst (.int 1)))))) ["line"] [] .nil (.call "row_of" (Z9 (.var 0))))))) (.seq (.ife (.or (.not (.call "is_program" (Z9 (.var 1)))) (.cmp .ne (.call "written" (Z9 (.var 1))) (.var 0))) .bad .nil) (.ret (.var 1))))⟩
noncomputable def eN:List (az×D):=[("num",.int 0),("name",.int 0),("cell",.int 1),("add",.int 2),("sub",.int 2),("mul",.int 2),("less",.int 2)]
noncomputable def nL:List (az×D):=[("set",.tup [.str "name",.str "sum"]),("put",.tup [.str "sum",.str "sum"]),("ask",.tup [.str "name"]),("say",.tup [.str "sum"]),("jump",.tup [.str "place"]),("unless",.tup [.str "sum",.str "place"]),("call",.tup [.str "place"]),("back",.tup []),("stop",.tup [])]
structure P80 (T:FK → Option Fn) (G:az → Option W):Prop where
 is_whole:T "is_whole"=aa fH
 is_worth:T "is_worth"=aa gA
 is_name:T "is_name"=aa iz
 is_place:T "is_place"=aa gB
 first_word:T "first_word"=aa fy
 inner_sums:T "inner_sums"=aa dH
 has_sum_form:T "has_sum_form"=aa cV
 is_sum:T "is_sum"=aa jM
 fits:T "fits"=aa k6
 is_row:T "is_row"=aa jN
 is_program:T "is_program"=aa gi
 written_word:T "written_word"=aa eH
 written_sum:T "written_sum"=aa gF
 written_row:T "written_row"=aa gG
 written:T "written"=aa ko
 is_figures:T "is_figures"=aa fM
 number_or_word:T "number_or_word"=aa dX
 leaf_of:T "leaf_of"=aa gC
 sum_of:T "sum_of"=aa i6
 sum_end:T "sum_end"=aa i7
 row_of:T "row_of"=aa i8
 read_sum:T "read_sum"=aa iA
 read:T "read"=aa pH
 LETTERS:G "LETTERS"=aa (.p (.tup [.str "a",.str "b",.str "c",.str "d",.str "e",.str "f"]))
 WORTH_COUNT:G "WORTH_COUNT"=aa (.p (.int 10007))
 MOST_PARTS:G "MOST_PARTS"=aa (.p (.int 15))
 MOST_ROWS:G "MOST_ROWS"=aa (.p (.int 20))
 INNER_COUNTS:G "INNER_COUNTS"=aa (.k (.t eN))
 ROW_FORMS:G "ROW_FORMS"=aa (.k (.t nL))
 FIGURES:G "FIGURES"=aa (.p (.str "0123456789"))
 MOST_FIGURES:G "MOST_FIGURES"=aa (.p (.int 5))
noncomputable def fC (n:Int):az:=SE (toString n)
noncomputable def Sm.hd:Sm → az
 | .num n=>fC n| .nam i=>i.w| .cell _=>"cell"| .two o _ _=>o.w
noncomputable def Sm.inn:Sm → List Sm
 | .num _=>[]| .nam _=>[]| .cell s=>[s]| .two _ s t=>[s,t]
noncomputable def Sm.wds:Sm → List az
 | .num n=>[fC n]| .nam i=>[(i.w:az)]| .cell s=>"cell" :: s.wds| .two o s t=>o.w::(s.wds++t.wds)
theorem wm (s:Sm):s.wds=s.hd::(s.inn.flatMap Sm.wds):=by cases s<;>simp[Sm.wds,Sm.hd,Sm.inn]
theorem C9 (s:Sm):s.wds≠[]:=by rw[wm];simp
theorem fN:∀ s:Sm,s.wds.length=s.size
 | .num _=>rfl| .nam _=>rfl
 | .cell s=>by simp[Sm.wds,Sm.size,fN s]
 | .two o s t=>by simp[Sm.wds,Sm.size,fN s,fN t]
noncomputable def szs (l:List Sm):Nat:=(l.map Sm.size).sum
theorem Ao (s:Sm):szs s.inn+1=s.size:=by cases s<;>simp[szs,Sm.inn,Sm.size]
theorem qJ (a b:List Sm):szs (a++b)=szs a+szs b:=by simp[szs]
theorem Dc {s:Sm} (h:s.ok):∀ t∈s.inn,t.ok:=by
 cases s with
 | cell s =>
  intro t ht;have:t=s:=by simpa [Sm.inn] using ht
  subst this;exact h
 | two o a b =>
  intro t ht;rcases (show t=a ∨ t=b by simpa [Sm.inn] using ht) with rfl|rfl
  exact h.1;exact h.2
 | _=>intro t ht;cases ht
section
variable {T:FK → Option Fn}{G:az → Option W}
theorem HG (o:Op):dU (SE o.w) eN=aa (.int 2):=by cases o<;>rfl
theorem l6 (P:P80 T G) (k:Nat) {s:Sm} (hs:s.ok) (h:HH):runN T G (k+1) "written_word" [.p s.enc] h=aa (.p (.str s.hd),h):=by
 rw[run_eq P.written_word rfl];cases s with
 | num n =>
  have hb:big n=ah:=by
   have:=hs;unfold big;exact decide_eq_true (by
    have h1:Wth n:=hs;have h2:0 ≤ n ∧ n ≤ 10006:=h1;lia)
  simp[eH,Sm.enc,Sm.hd,fC,kTx,txD,rds,hb,cT]
 | two o s t=>cases o<;>simp[eH,Sm.enc,Sm.hd,Op.w,cT]| _=>simp[eH,Sm.enc,Sm.hd,cT]
theorem wo (P:P80 T G) (k:Nat) (s:Sm) (h:HH):runN T G (k+1) "inner_sums" [.p s.enc] h=aa (.p (.tup (s.inn.map Sm.enc)),h):=by
 rw[run_eq P.inner_sums rfl];cases s with
 | two o s t=>cases o<;>simp[dH,Sm.enc,Sm.inn,Op.w,P.INNER_COUNTS,eN,cT]| _=>simp[dH,Sm.enc,Sm.inn,P.INNER_COUNTS,eN,cT]
theorem sL (l:List Sm):l.length ≤ szs l:=by
 induction l with
 | nil=>simp[szs]
 | cons s l ih =>
  have h1:=s.size_pos;simp only[szs,Tw,W3,SX] at ih ⊢;lia
theorem uO (s:Sm) (l:List Sm):szs (s::l)=szs (s.inn++l)+1:=by
 have:=Ao s;rw[qJ];have e:szs (s::l)=s.size+szs l:=by simp[szs]
 lia
noncomputable def wsC:E:=(.cmp .gt (.bi .len ai (Z9 (.var 2))) (.cst (.int 0)))
theorem Gn (P:P80 T G) (k:Nat) (h:HH) (t0:W):∀ (m:Nat) (stk:List Sm) (ps:List az) (x:Option W),szs stk ≤ m → ps.length+szs stk ≤ 900 → (∀ s∈stk,s.ok) →
 ∃ x',fh (BT.ev (runN T G (k+1)) G wsC) (evS (runN T G (k+1)) G wsB) (m+1) [aa t0,aa (.r h.length),aa (.r (h.length+1)),x] (h++[.l (ps.map .str),.l (stk.reverse.map Sm.enc)]) =
  aa (.nx [aa t0,aa (.r h.length),aa (.r (h.length+1)),x'] (h++[.l ((ps++stk.flatMap Sm.wds).map .str),.l []])):=by
 intro m
 induction m with
 | zero =>
  intro stk ps x hs _ _;have:stk=[]:=by have:=sL stk;exact VL (by lia)
  subst this;exact ⟨x,by simp[fh,wsC,rd]⟩
 | succ m ih =>
  intro stk ps x hs hl hok;cases stk with
  | nil=>exact ⟨x,by simp[fh,wsC,rd]⟩
  | cons s l =>
   have e:=uO s l;have ok1:=hok s SG;obtain ⟨x',q⟩:=ih (s.inn++l) (ps++[s.hd]) (aa (.p s.enc)) (by lia) (by simp only[SN,Uk];lia) (λt ht=>by
    rcases List.mem_append.mp ht with z|z
    exact Dc ok1 t z
    ·exact hok t (SI _ z))
   refine ⟨x',?_⟩;have r:=wo P k s;have r2:=l6 P k ok1;have hl2:=sL (s.inn++l);rw[SN] at hl2;have l1:l.length+s.inn.length ≤ 100000:=by lia
   have c1:(0:Int) < (l.length:Int)+1:=by lia
   have l2:ps.length < 100000:=by lia
   have hc:BT.ev (runN T G (k+1)) G wsC [aa t0,aa (.r h.length),aa (.r (h.length+1)),x] (h++[.l (ps.map .str),.l ((s::l).reverse.map Sm.enc)])=aa (.p (.bl ah),h++[.l (ps.map .str),.l ((s::l).reverse.map Sm.enc)]):=by simp[wsC,rd,c1]
   have hb:evS (runN T G (k+1)) G wsB [aa t0,aa (.r h.length),aa (.r (h.length+1)),x] (h++[.l (ps.map .str),.l ((s::l).reverse.map Sm.enc)]) =
    aa (.nx [aa t0,aa (.r h.length),aa (.r (h.length+1)),aa (.p s.enc)] (h++[.l ((ps++[s.hd]).map .str),.l ((s.inn++l).reverse.map Sm.enc)])):=by
    simp[wsB,r,r2,l1,l2]
   rw[fh,hc,kR,kT,hb,dO,q,Xb,wm s,YZ,TH];simp
theorem pI:∀ ts:List az,strsOf (ts.map .str)=aa ts
 | []=>rfl
 | t::ts=>by have ih:=pI ts;show (strsOf (ts.map .str)).map (t :: ·)=_;rw[ih];rfl
theorem kq (hw:rd w h=aa (.lst (ts.map .str))) (h1:ts.length ≤ 4000) (h2:x.length ≤ 10) (h3:∀ t∈ts,t.length ≤ 4000):kTx .join [.p (.str x),w] h=aa (.p (.str (SV x ts)),h):=by
 show ((rds [.p (.str x),w] h).bind λds=>(txD .join ds).map λd=>(W.p d,h))=_;have e:rds [.p (.str x),w] h=aa [.str x,.lst (ts.map .str)]:=by simp only[rds,hw,Qf,Ue,Vq]
 rw[e,Ue];show (((strsOf (ts.map .str)).bind λts=>if ts.length ≤ 4000 ∧ x.length ≤ 10 ∧ ∀ t∈ts,t.length ≤ 4000 then aa (D.str (SV x ts)) else af).map λd=>(W.p d,h))=_;rw[pI,Ue,if_pos ⟨h1,h2,h3⟩];rfl
theorem l7 (h:Wth n):1 ≤ (fC n).length ∧ (fC n).length ≤ 5:=by
 obtain ⟨h0,h1⟩:=h;obtain ⟨m,rfl⟩:=Wr h0;have e:=Wa m;have l:(fC (m:Int)).length=(Nat.toDigits 10 m).length:=by show (SE (toString ((m:Nat):Int))).cps.size=_;rw[← Vn,e,SJ]
 rw[l];exact ⟨PyProof.Rows.tDigits_len_ge 10 m,PyProof.Rows.digits10_le (by decide) (by lia)⟩
theorem sM (i:Nm):(SE i.w).length=1:=by cases i<;>rfl
theorem Km (o:Op):(SE o.w).length ≤ 4:=by cases o<;>decide
theorem k8:∀ {s:Sm},s.ok → ∀ t∈s.wds,t.length ≤ 5
 | .num n,h,t,ht=>by
  have:t=fC n:=by simpa [Sm.wds] using ht
  subst this;exact (l7 h).2
 | .nam i,h,t,ht=>by
  have:t=SE i.w:=by simpa [Sm.wds] using ht
  subst this;rw[sM];decide
 | .cell s,h,t,ht=>by
  rcases List.mem_cons.mp ht with rfl|ht
  ·decide
  exact k8 (s:=s) h t ht
 | .two o a b,h,t,ht=>by
  rcases List.mem_cons.mp ht with rfl|ht
  have:=Km o;lia
  ·rcases List.mem_append.mp ht with ht|ht
   exact k8 (s:=a) h.1 t ht;exact k8 (s:=b) h.2 t ht
noncomputable def Sm.txt (s:Sm):az:=SV " " s.wds
theorem eg (P:P80 T G) (k:Nat) {s:Sm} (hs:s.ok) (hz:s.size ≤ 100) (h:HH):runN T G (k+2) "written_sum" [.p s.enc] h=aa (.p (.str s.txt),h):=by
 rw[run_eq P.written_sum rfl];obtain ⟨x',q⟩:=Gn P k h (.p s.enc) 99999 [s] [] af (by simp only[szs,Tw,WB,W3,List.sum_nil];lia) (by simp only[szs,Tw,WB,W3,List.sum_nil,Uo];lia) (λt ht=>by
  have:t=s:=by simpa using ht
  subst this;exact hs)
 simp only[Xb,List.flatMap_nil,Ug,UT,Ws,Tw,WB] at q;have wl:=fN s;have j:=kq (x:=" ") (ts:=s.wds) (h:=h++[.l (s.wds.map .str),.l []]) (w:=.r h.length) (by simp[rd]) (by lia) (by decide) λt ht=>SZ (k8 hs t ht) (by decide);have f:=lY h [.l (s.wds.map .str),.l []] (.str s.txt);rw[← Sm.txt] at j;have eq:gF=⟨["term"],["term","words","waiting","part"],.seq (.set 1 (.lst ah .nil)) (.seq (.set 2 (.lst ah (.cons (.var 0) .nil))) (.seq (.whl wsC wsB) (.ret (.tx .join (.cons (.cst (.str " ")) (.cons (.var 1) .nil))))))⟩:=rfl;rw[eq];simp[turns,q,j,f]
theorem Kn (x:az) (h:HH):kTx .str [.p (.str x)] h=aa (.p (.str x),h):=rfl
theorem Ko (hb:big n=ah) (h:HH):kTx .str [.p (.int n)] h=aa (.p (.str (fC n)),h):=by show (((if big n=ah then aa (D.str (toString n)) else af):Option D).map λd=>(W.p d,h))=_;rw[if_pos hb];rfl
theorem Gp (h:Wth n):big n=ah:=by obtain ⟨h0,h1⟩:=h;unfold big;exact decide_eq_true (by lia)
theorem yy {s:Sm} (hs:s.ok) (hz:s.size ≤ 100):s.txt.length ≤ 600:=by have:=join_le " " 5 s.wds (k8 hs);rw[fN] at this;have e:(" ":az).length=1:=rfl;rw[e] at this;exact SZ this (by lia)
theorem cgo {cond:Es} (e1:evs F G sa s h=aa (ws,h1)) (e2:(rds ws h1).bind (gu sr)=aa ds) (e3:frees s fv=aa fs) (e4:iG ws=ah) (e5:dj (dI (evs F G cond) (BT.ev F G elt) fs) tg.length ds h1=aa (xs,h2)) (e6:xs.length ≤ 100000):BT.ev F G (.comp ai sr sa tg fv cond elt) s h=aa (.p (.lst xs),h2):=by rw[BT.ev,e1,cZ];unfold qx;rw[e2,e3];show (if iG ws=ah then _ else _)=_;rw[if_pos e4,e5,cZ];unfold iy;rw[if_pos (show xs.length ≤ lim from e6)];rfl
end
theorem i9 (y:az):∀ (zs us:List az),zs≠[] → us≠[] → SV y (zs++us)=SV y zs++y++SV y us
 | [],_,h,_=>absurd rfl h
 | [z],us,_,h2=>by
  cases us with
  | nil=>exact absurd rfl h2| cons u us=>rfl
 | z::z'::zs,us,_,h2=>by have:=i9 y (z'::zs) us (by simp) h2;show z++y++SV y ((z'::zs)++us)=(z++y++SV y (z'::zs))++y++SV y us;rw[this];apply lZ;show (z.cps++y.cps++(((SV y (z'::zs)).cps++y.cps)++(SV y us).cps)).toList=((z.cps++y.cps++(SV y (z'::zs)).cps)++y.cps++(SV y us).cps).toList;simp
theorem nu (y:az):∀ (cs:List (List az)) (xs:List az),xs≠[] → (∀ c∈cs,c≠[]) → SV y (xs++cs.map (SV y))=SV y (xs++cs.flatten)
 | [],xs,_,_=>by simp
 | c::cs,xs,hx,hc=>by
  have hc1:=hc c SG;have ih:=nu y cs (xs++c) (by simp[hx]) λd hd=>hc d (SI _ hd);rw[UH,← TH,← ih,Tw]
  by_cases z:cs.map (SV y)=[]
  rw[z,Ug];exact sJ y xs c hc1;rw[show xs++SV y c::cs.map (SV y)=(xs++[SV y c])++cs.map (SV y) by simp,i9 y _ _ (by simp) z,i9 y _ _ (by simp[hx]) z,sJ y xs c hc1]
structure Prt where
 f:az
 d:D
 ws:List az
noncomputable def Prt.sm (s:Sm):Prt:=⟨"sum",s.enc,s.wds⟩
noncomputable def Prt.nm (x:Nm):Prt:=⟨"name",.str x.w,[(x.w:az)]⟩
noncomputable def Prt.pl (p:Nat):Prt:=⟨"place",.int p,[fC p]⟩
noncomputable def Rw.prt:Rw → List Prt
 | .set x s=>[.nm x,.sm s]| .put s t=>[.sm s,.sm t]| .ask x=>[.nm x]| .say s=>[.sm s]| .jump p=>[.pl p]| .unless s p=>[.sm s,.pl p]| .call p=>[.pl p]| .back=>[]| .stop=>[]
inductive gQ (n:Nat):Prt → Prop where
 | sm (s:Sm) (h:mY s):gQ n (.sm s)
 | nm (x:Nm):gQ n (.nm x)
 | pl (p:Nat) (h:p ≤ n):gQ n (.pl p)
theorem iB {n:Nat}{r:Rw} (h:r.ok n):∀ p∈r.prt,gQ n p:=by
 cases r with
 | set x s=>intro p hp;rcases (show p=.nm x ∨ p=.sm s by simpa [Rw.prt] using hp) with rfl|rfl;exact .nm x;exact .sm s h
 | put s t=>intro p hp;rcases (show p=.sm s ∨ p=.sm t by simpa [Rw.prt] using hp) with rfl|rfl;exact .sm s h.1;exact .sm t h.2
 | ask x=>intro p hp;rw[show p=.nm x by simpa [Rw.prt] using hp];exact .nm x| say s=>intro p hp;rw[show p=.sm s by simpa [Rw.prt] using hp];exact .sm s h| jump q=>intro p hp;rw[show p=.pl q by simpa [Rw.prt] using hp];exact .pl q h
 | «unless» s q=>intro p hp;rcases (show p=.sm s ∨ p=.pl q by simpa [Rw.prt] using hp) with rfl|rfl;exact .sm s h.1;exact .pl q h.2
 | call q=>intro p hp;rw[show p=.pl q by simpa [Rw.prt] using hp];exact .pl q h| _=>intro p hp;cases hp
noncomputable def Rw.wd (r:Rw):az:=SE r.word
noncomputable def Rw.wds (r:Rw):List az:=r.wd::(r.prt.map Prt.ws).flatten
noncomputable def Rw.txt (r:Rw):az:=SV " " r.wds
theorem kr (r:Rw):r.enc=.tup (.str r.wd::r.prt.map Prt.d):=by cases r<;>rfl
theorem yz (r:Rw):dU r.wd nL=aa (.tup (r.prt.map λp=>.str p.f)):=by cases r<;>rfl
theorem mh (r:Rw):r.prt.length ≤ 2:=by cases r<;>simp[Rw.prt]
theorem De (h:gQ n p):p.ws≠[]:=by
 cases h with
 | sm s h=>exact C9 s| nm x=>simp[Prt.nm]| pl q h=>simp[Prt.pl]
theorem mZ {p n:Nat} (hn:n ≤ 100) (h:p ≤ n):Wth (p:Int):=⟨by lia,by lia⟩
theorem wu {n:Nat} (hn:n ≤ 100) (h:gQ n p):(∀ t∈p.ws,t.length ≤ 5) ∧ p.ws.length ≤ 15:=by
 cases h with
 | sm s h=>exact ⟨k8 h.1,by show s.wds.length ≤ 15;rw[fN];exact h.2⟩| nm x=>exact ⟨λt ht=>by rw[show t=SE x.w by simpa [Prt.nm] using ht,sM];decide,by simp[Prt.nm]⟩| pl q h=>exact ⟨λt ht=>by rw[show t=fC q by simpa [Prt.pl] using ht];exact (l7 (mZ hn h)).2,by simp[Prt.pl]⟩
theorem Df (hn:n ≤ 100) (h:gQ n p):(SV " " p.ws).length ≤ 1000:=by obtain ⟨h1,h2⟩:=wu hn h;have:=join_le " " 5 p.ws h1;have e:(" ":az).length=1:=rfl;rw[e] at this;exact SZ this (by lia)
theorem sN (r:Rw):r.word∈["set","put","ask","say","jump","unless","call","back","stop"]:=by cases r<;>simp[Rw.word]
theorem Aq:∀ w∈(["set","put","ask","say","jump","unless","call","back","stop"]:List String),(SE w).length ≤ 6 ∧ ¬ (SE w="num" ∨ SE w="name"):=by decide
theorem yC (r:Rw):r.wd.length ≤ 6:=(Aq _ (sN r)).1
theorem Kp {n:Nat}{r:Rw} (h:r.ok n):r.txt=SV " " (r.wd::r.prt.map λp=>SV " " p.ws):=by
 have e:=nu " " (r.prt.map Prt.ws) [r.wd] (by simp) λc hc=>by obtain ⟨p,hp,rfl⟩:=List.mem_map.mp hc;exact De (iB h p hp)
 rw[V6] at e;exact e.symm
section
variable {T:FK → Option Fn}{G:az → Option W}
theorem Kq (a:D) (l:List D):nF (.tup (a::l)) (aa 1) af=aa (.tup l):=by
 have e1:clip (a::l).length 0 (aa 1)=1:=by show (if (1:Int) < 0 then ((1:Int)+((a::l).length:Int)).toNat else if (1:Int) ≤ ((a::l).length:Int) then (1:Int).toNat else (a::l).length)=1;rw[if_neg (by decide),if_pos (by rw[SX];lia)];rfl
 show aa (D.tup (cut (a::l) (aa 1) af))=_;unfold cut;rw[e1];simp
theorem Gq (P:P80 T G) {n:Nat} (hn:n ≤ 100) {p:Prt} (ok:gQ n p) (k:Nat) (w0 w1:W) (h:HH) :
 BT.ev (runN T G (k+2)) G (.ite (.cmp .eq (.var 3) (.cst (.str "sum"))) (.call "written_sum" (.cons (.var 2) .nil)) (.tx .str (.cons (.var 2) .nil))) [aa w0,aa w1,aa (.p p.d),aa (.p (.str p.f))] h=aa (.p (.str (SV " " p.ws)),h):=by
 cases ok with
 | sm s h1 =>
  have r:=eg P k h1.1 (by have:=h1.2;lia) h;simp[Prt.sm,r,Sm.txt]
 | nm x=>simp[Prt.nm,Kn];rfl| pl q h1=>simp[Prt.pl,Ko (Gp (mZ hn h1))];rfl
theorem yD (P:P80 T G) (hn:n ≤ 100) (k:Nat) (w0:W) (h:HH):∀ (ps:List Prt) (acc:List az) (x2 x3:Option W),(∀ p∈ps,gQ n p) → acc.length+ps.length ≤ 100 →
 ∃ y2 y3,dJ (evS (runN T G (k+2)) G wrB) [(2,"part"),(3,"form")] (ps.map λp=>.tup [p.d,.str p.f]) [aa w0,aa (.r h.length),x2,x3] (h++[.l (acc.map .str)]) =
  aa (.nx [aa w0,aa (.r h.length),y2,y3] (h++[.l ((acc++ps.map λp=>SV " " p.ws).map .str)]))
 | [],acc,x2,x3,_,_=>⟨x2,x3,by simp⟩
 | p::ps,acc,x2,x3,hp,hl=>by
  simp only[SX] at hl;have c:=Gq P hn (hp p SG) k w0 (.r h.length) (h++[.l (acc.map .str)]);obtain ⟨y2,y3,q⟩:=yD P hn k w0 h ps (acc++[SV " " p.ws]) (aa (.p p.d)) (aa (.p (.str p.f))) (λq hq=>hp q (SI _ hq)) (by simp;lia);refine ⟨y2,y3,?_⟩;have l1:acc.length < 100000:=by lia
  have b:evS (runN T G (k+2)) G wrB [aa w0,aa (.r h.length),aa (.p p.d),aa (.p (.str p.f))] (h++[.l (acc.map .str)])=aa (.nx [aa w0,aa (.r h.length),aa (.p p.d),aa (.p (.str p.f))] (h++[.l ((acc++[SV " " p.ws]).map .str)])):=by rw[wrB];generalize (E.ite (.cmp .eq (.var 3) (.cst (.str "sum"))) (.call "written_sum" (.cons (.var 2) .nil)) (.tx .str (.cons (.var 2) .nil)))=EE at *;simp[c,l1]
  have st:dJ (evS (runN T G (k+2)) G wrB) [(2,"part"),(3,"form")] ((p::ps).map λp=>.tup [p.d,.str p.f]) [aa w0,aa (.r h.length),x2,x3] (h++[.l (acc.map .str)])=fP (evS (runN T G (k+2)) G wrB [aa w0,aa (.r h.length),aa (.p p.d),aa (.p (.str p.f))] (h++[.l (acc.map .str)])) (dJ (evS (runN T G (k+2)) G wrB) [(2,"part"),(3,"form")] (ps.map λp=>.tup [p.d,.str p.f])):=rfl;rw[st,b,dO,q];simp
theorem yE:∀ ps:List Prt,jD (ps.map Prt.d) (ps.map λp=>.str p.f)=ps.map λp=>.tup [p.d,.str p.f]
 | []=>rfl
 | p::ps=>by simp[yE ps]
theorem m6 (P:P80 T G) {n:Nat} (hn:n ≤ 100) {r:Rw} (hr:r.ok n) (k:Nat) (h:HH):runN T G (k+3) "written_row" [.p r.enc] h=aa (.p (.str r.txt),h):=by
 rw[run_eq P.written_row rfl,Kp hr,kr];obtain ⟨y2,y3,q⟩:=yD P hn k (.p (.tup (.str r.wd::r.prt.map Prt.d))) h r.prt [r.wd] af af (iB hr) (by have:=mh r;simp;lia);have j:=kq (x:=" ") (ts:=r.wd::r.prt.map λp=>SV " " p.ws) (h:=h++[.l (([r.wd]++r.prt.map λp=>SV " " p.ws).map .str)]) (w:=.r h.length) (by simp[rd]) (by have:=mh r;simp;lia) (by decide) λt ht=>by
  rcases List.mem_cons.mp ht with rfl|ht
  exact SZ (yC r) (by decide)
  ·obtain ⟨p,hp,rfl⟩:=List.mem_map.mp ht;exact SZ (Df hn (iB hr p hp)) (by decide)
 have f:=lY h [.l (([r.wd]++r.prt.map λp=>SV " " p.ws).map .str)] (.str (SV " " (r.wd::r.prt.map λp=>SV " " p.ws)));have i0:fE (.tup (.str r.wd::r.prt.map Prt.d)) (.int 0)=aa (.str r.wd):=by show atP _ ((0:Nat):Int)=_;rw[jm];rfl
 have s0:=Kq (.str r.wd) (r.prt.map Prt.d);have g:=yz r;have z:=yE r.prt;generalize r.prt.map Prt.d=PD at *;generalize (r.prt.map λp=>D.str p.f)=PF at *;generalize (r.prt.map λp=>D.tup [p.d,.str p.f])=PZ at *;generalize (r.prt.map λp=>SV " " p.ws)=PC at *;have sr:gu .zipG [.tup PD,.tup PF]=aa PZ:=by rw[jU,← z];rfl
 simp only[TV,Tw,WB,List.cons_append,UT] at q j f;simp[-dJ,-gw,-jd,-jU,gG,i0,s0,P.ROW_FORMS,g,sr,iG,q,j,f]
end
theorem gj:(" ":az)=⟨#[32]⟩:=by decide
theorem jO:("\n":az)=⟨#[10]⟩:=by decide
theorem HJ:("":az)=⟨#[]⟩:=by decide
theorem mj {n:Nat} (hn:n ≤ 100) {r:Rw} (hr:r.ok n):(∀ t∈r.wds,t.length ≤ 6) ∧ r.wds.length ≤ 31:=by
 constructor
 ·intro t ht;rcases List.mem_cons.mp ht with rfl|ht
  exact yC r
  ·obtain ⟨l,hl,h2⟩:=List.mem_flatten.mp ht;obtain ⟨p,hp,rfl⟩:=List.mem_map.mp hl;exact Nat.le_succ_of_le ((wu hn (iB hr p hp)).1 t h2)
 ·have:∀ ps:List Prt,(∀ p∈ps,gQ n p) → (ps.map Prt.ws).flatten.length ≤ ps.length*15:=by
   intro ps
   induction ps with
   | nil=>intro _;simp
   | cons p ps ih =>
    intro h;have h1:=(wu hn (h p SG)).2;have h2:=ih λq hq=>h q (SI _ hq);simp only[Tw,UH,SN,SX];lia
  have h1:=this r.prt (iB hr);have h2:=mh r;show ((r.prt.map Prt.ws).flatten).length+1 ≤ 31;lia
theorem pJ {n:Nat} (hn:n ≤ 100) {r:Rw} (hr:r.ok n):r.txt.length ≤ 217:=by obtain ⟨h1,h2⟩:=mj hn hr;have:=join_le " " 6 r.wds h1;have e:(" ":az).length=1:=rfl;rw[e] at this;exact SZ this (by lia)
noncomputable def lnT (r:Rw):az:=r.txt++"\n"
noncomputable def pgT (pg:Pg):az:=SV "" (pg.map lnT)
theorem sO (hn:n ≤ 100) (hr:r.ok n):(lnT r).length ≤ 218:=by have:=pJ hn hr;have e:("\n":az).length=1:=rfl;show (r.txt++"\n").length ≤ 218;rw[UI,e];lia
section
variable {T:FK → Option Fn}{G:az → Option W}
theorem pK (F:FK → List W → HH → Option (W×HH)) (f:az) (h:HH) (hn:n ≤ 100):∀ pg:Pg,(∀ r∈pg,r.ok n) → (∀ r∈pg,F (.f f) [.p r.enc] h=aa (.p (.str r.txt),h)) →
 dj (dI (evs F G .nil) (BT.ev F G (.bin .add (.call f (.cons (.var 0) .nil)) (.cst (.str "\n")))) []) 1 (pg.map Rw.enc) h=aa ((pg.map lnT).map .str,h)
 | [],_,_=>rfl
 | r::pg,hok,hf=>by
  have q:=pK F f h hn pg (λx hx=>hok x (SI _ hx)) λx hx=>hf x (SI _ hx);have f1:=hf r SG;have l1:=pJ hn (hok r SG);have e:("\n":az).length=1:=rfl;have el:BT.ev F G (.bin .add (.call f (.cons (.var 0) .nil)) (.cst (.str "\n"))) [aa (.p r.enc)] h=aa (.p (.str (lnT r)),h):=by
   have b:iF .add (.str r.txt) (.str "\n")=aa (.str (lnT r)):=by show (if r.txt.length+("\n":az).length ≤ 100000 then _ else _)=_;rw[if_pos (by rw[e];lia)];rfl
   generalize lnT r=L at *;generalize r.txt=TX at *;simp[-iw,f1,b]
  have st:dj (dI (evs F G .nil) (BT.ev F G (.bin .add (.call f (.cons (.var 0) .nil)) (.cst (.str "\n")))) []) 1 ((r::pg).map Rw.enc) h = bnd (bnd (BT.ev F G (.bin .add (.call f (.cons (.var 0) .nil)) (.cst (.str "\n"))) [aa (.p r.enc)] h) gJ) (kG (dj (dI (evs F G .nil) (BT.ev F G (.bin .add (.call f (.cons (.var 0) .nil)) (.cst (.str "\n")))) []) 1 (pg.map Rw.enc))):=rfl;rw[st,el,cZ];show bnd (aa (aa (D.str (lnT r)),h)) _=_;rw[cZ,gc,q];rfl
theorem qf (hn:n ≤ 100) (hl:pg.length ≤ 100) (hok:∀ r∈pg,r.ok n) (h:HH):kTx .join [.p (.str ""),.p (.lst ((pg.map lnT).map .str))] h=aa (.p (.str (pgT pg)),h) :=
 kq (x:="") (ts:=pg.map lnT) (w:=.p (.lst ((pg.map lnT).map .str))) rfl (by rw[SJ];lia) (by decide) λt ht=>by obtain ⟨r,hr,rfl⟩:=List.mem_map.mp ht;exact SZ (sO hn (hok r hr)) (by decide)
theorem gk (P:P80 T G) (hn:n ≤ 100) (hl:pg.length ≤ 100) (hok:∀ r∈pg,r.ok n) (k:Nat) (h:HH):runN T G (k+4) "written" [.p (gy pg)] h=aa (.p (.str (pgT pg)),h):=by
 rw[run_eq P.written rfl];have c:=pK (G:=G) (runN T G (k+3)) "written_row" h hn pg hok λr hr=>m6 P hn (hok r hr) k h;have c2:BT.ev (runN T G (k+3)) G (.comp ai .seq (.cons (.var 0) .nil) ["row"] [] .nil (.bin .add (.call "written_row" (.cons (.var 0) .nil)) (.cst (.str "\n")))) [aa (.p (gy pg))] h=aa (.p (.lst ((pg.map lnT).map .str)),h) :=
  cgo (ws:=[.p (gy pg)]) (h1:=h) (fs:=[]) (by simp) rfl rfl rfl c (by simp;lia)
 have j:=qf hn hl hok h;generalize (pg.map lnT).map D.str=L at *;generalize pgT pg=PT at *;rw[ko];generalize (E.comp ai .seq (.cons (.var 0) .nil) ["row"] [] .nil (.bin .add (.call "written_row" (.cons (.var 0) .nil)) (.cst (.str "\n"))))=EE at *;generalize gy pg=PE at *;simp[c2,j,cT]
theorem Kr:∀ c:Nat,48 ≤ c → c ≤ 57 → Txt.contains "0123456789" ⟨#[c]⟩=ah:=by
 intro c h1 h2;have:c=48 ∨ c=49 ∨ c=50 ∨ c=51 ∨ c=52 ∨ c=53 ∨ c=54 ∨ c=55 ∨ c=56 ∨ c=57:=by lia
 rcases this with rfl|rfl|rfl|rfl|rfl|rfl|rfl|rfl|rfl|rfl<;>decide +kernel
theorem uP (P:P80 T G) (F:FK → List W → HH → Option (W×HH)) (h:HH):∀ l:List Nat,dj (dI (evs F G .nil) (BT.ev F G (.tx .inS (.cons (.var 0) (.cons (.glo "FIGURES") .nil)))) []) 1 (l.map λc=>.str ⟨#[c]⟩) h=aa (l.map λc=>.bl (Txt.contains "0123456789" ⟨#[c]⟩),h)
 | []=>rfl
 | c::l=>by
  have q:=uP P F h l;have el:BT.ev F G (.tx .inS (.cons (.var 0) (.cons (.glo "FIGURES") .nil))) [aa (.p (.str ⟨#[c]⟩))] h=aa (.p (.bl (Txt.contains "0123456789" ⟨#[c]⟩)),h):=by simp[P.FIGURES];rfl
  have st:dj (dI (evs F G .nil) (BT.ev F G (.tx .inS (.cons (.var 0) (.cons (.glo "FIGURES") .nil)))) []) 1 ((c::l).map λc=>.str ⟨#[c]⟩) h=bnd (bnd (BT.ev F G (.tx .inS (.cons (.var 0) (.cons (.glo "FIGURES") .nil))) [aa (.p (.str ⟨#[c]⟩))] h) gJ) (kG (dj (dI (evs F G .nil) (BT.ev F G (.tx .inS (.cons (.var 0) (.cons (.glo "FIGURES") .nil)))) []) 1 (l.map λc=>.str ⟨#[c]⟩))):=rfl;rw[st,el,cZ];show bnd (aa (aa (D.bl _),h)) _=_;rw[cZ,gc,q];rfl
theorem qK:∀ bs:List Bool,boolsOf (bs.map .bl)=aa bs
 | []=>rfl
 | b::bs=>by show (boolsOf (bs.map .bl)).map (b :: ·)=_;rw[qK bs];rfl
theorem wz (bs:List Bool) (h:HH):kTx .all [.p (.lst (bs.map .bl))] h=aa (.p (.bl (bs.all id)),h):=by show (((boolsOf (bs.map .bl)).map λbs=>D.bl (bs.all id)).map λd=>(W.p d,h))=_;rw[qK];rfl
theorem m7 (P:P80 T G) (k:Nat) (x:az) (hx:1 ≤ x.length) (hx2:x.length ≤ 5) (h:HH):runN T G (k+1) "is_figures" [.p (.str x)] h=aa (.p (.bl (x.cps.toList.all λc=>Txt.contains "0123456789" ⟨#[c]⟩)),h):=by
 rw[run_eq P.is_figures rfl];have c:=uP (G:=G) P (runN T G k) h x.cps.toList;have c2:BT.ev (runN T G k) G (.comp ai .chs (.cons (.var 0) .nil) ["sign"] [] .nil (.tx .inS (.cons (.var 0) (.cons (.glo "FIGURES") .nil)))) [aa (.p (.str x))] h=aa (.p (.lst (x.cps.toList.map λc=>.bl (Txt.contains "0123456789" ⟨#[c]⟩))),h) :=
  cgo (ws:=[.p (.str x)]) (h1:=h) (fs:=[]) (by simp) rfl rfl rfl c (by
   have:x.cps.size ≤ 5:=hx2;simp;lia)
 have a:=wz (x.cps.toList.map λc=>Txt.contains "0123456789" ⟨#[c]⟩) h;rw[V6] at a;have ea:((x.cps.toList.map λc=>Txt.contains "0123456789" ⟨#[c]⟩).all id)=x.cps.toList.all λc=>Txt.contains "0123456789" ⟨#[c]⟩:=by rw[WD];rfl
 rw[ea] at a;have a:kTx .all [.p (.lst (x.cps.toList.map λc=>.bl (Txt.contains "0123456789" ⟨#[c]⟩)))] h=aa (.p (.bl (x.cps.toList.all λc=>Txt.contains "0123456789" ⟨#[c]⟩)),h):=a;have z1:(0:Int) < (x.length:Int):=by lia
 have z2:(x.length:Int) ≤ 5:=by lia
 have z3:x.length ≤ 100000:=by lia
 rw[fM];generalize (E.comp ai .chs (.cons (.var 0) .nil) ["sign"] [] .nil (.tx .inS (.cons (.var 0) (.cons (.glo "FIGURES") .nil))))=EE at *;generalize (x.cps.toList.map λc=>D.bl (Txt.contains "0123456789" ⟨#[c]⟩))=L at *;generalize (x.cps.toList.all λc=>Txt.contains "0123456789" ⟨#[c]⟩)=B at *;have z4:0 < x.length:=by lia
 simp[P.MOST_FIGURES,z1,z2,z3,z4,hx2,c2,a,cT]
theorem jP (hn:Wth n):((fC n).cps.toList.all λc=>Txt.contains "0123456789" ⟨#[c]⟩)=ah:=by obtain ⟨h0,h1⟩:=hn;obtain ⟨m,rfl⟩:=Wr h0;rw[TU];intro c hc;have hc:c∈(SE (toString ((m:Nat):Int))).cps.toList:=hc;rw[Wa] at hc;obtain ⟨ch,hch,rfl⟩:=List.mem_map.mp hc;have d:=X5 (by decide) (by decide) hch;unfold Char.isDigit at d;simp only[SM,decide_eq_true_eq] at d;exact Kr _ (by have:=d.1;exact this) (by have:=d.2;exact this)
theorem qL (P:P80 T G) (k:Nat) (hn:Wth n) (h:HH):runN T G (k+2) "number_or_word" [.p (.str (fC n))] h=aa (.p (.int n),h):=by
 rw[run_eq P.number_or_word rfl];have l:=l7 hn;have f:=m7 P k (fC n) l.1 l.2 h;rw[jP hn] at f;have t:kTx .intS [.p (.str (fC n))] h=aa (.p (.int n),h):=by show ((if (fC n).length ≤ 640 then (Uv (fC n)).map D.int else af).map λd=>(W.p d,h))=_;rw[if_pos (by lia),show Uv (fC n)=aa n from Wb hn.1 (by have:=hn.2;lia)];rfl
 simp[dX,f,t,cT]
theorem Gs (i:Nm):((SE i.w).cps.toList.all λc=>Txt.contains "0123456789" ⟨#[c]⟩)=ai:=by cases i<;>decide +kernel
theorem uQ (P:P80 T G) (k:Nat) (i:Nm) (h:HH):runN T G (k+2) "number_or_word" [.p (.str i.w)] h=aa (.p (.str i.w),h):=by rw[run_eq P.number_or_word rfl];have l:=sM i;have f:=m7 P k (SE i.w) (by rw[l];decide) (by rw[l];decide) h;rw[Gs i] at f;simp[dX,f,cT]
theorem As (P:P80 T G) (k:Nat) (n:Int) (h:HH):runN T G (k+1) "is_whole" [.p (.int n)] h=aa (.p (.bl ah),h):=by rw[run_eq P.is_whole rfl];simp[fH,cT]
theorem Au (P:P80 T G) (k:Nat) (x:az) (h:HH):runN T G (k+1) "is_whole" [.p (.str x)] h=aa (.p (.bl ai),h):=by rw[run_eq P.is_whole rfl];simp[fH,cT]
theorem wA (P:P80 T G) (k:Nat) (hn:Wth n) (h:HH):runN T G (k+3) "leaf_of" [.p (.str (fC n))] h=aa (.p (Sm.num n).enc,h):=by rw[run_eq P.leaf_of rfl];have a:=qL P k hn h;have b:=As P (k+1) n h;simp[gC,a,b,cT,Sm.enc]
theorem Av (P:P80 T G) (k:Nat) (i:Nm) (h:HH):runN T G (k+3) "leaf_of" [.p (.str i.w)] h=aa (.p (Sm.nam i).enc,h):=by rw[run_eq P.leaf_of rfl];have a:=uQ P k i h;have b:=Au P (k+1) i.w h;simp[gC,a,b,cT,Sm.enc]
end
theorem dg (kvs:List (az×D)) (x:az) (d:D) (h:HH):kTx .dget [.k (.t kvs),.p (.str x),.p d] h=aa (.p ((dU x kvs).getD d),h):=rfl
theorem dg1 (kvs:List (az×D)) (x:az) (h:HH):kTx .dget [.k (.t kvs),.p (.str x)] h=aa (.p ((dU x kvs).getD .non),h):=rfl
theorem Dh (hn:Wth n):dU (fC n) eN=af:=by
 have f:=jP hn;generalize fC n=x at *;have ne:∀ y:az,(y.cps.toList.all λc=>Txt.contains "0123456789" ⟨#[c]⟩)=ai → x≠y:=by intro y hy e;rw[e,hy] at f;exact absurd f (by decide)
 have a1:=ne "num" (by decide +kernel);have a2:=ne "name" (by decide +kernel);have a3:=ne "cell" (by decide +kernel);have a4:=ne "add" (by decide +kernel);have a5:=ne "sub" (by decide +kernel);have a6:=ne "mul" (by decide +kernel);have a7:=ne "less" (by decide +kernel);simp[eN,a1,a2,a3,a4,a5,a6,a7]
theorem HK (i:Nm):dU (SE i.w) eN=af:=by cases i<;>rfl
noncomputable def soC:E:=(.comp ai .rng1 (Z9 (.var 3)) ["number"] [(1,"parts")] .nil (.me .pop (.var 1) .nil))
section
variable {T:FK → Option Fn}{G:az → Option W}
theorem HL (F:FK → List W → HH → Option (W×HH)) (w0 x2 x4:Option W) (n:Nat) (h:HH):BT.ev F G soC [w0,aa (.r n),x2,aa (.p (.int 0)),x4] h=aa (.p (.lst []),h) :=
 cgo (ws:=[.p (.int 0)]) (h1:=h) (fs:=[aa (.r n)]) (ds:=[]) (by simp) rfl rfl rfl rfl (by simp)
theorem wB (F:FK → List W → HH → Option (W×HH)) (i:D) (h:HH) (st:List D) (a:D):dI (evs F G .nil) (BT.ev F G (.me .pop (.var 1) .nil)) [aa (.r h.length)] [i] (h++[.l (st++[a])])=aa (aa a,h++[.l st]):=by simp
theorem NP (F:FK → List W → HH → Option (W×HH)) (w0 x2 x4:Option W) (h:HH) (st:List D) (a:D):BT.ev F G soC [w0,aa (.r h.length),x2,aa (.p (.int 1)),x4] (h++[.l (st++[a])])=aa (.p (.lst [a]),h++[.l st]):=by refine cgo (ws:=[.p (.int 1)]) (h1:=h++[.l (st++[a])]) (fs:=[aa (.r h.length)]) (ds:=[.int 0]) (by simp) rfl rfl rfl ?_ (by simp);have p1:=wB (G:=G) F (.int 0) h st a;generalize dI (evs F G .nil) (BT.ev F G (.me .pop (.var 1) .nil)) [aa (.r h.length)]=K at *;show bnd (K [.int 0] (h++[.l (st++[a])])) (kG (λh=>aa ([],h)))=_;rw[p1];rfl
theorem NQ (F:FK → List W → HH → Option (W×HH)) (w0 x2 x4:Option W) (h:HH) (st:List D) (a b:D):BT.ev F G soC [w0,aa (.r h.length),x2,aa (.p (.int 2)),x4] (h++[.l (st++[b,a])])=aa (.p (.lst [a,b]),h++[.l st]):=by refine cgo (ws:=[.p (.int 2)]) (h1:=h++[.l (st++[b,a])]) (fs:=[aa (.r h.length)]) (ds:=[.int 0,.int 1]) (by simp) rfl rfl rfl ?_ (by simp);have p1:=wB (G:=G) F (.int 0) h (st++[b]) a;have p2:=wB (G:=G) F (.int 1) h st b;rw[TH] at p1;generalize dI (evs F G .nil) (BT.ev F G (.me .pop (.var 1) .nil)) [aa (.r h.length)]=K at *;show bnd (K [.int 0] (h++[.l (st++([b]++[a]))])) (kG (λh=>bnd (K [.int 1] h) (kG (λh=>aa ([],h)))))=_;rw[p1,cZ,gc,p2];rfl
theorem pL:soB=(.seq (.set 3 (.tx .dget (.cons (.glo "INNER_COUNTS") (.cons (.var 2) (.cons (.cst (.int 0)) .nil)))))
 (.seq (.ife (.cmp .gt (.var 3) (.bi .len ai (.cons (.var 1) .nil))) .bad .nil)
 (.seq (.set 4 soC)
 (.ex (.me .append (.var 1) (.cons (.ite (.cmp .gt (.var 3) (.cst (.int 0))) (.bin .add (.tup (.cons (.var 2) .nil)) (.bi .tuple ai (.cons (.var 4) .nil))) (.call "leaf_of" (.cons (.var 2) .nil))) .nil)))))):=rfl
theorem yF (P:P80 T G) (k:Nat) (w0 x3 x4:Option W) (h:HH) (st:List D) (t:az) (d:D) (hk:dU t eN=af) (hl:∀ h,runN T G (k+3) "leaf_of" [.p (.str t)] h=aa (.p d,h)) (hs:st.length < 90000) :
 evS (runN T G (k+3)) G soB [w0,aa (.r h.length),aa (.p (.str t)),x3,x4] (h++[.l st])=aa (.nx [w0,aa (.r h.length),aa (.p (.str t)),aa (.p (.int 0)),aa (.p (.lst []))] (h++[.l (st++[d])])):=by
 have c:=HL (G:=G) (runN T G (k+3)) w0 (aa (.p (.str t))) x4 h.length (h++[.l st]);have g:=dg eN t (.int 0) (h++[.l st]);rw[hk] at g;have e1:st.length < 100000:=by lia
 have e2:st.length ≤ 100000:=by lia
 have e3:¬ ((st.length:Int) < 0):=by lia
 rw[pL];generalize soC=EE at *;simp[P.INNER_COUNTS,g,c,hl,e1,e2,e3,rd]
theorem Di (P:P80 T G) (k:Nat) (w0 x3 x4:Option W) (h:HH) (st:List D) (t:az) (a:D) (hk:dU t eN=aa (.int 1)) (hs:st.length < 90000) :
 evS (runN T G (k+3)) G soB [w0,aa (.r h.length),aa (.p (.str t)),x3,x4] (h++[.l (st++[a])])=aa (.nx [w0,aa (.r h.length),aa (.p (.str t)),aa (.p (.int 1)),aa (.p (.lst [a]))] (h++[.l (st++[.tup [.str t,a]])])):=by
 have c:=NP (G:=G) (runN T G (k+3)) w0 (aa (.p (.str t))) x4 h st a;have g:=dg eN t (.int 0) (h++[.l (st++[a])]);rw[hk] at g;have e1:st.length < 100000:=by lia
 have e2:st.length+1 ≤ 100000:=by lia
 have e3:¬ ((st.length:Int)+1 < 1):=by lia
 rw[pL];generalize soC=EE at *;simp[P.INNER_COUNTS,g,c,e1,e2,e3,rd]
theorem Dj (P:P80 T G) (k:Nat) (w0 x3 x4:Option W) (h:HH) (st:List D) (t:az) (a b:D) (hk:dU t eN=aa (.int 2)) (hs:st.length < 90000) :
 evS (runN T G (k+3)) G soB [w0,aa (.r h.length),aa (.p (.str t)),x3,x4] (h++[.l (st++[b,a])])=aa (.nx [w0,aa (.r h.length),aa (.p (.str t)),aa (.p (.int 2)),aa (.p (.lst [a,b]))] (h++[.l (st++[.tup [.str t,a,b]])])):=by
 have c:=NQ (G:=G) (runN T G (k+3)) w0 (aa (.p (.str t))) x4 h st a b;have g:=dg eN t (.int 0) (h++[.l (st++[b,a])]);rw[hk] at g;have e1:st.length < 100000:=by lia
 have e2:st.length+2 ≤ 100000:=by lia
 have e3:¬ ((st.length:Int)+2 < 2):=by lia
 rw[pL];generalize soC=EE at *;simp[P.INNER_COUNTS,g,c,e1,e2,e3,rd]
theorem fg1 (b:Sl → HH → Option Fl) (d:D) (r:List D) (w0 w1 x2 x3 x4:Option W) (h:HH):dJ b [(2,"word")] (d::r) [w0,w1,x2,x3,x4] h=fP (b [w0,w1,aa (.p d),x3,x4] h) (dJ b [(2,"word")] r):=rfl
theorem nW (P:P80 T G) (k:Nat) (w0:Option W) (h:HH):∀ (s:Sm),s.ok → ∀ (rest st:List D) (x2 x3 x4:Option W),st.length+s.size ≤ 900 →
 ∃ y2 y3 y4,dJ (evS (runN T G (k+3)) G soB) [(2,"word")] (s.wds.reverse.map .str++rest) [w0,aa (.r h.length),x2,x3,x4] (h++[.l st])=dJ (evS (runN T G (k+3)) G soB) [(2,"word")] rest [w0,aa (.r h.length),y2,y3,y4] (h++[.l (st++[s.enc])])
 | .num n,hs,rest,st,x2,x3,x4,hl=>by
  have e:=yF P k w0 x3 x4 h st (fC n) (Sm.num n).enc (Dh hs) (λh=>wA P k hs h) (by lia);refine ⟨aa (.p (.str (fC n))),aa (.p (.int 0)),aa (.p (.lst [])),?_⟩
  ·show dJ _ _ (.str (fC n)::rest) _ _=_;rw[fg1,e,dO]
 | .nam i,hs,rest,st,x2,x3,x4,hl=>by
  have e:=yF P k w0 x3 x4 h st (SE i.w) (Sm.nam i).enc (HK i) (λh=>Av P k i h) (by lia);refine ⟨aa (.p (.str (SE i.w))),aa (.p (.int 0)),aa (.p (.lst [])),?_⟩
  ·show dJ _ _ (.str (SE i.w)::rest) _ _=_;rw[fg1,e,dO]
 | .cell s,hs,rest,st,x2,x3,x4,hl=>by have hl2:st.length+(s.size+1) ≤ 900:=hl;obtain ⟨y2,y3,y4,q⟩:=nW P k w0 h s hs (.str "cell" :: rest) st x2 x3 x4 (by lia);have e:=Di P k w0 y3 y4 h st "cell" s.enc rfl (by lia);refine ⟨aa (.p (.str "cell")),aa (.p (.int 1)),aa (.p (.lst [s.enc])),?_⟩;rw[show (Sm.cell s).wds.reverse.map D.str++rest=s.wds.reverse.map D.str++.str "cell" :: rest by simp[Sm.wds],q,fg1,e,dO];rfl
 | .two o a b,hs,rest,st,x2,x3,x4,hl=>by have hl2:st.length+(a.size+b.size+1) ≤ 900:=hl;obtain ⟨y2,y3,y4,q⟩:=nW P k w0 h b hs.2 (a.wds.reverse.map D.str++.str (SE o.w)::rest) st x2 x3 x4 (by lia);obtain ⟨z2,z3,z4,q2⟩:=nW P k w0 h a hs.1 (.str (SE o.w)::rest) (st++[b.enc]) y2 y3 y4 (by have:=b.size_pos;simp;lia);have e:=Dj P k w0 z3 z4 h st (SE o.w) a.enc b.enc (HG o) (by lia);refine ⟨aa (.p (.str (SE o.w))),aa (.p (.int 2)),aa (.p (.lst [a.enc,b.enc])),?_⟩;rw[show (Sm.two o a b).wds.reverse.map D.str++rest=b.wds.reverse.map D.str++(a.wds.reverse.map D.str++.str (SE o.w)::rest) by simp[Sm.wds],q,q2,fg1,TH,List.cons_append,UT,e,dO];rfl
theorem nv (P:P80 T G) (k:Nat) {s:Sm} (hs:s.ok) (hz:s.size ≤ 100) (h:HH):runN T G (k+4) "sum_of" [.p (.lst (s.wds.map .str))] h=aa (.p s.enc,h):=by rw[run_eq P.sum_of rfl];obtain ⟨y2,y3,y4,q⟩:=nW P k (aa (.p (.lst (s.wds.map .str)))) h s hs [] [] af af af (by simp;lia);rw[Ug,List.map_reverse,UT] at q;have f:=lY h [.l [s.enc]] s.enc;have sr:gu .rev [.lst (s.wds.map .str)]=aa (s.wds.map .str).reverse:=rfl;have q:dJ (evS (runN T G (k+3)) G soB) [(2,"word")] (s.wds.map D.str).reverse [aa (.p (.lst (s.wds.map .str))),aa (.r h.length),af,af,af] (h++[.l []])=aa (.nx [aa (.p (.lst (s.wds.map .str))),aa (.r h.length),y2,y3,y4] (h++[.l [s.enc]])):=q;generalize s.wds.map D.str=L at *;generalize s.enc=EN at *;have i0:∀ d:D,fE (.lst [d]) (.int (-1))=aa d:=λ_=>rfl;simp[-dJ,-dG,i6,iG,q,f,rd,i0]
end
theorem sP (a:List D) (x:D) (b:List D) (hi:i=(a.length:Int)):fE (.lst (a++x::b)) (.int i)=aa x:=by subst hi;show atP _ ((a.length:Nat):Int)=_;rw[jm];simp
theorem yG (a b c:List D) (hi:i=(a.length:Int)) (hj:j=((a.length+b.length:Nat):Int)):nF (.lst (a++b++c)) (aa i) (aa j)=aa (.lst b):=by
 have e1:clip (a++b++c).length 0 (aa i)=a.length:=by show (if i < 0 then (i+((a++b++c).length:Int)).toNat else if i ≤ ((a++b++c).length:Int) then i.toNat else (a++b++c).length)=a.length;rw[if_neg (by lia),if_pos (by simp only[SN];lia),hi];rfl
 have e2:clip (a++b++c).length (a++b++c).length (aa j)=a.length+b.length:=by show (if j < 0 then (j+((a++b++c).length:Int)).toNat else if j ≤ ((a++b++c).length:Int) then j.toNat else (a++b++c).length)=a.length+b.length;rw[if_neg (by lia),if_pos (by simp only[SN];lia),hj];rfl
 show aa (D.lst (cut (a++b++c) (aa i) (aa j)))=_;unfold cut;rw[e1,e2];simp
theorem Gu {s:Sm} (hs:s.ok):(dU s.hd eN).getD (.int 0)=.int (s.inn.length:Int):=by
 cases s with
 | num n=>rw[show (Sm.num n).hd=fC n from rfl,Dh hs];rfl| nam i=>rw[show (Sm.nam i).hd=SE i.w from rfl,HK i];rfl| cell s=>rfl| two o a b=>rw[show (Sm.two o a b).hd=SE o.w from rfl,HG o];rfl
noncomputable def seC:E:=(.and (.cmp .gt (.var 2) (.cst (.int 0))) (.cmp .lt (.var 1) (.bi .len ai (Z9 (.var 0)))))
section
variable {T:FK → Option Fn}{G:az → Option W}
theorem Gv (P:P80 T G) (F:FK → List W → HH → Option (W×HH)) (h:HH) (post:List az) (W':List D):∀ (m:Nat) (stk:List Sm) (pre:List az) (i j:Int),szs stk ≤ m → i=(pre.length:Int) → j=(stk.length:Int) → W'.length ≤ 900 → (∀ s∈stk,s.ok) → W'=(pre++stk.flatMap Sm.wds++post).map .str →
 fh (BT.ev F G seC) (evS F G seB) (m+1) [aa (.p (.lst W')),aa (.p (.int i)),aa (.p (.int j))] h=aa (.nx [aa (.p (.lst W')),aa (.p (.int (i+szs stk))),aa (.p (.int 0))] h):=by
 intro m
 induction m with
 | zero =>
  intro stk pre i j hs hi hj hl hok hW;have:stk=[]:=by have:=sL stk;exact VL (by lia)
  subst this;have hj:j=0:=hj;subst hj;simp[fh,seC,szs]
 | succ m ih =>
  intro stk pre i j hs hi hj hl hok hW;cases stk with
  | nil =>
   have hj:j=0:=hj;subst hj;simp[fh,seC,szs]
  | cons s l =>
   have e:=uO s l;have ok1:=hok s SG;have hW2:W'=(pre++[s.hd]++(s.inn++l).flatMap Sm.wds++post).map .str:=by rw[hW,Xb,wm s,YZ];simp
   have hW3:W'=pre.map .str++.str s.hd::(((s.inn++l).flatMap Sm.wds++post).map .str):=by rw[hW2];simp
   have q:=ih (s.inn++l) (pre++[s.hd]) (i+1) (j+((s.inn.length:Int) - 1)) (by lia) (by simp;lia) (by simp only[SN,hj,SX];lia) hl (λt ht=>by
    rcases List.mem_append.mp ht with z|z
    exact Dc ok1 t z
    ·exact hok t (SI _ z)) hW2
   have l1:(W'.length:Int)=(pre.length:Int)+1+((((s.inn++l).flatMap Sm.wds++post).length:Nat):Int):=by rw[hW3,SN,SX,SJ,SJ];lia
   have i1:i < (W'.length:Int):=by lia
   have j1:(0:Int) < j:=by rw[hj,SX];lia
   have x0:fE (.lst W') (.int i)=aa (.str s.hd):=by rw[hW3];exact sP _ _ _ (by simpa using hi)
   have g:=dg eN s.hd (.int 0) h;rw[Gu ok1] at g;have hl2:W'.length ≤ 100000:=by lia
   have hc:BT.ev F G seC [aa (.p (.lst W')),aa (.p (.int i)),aa (.p (.int j))] h=aa (.p (.bl ah),h):=by simp[seC,i1,j1,hl2]
   have hb:evS F G seB [aa (.p (.lst W')),aa (.p (.int i)),aa (.p (.int j))] h =
    aa (.nx [aa (.p (.lst W')),aa (.p (.int (i+1))),aa (.p (.int (j+((s.inn.length:Int) - 1))))] h):=by
    simp[-dG,seB,x0,P.INNER_COUNTS,g]
   rw[fh,hc,kR,kT,hb,dO,q,e];rw[show i+1+(szs (s.inn++l):Int)=i+((szs (s.inn++l)+1:Nat):Int) by lia]
theorem sR (P:P80 T G) (k:Nat) {s:Sm} (hs:s.ok) (hz:s.size ≤ 100) (pre post:List az) (hl:(pre++s.wds++post).length ≤ 900) {i:Int} (hi:i=(pre.length:Int)) (h:HH) :
 runN T G (k+1) "sum_end" [.p (.lst ((pre++s.wds++post).map .str)),.p (.int i)] h=aa (.p (.int (i+s.size)),h):=by
 rw[run_eq P.sum_end rfl];have q:=Gv P (runN T G k) h post ((pre++s.wds++post).map .str) 99999 [s] pre i 1 (by simp[szs];lia) hi rfl (by rw[SJ];exact hl) (λt ht=>by
  have:t=s:=by simpa using ht
  subst this;exact hs) (by simp)
 have e:szs [s]=s.size:=by simp[szs]
 rw[e] at q;generalize (pre++s.wds++post).map D.str=L at *;have eq:i7=⟨["words","start"],["words","start","missing"],.seq (.set 2 (.cst (.int 1))) (.seq (.whl seC seB) (.ret (.var 1)))⟩:=rfl;rw[eq];simp[turns,q,cT]
noncomputable def isC:E:=(.cmp .gt (.bi .len ai (Z9 (.var 1))) (.cst (.int 0)))
noncomputable def frE:E:=(.call "fits" (Z7 (.var 0) (.var 1) (.var 2)))
noncomputable def ipE:E:=(.call "is_row" (Z8 (.var 0) (.bi .len ai (Z9 (.var 1)))))
end
theorem yH (hn:Wth n):Fre 32 (fC n) ∧ Fre 10 (fC n):=by have f:=jP hn;rw[TU] at f;constructor;intro h;have:=f 32 h;exact absurd this (by decide +kernel);intro h;have:=f 10 h;exact absurd this (by decide +kernel)
theorem Dl (i:Nm):Fre 32 (SE i.w) ∧ Fre 10 (SE i.w):=by unfold Fre;cases i<;>decide +kernel
theorem Ks (o:Op):Fre 32 (SE o.w) ∧ Fre 10 (SE o.w):=by unfold Fre;cases o<;>decide +kernel
theorem Dm:Fre 32 ("cell":az) ∧ Fre 10 ("cell":az):=by unfold Fre;decide +kernel
theorem Ku (r:Rw):Fre 32 r.wd ∧ Fre 10 r.wd:=by
 unfold Fre;have:∀ w∈(["set","put","ask","say","jump","unless","call","back","stop"]:List String),32∉(SE w).cps.toList ∧ 10∉(SE w).cps.toList:=by decide +kernel
 exact this _ (sN r)
theorem mq:∀ {s:Sm},s.ok → ∀ t∈s.wds,Fre 32 t ∧ Fre 10 t
 | .num n,h,t,ht=>by
  have:t=fC n:=by simpa [Sm.wds] using ht
  subst this;exact yH h
 | .nam i,h,t,ht=>by
  have:t=SE i.w:=by simpa [Sm.wds] using ht
  subst this;exact Dl i
 | .cell s,h,t,ht=>by
  rcases List.mem_cons.mp ht with rfl|ht
  exact Dm;exact mq (s:=s) h t ht
 | .two o a b,h,t,ht=>by
  rcases List.mem_cons.mp ht with rfl|ht
  exact Ks o
  ·rcases List.mem_append.mp ht with ht|ht
   exact mq (s:=a) h.1 t ht;exact mq (s:=b) h.2 t ht
theorem Gw (hn:n ≤ 100) (h:gQ n p):∀ t∈p.ws,Fre 32 t ∧ Fre 10 t:=by
 cases h with
 | sm s h=>exact mq h.1| nm x=>intro t ht;rw[show t=SE x.w by simpa [Prt.nm] using ht];exact Dl x| pl q h=>intro t ht;rw[show t=fC q by simpa [Prt.pl] using ht];exact yH (mZ hn h)
theorem yI {n:Nat} (hn:n ≤ 100) {r:Rw} (hr:r.ok n):∀ t∈r.wds,Fre 32 t ∧ Fre 10 t:=by
 intro t ht;rcases List.mem_cons.mp ht with rfl|ht
 exact Ku r
 ·obtain ⟨l,hl,h2⟩:=List.mem_flatten.mp ht;obtain ⟨p,hp,rfl⟩:=List.mem_map.mp hl;exact Gw hn (iB hr p hp) t h2
theorem uR (hy:Fre c y):∀ ts:List az,(∀ t∈ts,Fre c t) → Fre c (SV y ts)
 | [],_=>by intro h;cases h
 | [x],h=>h x SG
 | x::x'::r,h=>by
  have ih:=uR hy (x'::r) λt ht=>h t (SI _ ht);have h1:=h x SG;intro m;have m:c∈(x.cps++y.cps++(SV y (x'::r)).cps).toList:=m;simp only[YN,List.mem_append] at m;rcases m with (m|m)|m
  exact h1 m;exact hy m;exact ih m
theorem Gx {n:Nat} (hn:n ≤ 100) {r:Rw} (hr:r.ok n):Fre 10 r.txt :=
 uR (by unfold Fre;decide +kernel) _ λt ht=>(yI hn hr t ht).2
theorem m8 {s:Sm} (hs:s.ok):Txt.split s.txt " "=s.wds:=by have:=kZ (c:=32) (C9 s) λt ht=>(mq hs t ht).1;rw[← gj] at this;exact this
theorem ku {n:Nat} (hn:n ≤ 100) {r:Rw} (hr:r.ok n):Txt.split r.txt " "=r.wds:=by have:=kZ (c:=32) (ts:=r.wds) (by simp[Rw.wds]) λt ht=>(yI hn hr t ht).1;rw[← gj] at this;exact this
theorem wC (pg:Pg):pgT pg=SV ⟨#[10]⟩ (pg.map Rw.txt++[⟨#[]⟩]):=by have:=pG (pg.map Rw.txt);rw[← this,V6];unfold pgT;rw[HJ];rfl
theorem uS (hn:n ≤ 100) (hok:∀ r∈pg,r.ok n):Txt.split (pgT pg) "\n" = pg.map Rw.txt ++ [("":az)]:=by
 rw[wC,jO,HJ];refine kZ (by simp) λt ht=>?_;rcases List.mem_append.mp ht with ht|ht
 ·obtain ⟨r,hr,rfl⟩:=List.mem_map.mp ht;exact Gx hn (hok r hr)
 ·rw[show t=⟨#[]⟩ by simpa using ht];intro h;cases h
theorem fJ (hx:x.length ≤ 100000) (hy:y.length=1) (h:HH):kTx .split [.p (.str x),.p (.str y)] h=aa (.p (.lst ((Txt.split x y).map .str)),h):=by show ((if y.length=1 ∧ x.length ≤ 100000 then aa (D.lst ((Txt.split x y).map .str)) else af).map λd=>(W.p d,h))=_;rw[if_pos ⟨hy,hx⟩];rfl
theorem Gy (hn:n ≤ 100) (hl:pg.length ≤ 100) (hok:∀ r∈pg,r.ok n):(pgT pg).length ≤ 100000:=by
 have:=join_le "" 218 (pg.map lnT) λt ht=>by obtain ⟨r,hr,rfl⟩:=List.mem_map.mp ht;exact sO hn (hok r hr)
 have e:("":az).length=0:=rfl;rw[e,SJ] at this;exact SZ this (by lia)
section
variable {T:FK → Option Fn}{G:az → Option W}
theorem Gz (P:P80 T G) (hn:n ≤ 100) (ok:gQ n p) (k:Nat) (pre post:List az) (hl:(pre++p.ws++post).length ≤ 900) (hb:b=(pre.length:Int)) (w0 x5:Option W) (acc:List D) (ha:acc.length < 1000) (h:HH) :
 evS (runN T G (k+4)) G roB [w0,aa (.p (.lst ((pre++p.ws++post).map .str))),aa (.r h.length),aa (.p (.int b)),aa (.p (.str p.f)),x5] (h++[.l acc]) =
  aa (.nx [w0,aa (.p (.lst ((pre++p.ws++post).map .str))),aa (.r h.length),aa (.p (.int (b+p.ws.length))),aa (.p (.str p.f)),aa (.p (.int b))] (h++[.l (acc++[p.d])])):=by
 have ne:=De ok;have lp:0 < p.ws.length:=List.length_pos_iff.mpr ne;have l0:((pre++p.ws++post).map D.str).length=pre.length+p.ws.length+post.length:=by simp;lia
 have b1:¬ (b=(((pre++p.ws++post).map D.str).length:Int)):=by rw[l0];lia
 have l1:((pre++p.ws++post).map D.str).length ≤ 100000:=by rw[SJ];lia
 have l2:acc.length < 100000:=by lia
 cases ok with
 | sm s hs =>
  have hz:=hs.2;have a:=sR P (k+3) hs.1 (by lia) pre post hl hb (h++[.l acc]);have c:=nv P k hs.1 (by lia) (h++[.l acc]);have s0:nF (.lst ((pre++s.wds++post).map D.str)) (aa b) (aa (b+s.size))=aa (.lst (s.wds.map .str)):=by rw[TV,TV];refine yG _ _ _ (by rw[SJ];exact hb) ?_;rw[SJ,SJ,fN];lia
  have e5:(Prt.sm s).ws=s.wds:=rfl;rw[e5] at b1 l1 ⊢;rw[fN];generalize (pre++s.wds++post).map D.str=L at *;generalize s.wds.map D.str=L' at *;simp[-kP,roB,Prt.sm,l1,l2,b1,a,c,s0]
 | nm x =>
  have a:=uQ P (k+2) x (h++[.l acc]);have i0:fE (.lst ((pre++[SE x.w]++post).map D.str)) (.int b)=aa (.str x.w):=by rw[TH,TV];exact sP _ _ _ (by rw[SJ];exact hb)
  have e5:(Prt.nm x).ws=[SE x.w]:=rfl;rw[e5] at b1 l1 ⊢;generalize (pre++[SE x.w]++post).map D.str=L at *;simp[-dG,roB,Prt.nm,l1,l2,b1,a,i0]
 | pl q hq =>
  have a:=qL P (k+2) (mZ hn hq) (h++[.l acc]);have i0:fE (.lst ((pre++[fC q]++post).map D.str)) (.int b)=aa (.str (fC q)):=by rw[TH,TV];exact sP _ _ _ (by rw[SJ];exact hb)
  have e5:(Prt.pl q).ws=[fC q]:=rfl;rw[e5] at b1 l1 ⊢;generalize (pre++[fC q]++post).map D.str=L at *;simp[-dG,roB,Prt.pl,l1,l2,b1,a,i0]
theorem yJ (P:P80 T G) (hn:n ≤ 100) (k:Nat) (w0:Option W) (h:HH) (L:List D):∀ (ps:List Prt) (pre:List az) (acc:List D) (b:Int) (x4 x5:Option W),(∀ p∈ps,gQ n p) → L=(pre++(ps.map Prt.ws).flatten).map .str → L.length ≤ 900 → b=(pre.length:Int) → acc.length+ps.length ≤ 900 →
 ∃ y3 y4 y5,dJ (evS (runN T G (k+4)) G roB) [(4,"form")] (ps.map λp=>.str p.f) [w0,aa (.p (.lst L)),aa (.r h.length),aa (.p (.int b)),x4,x5] (h++[.l acc]) =
  aa (.nx [w0,aa (.p (.lst L)),aa (.r h.length),y3,y4,y5] (h++[.l (acc++ps.map Prt.d)]))
 | [],pre,acc,b,x4,x5,_,_,_,_,_=>⟨_,_,_,by simp;exact ⟨rfl,rfl,rfl⟩⟩
 | p::ps,pre,acc,b,x4,x5,hp,hL,hl,hb,ha=>by
  simp only[SX] at ha;have eL:L=(pre++p.ws++(ps.map Prt.ws).flatten).map .str:=by rw[hL];simp
  have a:=Gz P hn (hp p SG) k pre (ps.map Prt.ws).flatten (by rw[eL,SJ] at hl;exact hl) hb w0 x5 acc (by lia) h;rw[← eL] at a;obtain ⟨y3,y4,y5,q⟩:=yJ P hn k w0 h L ps (pre++p.ws) (acc++[p.d]) (b+p.ws.length) (aa (.p (.str p.f))) (aa (.p (.int b))) (λq hq=>hp q (SI _ hq)) eL hl (by rw[SN];lia) (by simp;lia);refine ⟨y3,y4,y5,?_⟩;have st:dJ (evS (runN T G (k+4)) G roB) [(4,"form")] ((p::ps).map λp=>.str p.f) [w0,aa (.p (.lst L)),aa (.r h.length),aa (.p (.int b)),x4,x5] (h++[.l acc])=fP (evS (runN T G (k+4)) G roB [w0,aa (.p (.lst L)),aa (.r h.length),aa (.p (.int b)),aa (.p (.str p.f)),x5] (h++[.l acc])) (dJ (evS (runN T G (k+4)) G roB) [(4,"form")] (ps.map λp=>.str p.f)):=rfl;rw[st,a,dO,q];simp
theorem uT (P:P80 T G) {n:Nat} (hn:n ≤ 100) {r:Rw} (hr:r.ok n) (k:Nat) (h:HH):runN T G (k+5) "row_of" [.p (.str r.txt)] h=aa (.p r.enc,h):=by
 rw[run_eq P.row_of rfl];have lw:=(mj hn hr).2;have lt:=pJ hn hr;have sp:=fJ (x:=r.txt) (by lia) (y:=" ") rfl h;rw[ku hn hr] at sp;have lp:=mh r;obtain ⟨y3,y4,y5,q⟩:=yJ P hn k (aa (.p (.str r.txt))) h (r.wds.map .str) r.prt [r.wd] [.str r.wd] 1 af af (iB hr) rfl (by rw[SJ];lia) rfl (by simp;lia);have i0:fE (.lst (r.wds.map .str)) (.int 0)=aa (.str r.wd):=by show atP _ ((0:Nat):Int)=_;rw[jm];rfl
 have g:=λh=>dg nL r.wd (.tup []) h;rw[yz r] at g;have f:=lY h [.l (.str r.wd::r.prt.map Prt.d)] (.tup (.str r.wd::r.prt.map Prt.d));rw[kr];have ll:(r.prt.map Prt.d).length ≤ 2:=by simpa using lp
 rw[show [D.str r.wd]++r.prt.map Prt.d=.str r.wd::r.prt.map Prt.d from rfl] at q;have sr:gu .seq [.tup (r.prt.map λp=>.str p.f)]=aa (r.prt.map λp=>.str p.f):=rfl;generalize r.wds.map D.str=L at *;generalize r.prt.map Prt.d=PD at *;generalize (r.prt.map λp=>D.str p.f)=PF at *;generalize r.txt=TX at *;have l1:PD.length+1 ≤ 100000:=by lia
 simp[-dJ,-dG,i8,sp,i0,P.ROW_FORMS,g,sr,iG,q,f,rd,l1]
theorem yK (F:FK → List W → HH → Option (W×HH)) (h:HH):∀ pg:Pg,(∀ r∈pg,F (.f "row_of") [.p (.str r.txt)] h=aa (.p r.enc,h)) →
 dj (dI (evs F G .nil) (BT.ev F G (.call "row_of" (.cons (.var 0) .nil))) []) 1 ((pg.map Rw.txt).map .str) h=aa (pg.map Rw.enc,h)
 | [],_=>rfl
 | r::pg,hp=>by have q:=yK F h pg λx hx=>hp x (SI _ hx);have f1:=hp r SG;have st:dj (dI (evs F G .nil) (BT.ev F G (.call "row_of" (.cons (.var 0) .nil))) []) 1 (((r::pg).map Rw.txt).map .str) h=bnd (bnd (F (.f "row_of") [.p (.str r.txt)] h) gJ) (kG (dj (dI (evs F G .nil) (BT.ev F G (.call "row_of" (.cons (.var 0) .nil))) []) 1 ((pg.map Rw.txt).map .str))):=rfl;rw[st,f1,cZ];show bnd (aa (aa r.enc,h)) _=_;rw[cZ,gc,q];rfl
theorem pM (l:List D) (x:D):nF (.lst (l++[x])) af (aa (-1))=aa (.lst l):=by
 have e1:clip (l++[x]).length 0 af=0:=rfl;have e2:clip (l++[x]).length (l++[x]).length (aa (-1))=l.length:=by show (if (-1:Int) < 0 then ((-1:Int)+((l++[x]).length:Int)).toNat else if (-1:Int) ≤ ((l++[x]).length:Int) then (-1:Int).toNat else (l++[x]).length)=l.length;rw[if_pos (by decide),SN,Uk];lia
 show aa (D.lst (cut (l++[x]) af (aa (-1))))=_;unfold cut;rw[e1,e2];simp
end
noncomputable def k9:D → Bool
 | .int i=>decide (0 ≤ i)&&decide (i < 10007)| _=>ai
noncomputable def ny (d:D):Bool:=An.any λy=>eqv y d
noncomputable def lg (n:Int):D → Bool
 | .int i=>decide (0 ≤ i)&&decide (i ≤ n)| _=>ai
noncomputable def qM (f:D → Bool):List D → Bool
 | [a]=>f a| _=>ai
noncomputable def ar (w:az):Nat:=if w="cell" then 1 else if w="add" ∨ w="sub" ∨ w="mul" ∨ w="less" then 2 else 0
noncomputable def fD (w:az) (r:List D):Bool:=if w="num" then qM k9 r else if w="name" then qM ny r else decide (0 < ar w)&&decide (r.length=ar w)
noncomputable def fB:D → Bool
 | .tup (.str w::r)=>fD w r| _=>ai
noncomputable def jr:D → List D
 | .tup (.str w::r)=>if 0 < ar w then r else []
 | _=>[]
noncomputable def lp:Nat → List D → Option Nat
 | n,[]=>aa n| 0,_::_=>af
 | n+1,s::l=>if fB s=ah then lp n (jr s++l) else af
theorem sU (n:Nat):lp n []=aa n:=by cases n<;>rfl
theorem lq:∀ (n:Nat) (x y:List D),lp n (x++y)=(lp n x).bind λm=>lp m y
 | n,[],y=>by rw[UT,sU];rfl
 | 0,s::l,y=>rfl
 | n+1,s::l,y=>by show (if fB s=ah then lp n (jr s++(l++y)) else af)=(if fB s=ah then lp n (jr s++l) else af).bind _;split;rw[← TH,lq n];rfl
theorem sV:∀ (N:Nat) (x:List D),∃ c,∀ n,n ≤ N → lp n x=if c ≤ n then aa (n - c) else af
 | N,[]=>⟨0,λn _=>by rw[sU,if_pos (UK _)];rfl⟩
 | 0,s::l=>⟨1,λn h=>by have:n=0:=Nat.le_zero.mp h;subst this;rfl⟩
 | N+1,s::l=>by
  by_cases f:fB s=ah
  ·obtain ⟨c,hc⟩:=sV N (jr s++l);refine ⟨c+1,λn h=>?_⟩;cases n with
   | zero=>rw[if_neg (by lia)];rfl
   | succ n =>
    show (if fB s=ah then lp n (jr s++l) else af)=_;rw[if_pos f,hc n (by lia)]
    by_cases q:c ≤ n
    rw[if_pos q,if_pos (by lia)];congr 1;lia;rw[if_neg q,if_neg (by lia)]
  ·refine ⟨N+2,λn h=>?_⟩;rw[if_neg (by lia)];cases n with
   | zero=>rfl
   | succ n=>show (if fB s=ah then _ else af)=_;rw[if_neg f]
theorem GA (n:Nat) (a b:D) (l:List D):lp n (b::a::l)=lp n (a::b::l):=by
 obtain ⟨ca,ha⟩:=sV n [a];obtain ⟨cb,hb⟩:=sV n [b];rw[show b::a::l=[b]++([a]++l) from rfl,show a::b::l=[a]++([b]++l) from rfl,lq,lq n [a],hb n (SY _),ha n (SY _)]
 by_cases q1:ca ≤ n
 ·by_cases q2:cb ≤ n
  ·rw[if_pos q1,if_pos q2];show lp (n - cb) ([a]++l)=lp (n - ca) ([b]++l);rw[lq,lq,ha _ (by lia),hb _ (by lia)]
   by_cases q3:ca+cb ≤ n
   rw[if_pos (by lia),if_pos (by lia),show n - cb - ca=n - ca - cb by lia];rw[if_neg (by lia),if_neg (by lia)]
  ·rw[if_pos q1,if_neg q2];show af=lp (n - ca) ([b]++l);rw[lq,hb _ (by lia),if_neg (by lia)];rfl
 ·rw[if_neg q1]
  by_cases q2:cb ≤ n
  ·rw[if_pos q2];show lp (n - cb) ([a]++l)=af;rw[lq,ha _ (by lia),if_neg (by lia)];rfl
  rw[if_neg q2];rfl
theorem yL (f:fB s=ah):(jr s).length ≤ 2:=by
 cases s with
 | tup xs =>
  cases xs with
  | nil=>exact dS f
  | cons x r =>
   cases x with
   | str w =>
    have f:fD w r=ah:=f;show (if 0 < ar w then r else []).length ≤ 2;split
    ·rename_i h;have h1:w≠"num":=λe=>by subst e;exact absurd h (by decide +kernel)
     have h2:w≠"name":=λe=>by subst e;exact absurd h (by decide +kernel)
     unfold fD at f;rw[if_neg h1,if_neg h2,SM,decide_eq_true_eq,decide_eq_true_eq] at f;rw[f.2];unfold ar;split
     ·decide
     split<;>decide
    simp
   | _=>exact dS f
 | _=>exact dS f
theorem Kv (f:fB s=ah) (n:Nat) (l:List D):lp n ((jr s).reverse++l)=lp n (jr s++l):=by
 have h:=yL f
 match e:jr s,h with
 | [],_=>rfl| [a],_=>rfl| [a,b],_=>exact GA n a b l
noncomputable def nM (d:D):Bool:=(lp 15 [d]).isSome
inductive WC (w:az):Prop where
 | num (h:w="num") | name (h:w="name") | cell (h:w="cell") | add (h:w="add") | sub (h:w="sub") | mul (h:w="mul") | less (h:w="less")
 | no (h1:¬ w="num") (h2:¬ w="name") (h3:¬ w="cell") (h4:¬ w="add") (h5:¬ w="sub") (h6:¬ w="mul") (h7:¬ w="less")
theorem wc (w:az):WC w:=by
 by_cases h1:w="num"
 exact .num h1
 ·by_cases h2:w="name"
  exact .name h2
  ·by_cases h3:w="cell"
   exact .cell h3
   ·by_cases h4:w="add"
    exact .add h4
    ·by_cases h5:w="sub"
     exact .sub h5
     ·by_cases h6:w="mul"
      exact .mul h6
      ·by_cases h7:w="less"
       exact .less h7;exact .no h1 h2 h3 h4 h5 h6 h7
structure P01 (T:FK → Option Fn) (G:az → Option W):Prop where
 is_whole:T "is_whole"=aa fH
 is_worth:T "is_worth"=aa gA
 is_name:T "is_name"=aa iz
 is_place:T "is_place"=aa gB
 first_word:T "first_word"=aa fy
 inner_sums:T "inner_sums"=aa dH
 has_sum_form:T "has_sum_form"=aa cV
 is_sum:T "is_sum"=aa jM
 fits:T "fits"=aa k6
 is_row:T "is_row"=aa jN
 is_program:T "is_program"=aa gi
 LETTERS:G "LETTERS"=aa (.p (.tup [.str "a",.str "b",.str "c",.str "d",.str "e",.str "f"]))
 WORTH_COUNT:G "WORTH_COUNT"=aa (.p (.int 10007))
 MOST_PARTS:G "MOST_PARTS"=aa (.p (.int 15))
 MOST_ROWS:G "MOST_ROWS"=aa (.p (.int 20))
 INNER_COUNTS:G "INNER_COUNTS"=aa (.k (.t eN))
 ROW_FORMS:G "ROW_FORMS"=aa (.k (.t nL))
noncomputable def whB:D → Bool
 | .int _=>ah| _=>ai
noncomputable def fwD:D → D
 | .tup (.str w::_)=>.str w| _=>.non
theorem Dn (d:D):gR .mem d (.tup An)=aa (ny d):=by
 rw[eZ,if_pos];rfl
 ·rw[TU];intro y hy;have:∃ x,y=.str x:=by rcases (show y=.str "a" ∨ y=.str "b" ∨ y=.str "c" ∨ y=.str "d" ∨ y=.str "e" ∨ y=.str "f" by simpa [An] using hy) with h | h | h | h | h | h<;>exact ⟨_,h⟩
  obtain ⟨x,rfl⟩:=this;exact zO _ _
section
variable {T:FK → Option Fn}{G:az → Option W}
theorem nX (P:P01 T G) (k:Nat) (d:D) (h:HH):runN T G (k+1) "is_whole" [.p d] h=aa (.p (.bl (whB d)),h):=by rw[run_eq P.is_whole rfl];cases d<;>simp[fH,whB,cT]
theorem GB (P:P01 T G) (k:Nat) (d:D) (h:HH):runN T G (k+2) "is_worth" [.p d] h=aa (.p (.bl (k9 d)),h):=by
 rw[run_eq P.is_worth rfl];have a:=nX P k d h;cases d with
 | int i =>
  by_cases c:0 ≤ i<;>simp[gA,a,whB,k9,P.WORTH_COUNT,c,cT]
 | _=>simp[gA,a,whB,k9,cT]
theorem Do (P:P01 T G) (k:Nat) (d:D) (h:HH):runN T G (k+1) "is_name" [.p d] h=aa (.p (.bl (ny d)),h):=by rw[run_eq P.is_name rfl];have g:G "LETTERS"=aa (.p (.tup An)):=P.LETTERS;have m:=Dn d;generalize An=L at *;simp[-eZ,iz,g,m,cT]
theorem GC (P:P01 T G) (k:Nat) (d:D) (n:Int) (h:HH):runN T G (k+2) "is_place" [.p d,.p (.int n)] h=aa (.p (.bl (lg n d)),h):=by
 rw[run_eq P.is_place rfl];have a:=nX P k d h;cases d with
 | int i =>
  by_cases c:0 ≤ i<;>simp[gB,a,whB,lg,c,cT]
 | _=>simp[gB,a,whB,lg,cT]
theorem yM (P:P01 T G) (k:Nat) (d:D) (h:HH):runN T G (k+1) "first_word" [.p d] h=aa (.p (fwD d),h):=by
 rw[run_eq P.first_word rfl];cases d with
 | tup xs =>
  cases xs with
  | nil=>simp[fy,fwD,cT]
  | cons x r =>
   have i0:fE (.tup (x::r)) (.int 0)=aa x:=by show atP _ ((0:Nat):Int)=_;rw[jm];rfl
   have l2:(0:Int) < (r.length:Int)+1:=by lia
   cases x<;>simp[-gw,fy,i0,l2,fwD,cT]
 | _=>simp[fy,fwD,cT]
end
theorem Dp (x:D) (r:List D):biD .len [.tup (x::r)]=aa (.int ((r.length:Int)+1)):=by rw[dY,SX];rfl
theorem Q6 (x:D) (r:List D):fE (.tup (x::r)) (.int 0)=aa x:=by show atP _ ((0:Nat):Int)=_;rw[jm];rfl
theorem NR (r:List D) (h:r.length=1):∃ a,r=[a]:=by
 match r,h with
 | [a],_=>exact ⟨a,rfl⟩
theorem HM (f:D → Bool) (r:List D) (h:¬ r.length=1):qM f r=ai:=by
 match r,h with
 | [],_=>rfl| [a],h=>exact absurd rfl h| _::_::_,_=>rfl
section
variable {T:FK → Option Fn}{G:az → Option W}
theorem GD (h:fwD d=.non):fB d=ai:=by
 cases d with
 | tup xs =>
  cases xs with
  | nil=>rfl
  | cons x r =>
   cases x with
   | str w=>exact nomatch h
   | _=>rfl
 | _=>rfl
theorem uU (d:D):fwD d=.non ∨ ∃ w r,d=.tup (.str w::r):=by
 cases d with
 | tup xs =>
  cases xs with
  | nil=>exact .inl rfl
  | cons x r =>
   cases x with
   | str w=>exact .inr ⟨w,r,rfl⟩| _=>exact .inl rfl
 | _=>exact .inl rfl
theorem Kw (P:P01 T G) (k:Nat) (d:D) (h:HH):runN T G (k+3) "has_sum_form" [.p d] h=aa (.p (.bl (fB d)),h):=by
 rw[run_eq P.has_sum_form rfl];have a:=yM P (k+1) d h;rcases uU d with e|⟨w,r,rfl⟩
 ·rw[e] at a;rw[GD e];simp[cV,a,P.INNER_COUNTS,cT]
 ·have a:runN T G (k+2) "first_word" [.p (.tup (.str w::r))] h=aa (.p (.str w),h):=a;have ln:=Dp (.str w) r;show _=aa (W.p (.bl (fD w r)),h);cases wc w with
  | num hw =>
   subst hw
   by_cases c:r.length=1
   ·obtain ⟨y,rfl⟩:=NR r c;have b:=GB P k y h;simp[cV,a,b,fD,qM,cT]
   ·have c2:¬ ((r.length:Int)+1=2):=by lia
    rw[show fD "num" r=ai from HM k9 r c];simp[-dY,cV,a,ln,c2,cT]
  | name hw =>
   subst hw
   by_cases c:r.length=1
   ·obtain ⟨y,rfl⟩:=NR r c;have b:=Do P (k+1) y h;simp[cV,a,b,fD,qM,cT]
   ·have c2:¬ ((r.length:Int)+1=2):=by lia
    rw[show fD "name" r=ai from HM ny r c];simp[-dY,cV,a,ln,c2,cT]
  | cell hw =>
   subst hw;rw[show fD "cell" r=decide (r.length=1) by simp[fD,ar]]
   by_cases c:r.length=1
   ·have c2:((r.length:Int)+1=1+1):=by lia
    simp[-dY,cV,a,ln,P.INNER_COUNTS,eN,c,c2,cT]
   ·have c2:¬ ((r.length:Int)+1=2):=by lia
    simp[-dY,cV,a,ln,P.INNER_COUNTS,eN,c,c2,cT]
  | add hw =>
   subst hw;rw[show fD "add" r=decide (r.length=2) by simp[fD,ar]]
   by_cases c:r.length=2
   simp[-dY,cV,a,ln,P.INNER_COUNTS,eN,c,cT]
   ·have c2:¬ ((r.length:Int)+1=3):=by lia
    have c3:¬ ((r.length:Int)=2):=by lia
    simp[-dY,cV,a,ln,P.INNER_COUNTS,eN,c,c2,c3,cT]
  | sub hw =>
   subst hw;rw[show fD "sub" r=decide (r.length=2) by simp[fD,ar]]
   by_cases c:r.length=2
   simp[-dY,cV,a,ln,P.INNER_COUNTS,eN,c,cT]
   ·have c2:¬ ((r.length:Int)+1=3):=by lia
    have c3:¬ ((r.length:Int)=2):=by lia
    simp[-dY,cV,a,ln,P.INNER_COUNTS,eN,c,c2,c3,cT]
  | mul hw =>
   subst hw;rw[show fD "mul" r=decide (r.length=2) by simp[fD,ar]]
   by_cases c:r.length=2
   simp[-dY,cV,a,ln,P.INNER_COUNTS,eN,c,cT]
   ·have c2:¬ ((r.length:Int)+1=3):=by lia
    have c3:¬ ((r.length:Int)=2):=by lia
    simp[-dY,cV,a,ln,P.INNER_COUNTS,eN,c,c2,c3,cT]
  | less hw =>
   subst hw;rw[show fD "less" r=decide (r.length=2) by simp[fD,ar]]
   by_cases c:r.length=2
   simp[-dY,cV,a,ln,P.INNER_COUNTS,eN,c,cT]
   ·have c2:¬ ((r.length:Int)+1=3):=by lia
    have c3:¬ ((r.length:Int)=2):=by lia
    simp[-dY,cV,a,ln,P.INNER_COUNTS,eN,c,c2,c3,cT]
  | no h1 h2 h3 h4 h5 h6 h7 =>
   rw[show fD w r=ai by simp[fD,ar,h1,h2,h3,h4,h5,h6,h7]];simp[-dY,cV,a,ln,P.INNER_COUNTS,eN,h1,h2,h3,h4,h5,h6,h7,cT]
theorem GE (P:P01 T G) (k:Nat) (f:fB d=ah) (h:HH):runN T G (k+1) "inner_sums" [.p d] h=aa (.p (.tup (jr d)),h):=by
 rw[run_eq P.inner_sums rfl];cases d with
 | tup xs =>
  cases xs with
  | nil=>exact dS f
  | cons x r =>
   cases x with
   | str w =>
    have f:fD w r=ah:=f;have i0:=Q6 (.str w) r;have s0:=Kq (.str w) r;show _=aa (W.p (.tup (if 0 < ar w then r else [])),h);cases wc w with
    | num hw=>subst hw;rw[if_neg (by decide +kernel)];simp[-gw,-jd,dH,i0,P.INNER_COUNTS,eN,cT]| name hw=>subst hw;rw[if_neg (by decide +kernel)];simp[-gw,-jd,dH,i0,P.INNER_COUNTS,eN,cT]| cell hw=>subst hw;rw[if_pos (by decide +kernel)];simp[-gw,-jd,dH,i0,s0,P.INNER_COUNTS,eN,cT]| add hw=>subst hw;rw[if_pos (by decide +kernel)];simp[-gw,-jd,dH,i0,s0,P.INNER_COUNTS,eN,cT]| sub hw=>subst hw;rw[if_pos (by decide +kernel)];simp[-gw,-jd,dH,i0,s0,P.INNER_COUNTS,eN,cT]| mul hw=>subst hw;rw[if_pos (by decide +kernel)];simp[-gw,-jd,dH,i0,s0,P.INNER_COUNTS,eN,cT]| less hw=>subst hw;rw[if_pos (by decide +kernel)];simp[-gw,-jd,dH,i0,s0,P.INNER_COUNTS,eN,cT]| no h1 h2 h3 h4 h5 h6 h7=>exact dS (show ai=ah by rw[← f];simp[fD,ar,h1,h2,h3,h4,h5,h6,h7])
   | _=>exact dS f
 | _=>exact dS f
theorem GF (P:P01 T G) (k:Nat) (h:HH) (t0:W) (j:Nat):∀ (m:Nat) (stk:List D) (c:Int) (x:Option W),c+(m:Int)=15 → 0 ≤ c → stk.length ≤ 2+2*c.toNat →
 (lp m stk=af ∧ ∃ h',fh (BT.ev (runN T G (k+3)) G isC) (evS (runN T G (k+3)) G nK) (m+2+j) [aa t0,aa (.r h.length),aa (.p (.int c)),x] (h++[.l stk.reverse])=aa (.rt (.p (.bl ai)) (h++[.l h']))) ∨
 ((lp m stk).isSome=ah ∧ ∃ c' x',fh (BT.ev (runN T G (k+3)) G isC) (evS (runN T G (k+3)) G nK) (m+2+j) [aa t0,aa (.r h.length),aa (.p (.int c)),x] (h++[.l stk.reverse]) =
   aa (.nx [aa t0,aa (.r h.length),c',x'] (h++[.l []]))):=by
 intro m
 induction m with
 | zero =>
  intro stk c x hc h0 hl;cases stk with
  | nil=>exact .inr ⟨rfl,aa (.p (.int c)),x,by rw[show 0+2+j=(1+j)+1 by lia];simp[fh,isC,rd]⟩
  | cons s l =>
   have c0:c=15:=by lia
   subst c0;refine .inl ⟨rfl,l.reverse,?_⟩;have c1:(0:Int) < (l.length:Int)+1:=by lia
   have e1:BT.ev (runN T G (k+3)) G isC [aa t0,aa (.r h.length),aa (.p (.int 15)),x] (h++[.l (s::l).reverse])=aa (.p (.bl ah),h++[.l (s::l).reverse]):=by simp[isC,rd,c1]
   have e2:evS (runN T G (k+3)) G nK [aa t0,aa (.r h.length),aa (.p (.int 15)),x] (h++[.l (s::l).reverse])=aa (.rt (.p (.bl ai)) (h++[.l l.reverse])):=by simp[nK,P.MOST_PARTS]
   rw[show 0+2+j=(1+j)+1 by lia,fh,e1,kR,kT,e2];rfl
 | succ m ih =>
  intro stk c x hc h0 hl;cases stk with
  | nil=>exact .inr ⟨rfl,aa (.p (.int c)),x,by rw[show m+1+2+j=(m+2+j)+1 by lia];simp[fh,isC,rd]⟩
  | cons s l =>
   have c1:(0:Int) < (l.length:Int)+1:=by lia
   have c2:¬ (15 < c+1):=by lia
   have e1:BT.ev (runN T G (k+3)) G isC [aa t0,aa (.r h.length),aa (.p (.int c)),x] (h++[.l (s::l).reverse])=aa (.p (.bl ah),h++[.l (s::l).reverse]):=by simp[isC,rd,c1]
   have r2:=Kw P k s;cases f:fB s with
   | false =>
    rw[f] at r2;refine .inl ⟨?_,l.reverse,?_⟩
    ·show (if fB s=ah then _ else af)=af;rw[f];rfl
    ·have e2:evS (runN T G (k+3)) G nK [aa t0,aa (.r h.length),aa (.p (.int c)),x] (h++[.l (s::l).reverse])=aa (.rt (.p (.bl ai)) (h++[.l l.reverse])):=by simp[nK,P.MOST_PARTS,c2,r2]
     rw[show m+1+2+j=(m+2+j)+1 by lia,fh,e1,kR,kT,e2];rfl
   | true =>
    rw[f] at r2;have r:=GE P (k+2) f;have il:=yL f;have ct:(c+1).toNat=c.toNat+1:=by lia
    simp only[SX] at hl;have l1:l.length+(jr s).length ≤ 100000:=by lia
    have e2:evS (runN T G (k+3)) G nK [aa t0,aa (.r h.length),aa (.p (.int c)),x] (h++[.l (s::l).reverse])=aa (.nx [aa t0,aa (.r h.length),aa (.p (.int (c+1))),aa (.p s)] (h++[.l ((jr s).reverse++l).reverse])):=by simp[nK,P.MOST_PARTS,c2,r,r2,l1]
    have el:lp (m+1) (s::l)=lp m ((jr s).reverse++l):=by rw[Kv f];show (if fB s=ah then _ else af)=_;rw[if_pos f]
    have q:=ih ((jr s).reverse++l) (c+1) (aa (.p s)) (by lia) (by lia) (by rw[SN,WV,ct];lia);have st:fh (BT.ev (runN T G (k+3)) G isC) (evS (runN T G (k+3)) G nK) (m+1+2+j) [aa t0,aa (.r h.length),aa (.p (.int c)),x] (h++[.l (s::l).reverse])=fh (BT.ev (runN T G (k+3)) G isC) (evS (runN T G (k+3)) G nK) (m+2+j) [aa t0,aa (.r h.length),aa (.p (.int (c+1))),aa (.p s)] (h++[.l ((jr s).reverse++l).reverse]):=by rw[show m+1+2+j=(m+2+j)+1 by lia,fh,e1,kR,kT,e2,dO]
    rw[el,st];exact q
theorem jQ (P:P01 T G) (k:Nat) (d:D) (h:HH):runN T G (k+4) "is_sum" [.p d] h=aa (.p (.bl (nM d)),h):=by
 rw[run_eq P.is_sum rfl];have eq:jM=⟨["thing"],["thing","waiting","parts","part"],.seq (.set 1 (.lst ah (.cons (.var 0) .nil))) (.seq (.set 2 (.cst (.int 0))) (.seq (.whl isC nK) (.ret (.cst (.bl ah)))))⟩:=rfl;rcases GF P k h (.p d) 99983 15 [d] 0 af (by decide) (by decide) (by simp) with ⟨q1,h',q⟩|⟨q1,c',x',q⟩
 ·have f:=lY h [.l h'] (.bl ai);have e:nM d=ai:=by unfold nM;rw[q1];rfl
  simp only[Ws] at q;rw[eq,e];simp[turns,q,f]
 ·have f:=lY h [.l []] (.bl ah);have e:nM d=ah:=q1;simp only[Ws] at q;rw[eq,e];simp[turns,q,f]
end
noncomputable def opB (w:az):Bool:=decide (w="add" ∨ w="sub" ∨ w="mul" ∨ w="less")
section
variable {T:FK → Option Fn}{G:az → Option W}
end
noncomputable def f6 (n:Int) (f:az) (d:D):Bool:=if f="name" then ny d else if f="place" then lg n d else nM d
noncomputable def kH (w:az):Option (List az):=if w="set" then aa ["name","sum"] else if w="put" then aa ["sum","sum"] else if w="ask" then aa ["name"] else if w="say" then aa ["sum"] else if w="jump" then aa ["place"] else if w="unless" then aa ["sum","place"] else if w="call" then aa ["place"] else if w="back" then aa [] else if w="stop" then aa [] else af
noncomputable def wD (n:Int) (w:az) (ps:List D):Bool:=match kH w with
 | some fs=>decide (ps.length=fs.length)&&(ps.zip fs).all λq=>f6 n q.2 q.1
 | none=>ai
noncomputable def jt (n:Int):D → Bool
 | .tup (.str w::ps)=>wD n w ps| _=>ai
theorem Dq (w:az):dU w nL=(kH w).map λfs=>.tup (fs.map .str):=by
 unfold kH nL;simp only[dU]
 by_cases h1:w="set"
 rw[if_pos h1,if_pos h1];rfl
 ·rw[if_neg h1,if_neg h1]
  by_cases h2:w="put"
  rw[if_pos h2,if_pos h2];rfl
  ·rw[if_neg h2,if_neg h2]
   by_cases h3:w="ask"
   rw[if_pos h3,if_pos h3];rfl
   ·rw[if_neg h3,if_neg h3]
    by_cases h4:w="say"
    rw[if_pos h4,if_pos h4];rfl
    ·rw[if_neg h4,if_neg h4]
     by_cases h5:w="jump"
     rw[if_pos h5,if_pos h5];rfl
     ·rw[if_neg h5,if_neg h5]
      by_cases h6:w="unless"
      rw[if_pos h6,if_pos h6];rfl
      ·rw[if_neg h6,if_neg h6]
       by_cases h7:w="call"
       rw[if_pos h7,if_pos h7];rfl
       ·rw[if_neg h7,if_neg h7]
        by_cases h8:w="back"
        rw[if_pos h8,if_pos h8];rfl
        ·rw[if_neg h8,if_neg h8]
         by_cases h9:w="stop"
         rw[if_pos h9,if_pos h9];rfl;rw[if_neg h9,if_neg h9];rfl
theorem sW (h:kH w=aa fs):fs.length ≤ 2:=by
 unfold kH at h
 repeat' split at h
 all_goals first|(cases h;decide)|exact mO h
section
variable {T:FK → Option Fn}{G:az → Option W}
theorem Kx (P:P01 T G) (k:Nat) (d:D) (f:az) (n:Int) (h:HH):runN T G (k+5) "fits" [.p d,.p (.str f),.p (.int n)] h=aa (.p (.bl (f6 n f d)),h):=by
 rw[run_eq P.fits rfl];have a:=Do P (k+3) d h;have b:=GC P (k+2) d n h;have c:=jQ P k d h;unfold f6
 by_cases h1:f="name"
 ·rw[if_pos h1];simp[k6,h1,a,cT]
 ·rw[if_neg h1]
  by_cases h2:f="place"
  ·rw[if_pos h2];subst h2;simp[k6,b,cT]
  ·rw[if_neg h2];simp[k6,h1,h2,c,cT]
theorem yN (F:FK → List W → HH → Option (W×HH)) (n:Int) (h:HH) (hF:∀ d f,F (.f "fits") [.p d,.p (.str f),.p (.int n)] h=aa (.p (.bl (f6 n f d)),h)):∀ qs:List (D×az),
 dj (dI (evs F G .nil) (BT.ev F G frE) [aa (.p (.int n))]) 2 (qs.map λq=>.tup [q.1,.str q.2]) h=aa ((qs.map λq=>f6 n q.2 q.1).map .bl,h)
 | []=>rfl
 | q::qs=>by have r:dj (dI (evs F G .nil) (BT.ev F G frE) [aa (.p (.int n))]) 2 (qs.map λq=>.tup [q.1,.str q.2]) h=aa ((qs.map λq=>f6 n q.2 q.1).map .bl,h):=yN F n h hF qs;have st:dj (dI (evs F G .nil) (BT.ev F G frE) [aa (.p (.int n))]) 2 ((q::qs).map λq=>.tup [q.1,.str q.2]) h=bnd (bnd (F (.f "fits") [.p q.1,.p (.str q.2),.p (.int n)] h) gJ) (kG (dj (dI (evs F G .nil) (BT.ev F G frE) [aa (.p (.int n))]) 2 (qs.map λq=>.tup [q.1,.str q.2]))):=rfl;rw[st,hF q.1 q.2,cZ];show bnd (aa (aa (D.bl (f6 n q.2 q.1)),h)) _=_;rw[cZ,gc,r];rfl
theorem Dr:∀ (ps:List D) (fs:List az),jD ps (fs.map .str)=(ps.zip fs).map λq=>.tup [q.1,.str q.2]
 | [],fs=>by cases fs<;>rfl
 | p::ps,[]=>rfl
 | p::ps,f::fs=>by simp[Dr ps fs]
theorem Ds (P:P01 T G) (k:Nat) (d:D) (n:Int) (h:HH):runN T G (k+6) "is_row" [.p d,.p (.int n)] h=aa (.p (.bl (jt n d)),h):=by
 rw[run_eq P.is_row rfl];have a:=yM P (k+4) d h;have eq:jN=⟨["thing","row_count"],["thing","row_count","forms"],.seq (.set 2 (.tx .dget (.cons (.glo "ROW_FORMS") (.cons (.call "first_word" (.cons (.var 0) .nil)) .nil)))) (.seq (.ife (.or (.cmp .isN (.var 2) (.cst .non)) (.cmp .ne (.bi .len ai (.cons (.var 0) .nil)) (.bin .add (.bi .len ai (.cons (.var 2) .nil)) (.cst (.int 1))))) (.ret (.cst (.bl ai))) .nil) (.ret (.tx .all (.cons (.comp ai .zipG (.cons (.slc (.var 0) (.cons (.cst (.int 1)) .nil) .nil) (.cons (.var 2) .nil)) ["part","form"] [(1,"row_count")] .nil frE) .nil))))⟩:=rfl;rw[eq];rcases uU d with e|⟨w,ps,rfl⟩
 ·rw[e] at a;have g:kTx .dget [.k (.t nL),.p .non] h=aa (.p .non,h):=rfl;have rb:jt n d=ai:=by
   cases d with
   | tup xs =>
    cases xs with
    | nil=>rfl
    | cons x r =>
     cases x with
     | str w=>exact nomatch e
     | _=>rfl
   | _=>rfl
  rw[rb];simp[P.ROW_FORMS,a,g,cT]
 ·have a:runN T G (k+5) "first_word" [.p (.tup (.str w::ps))] h=aa (.p (.str w),h):=a;have g:=dg1 nL w h;rw[Dq] at g;show _=aa (W.p (.bl (wD n w ps)),h);unfold wD;cases q:kH w with
  | none =>
   rw[q] at g;have g:kTx .dget [.k (.t nL),.p (.str w)] h=aa (.p .non,h):=g;simp[P.ROW_FORMS,a,g,cT]
  | some fs =>
   rw[q] at g;have g:kTx .dget [.k (.t nL),.p (.str w)] h=aa (.p (.tup (fs.map .str)),h):=g;have ln:=Dp (.str w) ps;have fl:=sW q;show _=aa (W.p (.bl (decide (ps.length=fs.length)&&(ps.zip fs).all λq=>f6 n q.2 q.1)),h)
   by_cases c:ps.length=fs.length
   ·rw[show (decide (ps.length=fs.length))=ah from decide_eq_true c,Yv];have cc:=yN (G:=G) (runN T G (k+5)) n h (λd f=>Kx P k d f n h) (ps.zip fs);have s0:=Kq (.str w) ps;have z:=Dr ps fs;have t:=wz ((ps.zip fs).map λq=>f6 n q.2 q.1) h;rw[WD] at t;have t:kTx .all [.p (.lst (((ps.zip fs).map λq=>f6 n q.2 q.1).map .bl))] h=aa (.p (.bl ((ps.zip fs).all λq=>f6 n q.2 q.1)),h):=t;have lb:(((ps.zip fs).map λq=>f6 n q.2 q.1).map D.bl).length ≤ 100000:=by rw[SJ,SJ,List.length_zip];lia
    generalize ((ps.zip fs).map λq=>f6 n q.2 q.1).map D.bl=PB at *;generalize ((ps.zip fs).all λq=>f6 n q.2 q.1)=AL at *;generalize ((ps.zip fs).map λq=>D.tup [q.1,.str q.2])=PZ at *;have lf:(fs.map D.str).length=ps.length:=by rw[SJ,c]
    generalize fs.map D.str=PF at *;have sr:gu .zipG [.tup ps,.tup PF]=aa PZ:=by rw[jU,← z];rfl
    have c2:BT.ev (runN T G (k+5)) G (.comp ai .zipG (.cons (.slc (.var 0) (.cons (.cst (.int 1)) .nil) .nil) (.cons (.var 2) .nil)) ["part","form"] [(1,"row_count")] .nil frE) [aa (.p (.tup (.str w::ps))),aa (.p (.int n)),aa (.p (.tup PF))] h=aa (.p (.lst PB),h) :=
     cgo (ws:=[.p (.tup ps),.p (.tup PF)]) (h1:=h) (fs:=[aa (.p (.int n))]) (by simp[-jd,s0]) (by rw[show rds [.p (.tup ps),.p (.tup PF)] h=aa [.tup ps,.tup PF] from rfl,Ue,sr]) rfl rfl cc lb
    generalize (E.comp ai .zipG (.cons (.slc (.var 0) (.cons (.cst (.int 1)) .nil) .nil) (.cons (.var 2) .nil)) ["part","form"] [(1,"row_count")] .nil frE)=EE at *;simp[P.ROW_FORMS,a,g,lf,c2,t,cT]
   ·rw[show (decide (ps.length=fs.length))=ai from decide_eq_false c,Bool.false_and];generalize (E.comp ai .zipG (.cons (.slc (.var 0) (.cons (.cst (.int 1)) .nil) .nil) (.cons (.var 2) .nil)) ["part","form"] [(1,"row_count")] .nil frE)=EE at *;have ci:¬ ((ps.length:Int)=(fs.length:Int)):=by lia
    simp[P.ROW_FORMS,a,g];rw[if_neg ci,um];simp[cT]
noncomputable def nA:D → Bool
 | .tup xs=>if 20 < xs.length then ai else xs.all (jt xs.length)
 | _=>ai
theorem yO (F:FK → List W → HH → Option (W×HH)) (ds:List D) (h:HH) (hF:∀ d,F (.f "is_row") [.p d,.p (.int ds.length)] h=aa (.p (.bl (jt ds.length d)),h)):∀ xs:List D,
 dj (dI (evs F G .nil) (BT.ev F G ipE) [aa (.p (.tup ds))]) 1 xs h=aa ((xs.map (jt ds.length)).map .bl,h)
 | []=>rfl
 | x::xs=>by
  have q:dj (dI (evs F G .nil) (BT.ev F G ipE) [aa (.p (.tup ds))]) 1 xs h=aa ((xs.map (jt ds.length)).map .bl,h):=yO F ds h hF xs;have f1:=hF x;have el:BT.ev F G ipE [aa (.p x),aa (.p (.tup ds))] h=aa (.p (.bl (jt ds.length x)),h):=by simp[ipE,f1]
  have st:dj (dI (evs F G .nil) (BT.ev F G ipE) [aa (.p (.tup ds))]) 1 (x::xs) h=bnd (bnd (BT.ev F G ipE [aa (.p x),aa (.p (.tup ds))] h) gJ) (kG (dj (dI (evs F G .nil) (BT.ev F G ipE) [aa (.p (.tup ds))]) 1 xs)):=rfl;rw[st,el,cZ];show bnd (aa (aa (D.bl _),h)) _=_;rw[cZ,gc,q];rfl
theorem gX (P:P01 T G) (k:Nat) (d:D) (h:HH):runN T G (k+7) "is_program" [.p d] h=aa (.p (.bl (nA d)),h):=by
 rw[run_eq P.is_program rfl];have eq:gi=⟨["thing"],["thing"],.seq (.ife (.or (.not (.bi .isTuple ai (.cons (.var 0) .nil))) (.cmp .gt (.bi .len ai (.cons (.var 0) .nil)) (.glo "MOST_ROWS"))) (.ret (.cst (.bl ai))) .nil) (.ret (.tx .all (.cons (.comp ai .seq (.cons (.var 0) .nil) ["row"] [(0,"thing")] .nil ipE) .nil)))⟩:=rfl;rw[eq];cases d with
 | tup xs =>
  by_cases c:20 < xs.length
  ·rw[show nA (.tup xs)=ai from if_pos c];have ci:(20:Int) < (xs.length:Int):=by lia
   simp[P.MOST_ROWS];rw[if_pos ci,um];simp[cT]
  ·rw[show nA (.tup xs)=xs.all (jt xs.length) from if_neg c];have cc:=yO (G:=G) (runN T G (k+6)) xs h (λd=>Ds P k d xs.length h) xs;have t:=wz (xs.map (jt xs.length)) h;rw[WD] at t;have t:kTx .all [.p (.lst ((xs.map (jt xs.length)).map .bl))] h=aa (.p (.bl (xs.all (jt xs.length))),h):=t;have lb:((xs.map (jt xs.length)).map D.bl).length ≤ 100000:=by rw[SJ,SJ];lia
   generalize (xs.map (jt xs.length)).map D.bl=PB at *;generalize xs.all (jt xs.length)=AL at *;have c2:BT.ev (runN T G (k+6)) G (.comp ai .seq (.cons (.var 0) .nil) ["row"] [(0,"thing")] .nil ipE) [aa (.p (.tup xs))] h=aa (.p (.lst PB),h) :=
    cgo (ws:=[.p (.tup xs)]) (h1:=h) (fs:=[aa (.p (.tup xs))]) (by simp) rfl rfl rfl cc lb
   generalize (E.comp ai .seq (.cons (.var 0) .nil) ["row"] [(0,"thing")] .nil ipE)=EE at *;have ci:¬ ((20:Int) < (xs.length:Int)):=by lia
   simp[P.MOST_ROWS];rw[if_neg ci,Bj];simp[c2,t,cT]
 | _=>simp[nA,cT]
end
theorem iU {T:FK → Option Fn}{G:az → Option W} (P:P80 T G):P01 T G:=⟨P.is_whole,P.is_worth,P.is_name,P.is_place,P.first_word,P.inner_sums,P.has_sum_form,P.is_sum,P.fits,P.is_row,P.is_program,P.LETTERS,P.WORTH_COUNT,P.MOST_PARTS,P.MOST_ROWS,P.INNER_COUNTS,P.ROW_FORMS⟩
theorem qN {x:az}{d:D} (h:eqv (.str x) d=ah):d=.str x:=by
 cases d with
 | str y=>simp at h;rw[h]| _=>simp[eqv] at h
theorem ng {d:D} (h:ny d=ah):∃ i:Nm,d=.str i.w:=by
 obtain ⟨y,hy,e⟩:=List.any_eq_true.mp h;rcases (show y=.str "a" ∨ y=.str "b" ∨ y=.str "c" ∨ y=.str "d" ∨ y=.str "e" ∨ y=.str "f" by simpa [An] using hy) with rfl | rfl | rfl | rfl | rfl | rfl
 exact ⟨.a,qN e⟩;exact ⟨.b,qN e⟩;exact ⟨.c,qN e⟩;exact ⟨.d,qN e⟩;exact ⟨.e,qN e⟩;exact ⟨.f,qN e⟩
theorem wF {d:D} (h:k9 d=ah):∃ n:Int,Wth n ∧ d=.int n:=by
 cases d with
 | int i =>
  simp only[k9,SM,decide_eq_true_eq] at h;exact ⟨i,⟨h.1,by lia⟩,rfl⟩
 | _=>exact dS h
theorem lu {n:Nat}{d:D} (h:lg n d=ah):∃ p:Nat,p ≤ n ∧ d=.int p:=by
 cases d with
 | int i =>
  simp only[lg,SM,decide_eq_true_eq] at h;exact ⟨i.toNat,by lia,by rw[Zm h.1]⟩
 | _=>exact dS h
theorem qO {f:D → Bool}{r:List D} (h:qM f r=ah):∃ a,r=[a] ∧ f a=ah:=by
 match r,h with
 | [a],h=>exact ⟨a,rfl,h⟩
theorem Dt {d:D} (f:fB d=ah) {ss:List Sm} (hi:jr d=ss.map Sm.enc) (ho:∀ s∈ss,s.ok):∃ s:Sm,d=s.enc ∧ s.ok ∧ s.size=szs ss+1:=by
 cases d with
 | tup l =>
  cases l with
  | nil=>exact dS f
  | cons a r =>
   cases a with
   | str w =>
    have f:fD w r=ah:=f;have hi:(if 0 < ar w then r else [])=ss.map Sm.enc:=hi;have sz0:∀ {n:Nat},ar w=0 → ss=[]:=λ{n} e=>by rw[if_neg (by lia)] at hi;exact List.map_eq_nil_iff.mp hi.symm
    unfold fD at f
    by_cases c1:w="num"
    ·subst c1;rw[if_pos rfl] at f;obtain ⟨a,rfl,fa⟩:=qO f;obtain ⟨n,hn,rfl⟩:=wF fa;have:=sz0 (n:=0) (by decide);subst this;exact ⟨.num n,rfl,hn,rfl⟩
    ·rw[if_neg c1] at f
     by_cases c2:w="name"
     ·subst c2;rw[if_pos rfl] at f;obtain ⟨a,rfl,fa⟩:=qO f;obtain ⟨i,rfl⟩:=ng fa;have:=sz0 (n:=0) (by decide);subst this;exact ⟨.nam i,rfl,trivial,rfl⟩
     ·rw[if_neg c2,SM,decide_eq_true_eq,decide_eq_true_eq] at f;obtain ⟨f1,f2⟩:=f;rw[if_pos f1] at hi;subst hi;rw[SJ] at f2
      by_cases c3:w="cell"
      ·subst c3;have e:ar "cell"=1:=by decide
       rw[e] at f2
       match ss,f2,ho with
       | [s],_,ho=>exact ⟨.cell s,rfl,ho s SG,by simp[Sm.size,szs]⟩
      ·have two:∀ o:Op,w=SE o.w → ∃ s:Sm,D.tup (.str w::ss.map Sm.enc)=s.enc ∧ s.ok ∧ s.size=szs ss+1:=λo ew=>by
        have e:ar w=2:=by rw[ew];cases o<;>decide
        rw[e] at f2
        match ss,f2,ho with
        | [s,t],_,ho=>exact ⟨.two o s t,by rw[ew];rfl,⟨ho s SG,ho t (SI _ SG)⟩,by simp[Sm.size,szs]⟩
       unfold ar at f1;rw[if_neg c3] at f1
       by_cases c4:w="add" ∨ w="sub" ∨ w="mul" ∨ w="less"
       ·rcases c4 with c|c|c|c
        exact two .add c;exact two .sub c;exact two .mul c;exact two .less c
       ·rw[if_neg c4] at f1;exact absurd f1 (by decide)
   | _=>exact dS f
 | _=>exact dS f
theorem Du:∀ (n m:Nat) (l:List D),lp n l=aa m → ∃ ss:List Sm,l=ss.map Sm.enc ∧ (∀ s∈ss,s.ok) ∧ szs ss+m=n
 | n,m,[],e=>by rw[sU] at e;cases e;exact ⟨[],rfl,(λs hs=>nomatch hs),by simp[szs]⟩
 | 0,m,s::l,e=>nomatch e
 | n+1,m,d::l,e=>by
  have e:(if fB d=ah then lp n (jr d++l) else af)=aa m:=e
  by_cases f:fB d=ah
  ·rw[if_pos f] at e;obtain ⟨ss,h1,h2,h3⟩:=Du n m _ e;obtain ⟨a,b,rfl,ha,hb⟩:=List.map_eq_append_iff.mp h1.symm;obtain ⟨s,q1,q2,q3⟩:=Dt f ha.symm λs hs=>h2 s (T4 _ hs);refine ⟨s::b,by rw[q1,← hb];rfl,λt ht=>?_,?_⟩
   ·rcases List.mem_cons.mp ht with rfl|ht
    exact q2;exact h2 t (Tj _ ht)
   ·rw[qJ] at h3;show (s.size::b.map Sm.size).sum+m=n+1;have:szs b=(b.map Sm.size).sum:=rfl;rw[W3,q3];lia
  ·rw[if_neg f] at e;exact nomatch e
theorem iC {d:D} (h:nM d=ah):∃ s:Sm,mY s ∧ d=s.enc:=by
 unfold nM at h;obtain ⟨m,e⟩:=Option.isSome_iff_exists.mp h;obtain ⟨ss,h1,h2,h3⟩:=Du _ _ _ e
 match ss,h1,h2,h3 with
 | [s],h1,h2,h3 =>
  have:szs [s]=s.size:=by simp[szs]
  exact ⟨s,⟨h2 s SG,by lia⟩,(Us h1).1⟩
theorem Dv (n:Int) (d:D):f6 n "name" d=ny d:=by unfold f6;rw[if_pos rfl]
theorem yP (n:Int) (d:D):f6 n "place" d=lg n d:=by unfold f6;rw[if_neg (by decide),if_pos rfl]
theorem uV (n:Int) (d:D):f6 n "sum" d=nM d:=by unfold f6;rw[if_neg (by decide),if_neg (by decide)]
theorem sX {n:Int}{f g:az}{ps:List D} (h:(decide (ps.length=[f,g].length)&&(ps.zip [f,g]).all λq=>f6 n q.2 q.1)=ah):∃ a b,ps=[a,b] ∧ f6 n f a=ah ∧ f6 n g b=ah:=by
 rw[SM,decide_eq_true_eq] at h;obtain ⟨h1,h2⟩:=h
 match ps,h1,h2 with
 | [a,b],_,h2 =>
  simp only[Zl,Zk,Wl,List.all_nil,Bool.and_true,SM] at h2;exact ⟨a,b,rfl,h2.1,h2.2⟩
theorem nY {n:Int}{f:az}{ps:List D} (h:(decide (ps.length=[f].length)&&(ps.zip [f]).all λq=>f6 n q.2 q.1)=ah):∃ a,ps=[a] ∧ f6 n f a=ah:=by
 rw[SM,decide_eq_true_eq] at h;obtain ⟨h1,h2⟩:=h
 match ps,h1,h2 with
 | [a],_,h2 =>
  simp only[Zl,Zk,Wl,List.all_nil,Bool.and_true] at h2;exact ⟨a,rfl,h2⟩
theorem uW {n:Int}{ps:List D} (h:(decide (ps.length=([]:List az).length)&&(ps.zip ([]:List az)).all λq=>f6 n q.2 q.1)=ah):ps=[]:=by rw[SM,decide_eq_true_eq] at h;exact List.length_eq_zero_iff.mp h.1
theorem Dw {n:Nat}{w:az}{ps:List D} (h:wD n w ps=ah):∃ r:Rw,r.ok n ∧ D.tup (.str w::ps)=r.enc:=by
 unfold wD kH at h
 by_cases c1:w="set"
 ·subst c1;rw[if_pos rfl] at h;obtain ⟨a,b,rfl,q1,q2⟩:=sX h;rw[Dv] at q1;rw[uV] at q2;obtain ⟨x,rfl⟩:=ng q1;obtain ⟨s,hs,rfl⟩:=iC q2;exact ⟨.set x s,hs,rfl⟩
 rw[if_neg c1] at h
 by_cases c2:w="put"
 ·subst c2;rw[if_pos rfl] at h;obtain ⟨a,b,rfl,q1,q2⟩:=sX h;rw[uV] at q1 q2;obtain ⟨s,hs,rfl⟩:=iC q1;obtain ⟨t,ht,rfl⟩:=iC q2;exact ⟨.put s t,⟨hs,ht⟩,rfl⟩
 rw[if_neg c2] at h
 by_cases c3:w="ask"
 ·subst c3;rw[if_pos rfl] at h;obtain ⟨a,rfl,q1⟩:=nY h;rw[Dv] at q1;obtain ⟨x,rfl⟩:=ng q1;exact ⟨.ask x,trivial,rfl⟩
 rw[if_neg c3] at h
 by_cases c4:w="say"
 ·subst c4;rw[if_pos rfl] at h;obtain ⟨a,rfl,q1⟩:=nY h;rw[uV] at q1;obtain ⟨s,hs,rfl⟩:=iC q1;exact ⟨.say s,hs,rfl⟩
 rw[if_neg c4] at h
 by_cases c5:w="jump"
 ·subst c5;rw[if_pos rfl] at h;obtain ⟨a,rfl,q1⟩:=nY h;rw[yP] at q1;obtain ⟨p,hp,rfl⟩:=lu q1;exact ⟨.jump p,hp,rfl⟩
 rw[if_neg c5] at h
 by_cases c6:w="unless"
 ·subst c6;rw[if_pos rfl] at h;obtain ⟨a,b,rfl,q1,q2⟩:=sX h;rw[uV] at q1;rw[yP] at q2;obtain ⟨s,hs,rfl⟩:=iC q1;obtain ⟨p,hp,rfl⟩:=lu q2;exact ⟨.unless s p,⟨hs,hp⟩,rfl⟩
 rw[if_neg c6] at h
 by_cases c7:w="call"
 ·subst c7;rw[if_pos rfl] at h;obtain ⟨a,rfl,q1⟩:=nY h;rw[yP] at q1;obtain ⟨p,hp,rfl⟩:=lu q1;exact ⟨.call p,hp,rfl⟩
 rw[if_neg c7] at h
 by_cases c8:w="back"
 ·subst c8;rw[if_pos rfl] at h;rw[uW h];exact ⟨.back,trivial,rfl⟩
 rw[if_neg c8] at h
 by_cases c9:w="stop"
 ·subst c9;rw[if_pos rfl] at h;rw[uW h];exact ⟨.stop,trivial,rfl⟩
 rw[if_neg c9] at h;exact dS h
theorem Dy {n:Nat}{d:D} (h:jt n d=ah):∃ r:Rw,r.ok n ∧ d=r.enc:=by
 cases d with
 | tup l =>
  cases l with
  | nil=>exact dS h
  | cons a ps =>
   cases a with
   | str w=>exact Dw h| _=>exact dS h
 | _=>exact dS h
theorem uX (n:Nat):∀ xs:List D,(∀ x∈xs,jt n x=ah) → ∃ pg:Pg,(∀ r∈pg,r.ok n) ∧ xs=pg.map Rw.enc
 | [],_=>⟨[],(λr hr=>nomatch hr),rfl⟩
 | x::xs,h=>by
  obtain ⟨pg,h1,h2⟩:=uX n xs λy hy=>h y (SI _ hy);obtain ⟨r,q1,q2⟩:=Dy (h x SG);refine ⟨r::pg,λr' hr'=>?_,by rw[q2,h2];rfl⟩;rcases List.mem_cons.mp hr' with rfl|hr'
  exact q1;exact h1 r' hr'
theorem qP {d:D} (h:nA d=ah):∃ pg:Pg,pg.length ≤ 20 ∧ (∀ r∈pg,r.ok pg.length) ∧ d=gy pg:=by
 cases d with
 | tup xs =>
  have h:(if 20 < xs.length then ai else xs.all (jt xs.length))=ah:=h
  by_cases c:20 < xs.length
  rw[if_pos c] at h;exact dS h
  ·rw[if_neg c] at h;obtain ⟨pg,h1,h2⟩:=uX xs.length xs (List.all_eq_true.mp h);have el:xs.length=pg.length:=by rw[h2,SJ]
   rw[el] at h1 c;exact ⟨pg,by lia,h1,by rw[h2];rfl⟩
 | _=>exact dS h
theorem uY (i:Nm):ny (.str i.w)=ah:=by cases i<;>rfl
theorem sY:∀ (s:Sm),s.ok → ∀ (n:Nat) (l:List D),s.size ≤ n → lp n (s.enc::l)=lp (n - s.size) l
 | .num i,h,n+1,l,_=>by
  have f:fB (Sm.num i).enc=ah:=by show (decide (0 ≤ i)&&decide (i < 10007))=ah;rw[decide_eq_true h.1,decide_eq_true (by have:=h.2;lia)];rfl
  show (if fB _=ah then lp n ([]++l) else af)=_;rw[if_pos f];rfl
 | .nam i,h,n+1,l,_=>by show (if fB _=ah then lp n ([]++l) else af)=_;rw[if_pos (show fB (Sm.nam i).enc=ah from uY i)];rfl
 | .cell s,h,n+1,l,hn=>by have hn:s.size+1 ≤ n+1:=hn;show (if fB _=ah then lp n ([s.enc]++l) else af)=_;rw[if_pos (show fB (Sm.cell s).enc=ah from rfl)];show lp n (s.enc::l)=lp (n+1 - (s.size+1)) l;rw[sY s h n l (by lia)];congr 1;lia
 | .two o a b,h,n+1,l,hn=>by
  have hn:a.size+b.size+1 ≤ n+1:=hn;have f:fB (Sm.two o a b).enc=ah:=by cases o<;>rfl
  have i:jr (Sm.two o a b).enc=[a.enc,b.enc]:=by cases o<;>rfl
  show (if fB _=ah then lp n (jr (Sm.two o a b).enc++l) else af)=_;rw[if_pos f,i];show lp n (a.enc::b.enc::l)=lp (n+1 - (a.size+b.size+1)) l;rw[sY a h.1 n _ (by lia),sY b h.2 _ l (by lia)];congr 1;lia
theorem sZ {s:Sm} (h:mY s):nM s.enc=ah:=by unfold nM;rw[sY s h.1 15 [] h.2,sU];rfl
theorem GG {n:Nat}{p:Prt} (h:gQ n p):f6 n p.f p.d=ah:=by
 cases h with
 | sm s h=>exact (uV _ _).trans (sZ h)| nm x=>exact (Dv _ _).trans (uY x)
 | pl q h =>
  refine (yP _ _).trans ?_;show (decide ((0:Int) ≤ (q:Int))&&decide ((q:Int) ≤ (n:Int)))=ah;rw[decide_eq_true (by lia),decide_eq_true (by lia)];rfl
theorem yQ (r:Rw):kH r.wd=aa (r.prt.map Prt.f):=by cases r<;>rfl
theorem yR {n:Int}:∀ ps:List Prt,(∀ p∈ps,f6 n p.f p.d=ah) → (((ps.map Prt.d).zip (ps.map Prt.f)).all λq=>f6 n q.2 q.1)=ah
 | [],_=>rfl
 | p::ps,h=>by show (f6 n p.f p.d&&_)=ah;rw[h p SG];exact yR ps λq hq=>h q (SI _ hq)
theorem Dz {n:Nat}{r:Rw} (h:r.ok n):jt n r.enc=ah:=by rw[kr];show wD n r.wd _=ah;unfold wD;rw[yQ];show (decide ((r.prt.map Prt.d).length=(r.prt.map Prt.f).length)&&_)=ah;rw[decide_eq_true (by simp),Yv];exact yR _ λp hp=>GG (iB h p hp)
theorem uZ {pg:Pg} (hl:pg.length ≤ 20) (h:∀ r∈pg,r.ok pg.length):nA (gy pg)=ah:=by show (if 20 < (pg.map Rw.enc).length then ai else (pg.map Rw.enc).all (jt (pg.map Rw.enc).length))=ah;rw[SJ,if_neg (by lia),TU];intro d hd;obtain ⟨r,hr,rfl⟩:=List.mem_map.mp hd;exact Dz (h r hr)
section
variable {T:FK → Option Fn}{G:az → Option W}
theorem DA (P:P80 T G) (k:Nat) {s:Sm} (hs:mY s) (h:HH):runN T G (k+5) "read_sum" [.p (.str s.txt)] h=aa (.p s.enc,h):=by rw[run_eq P.read_sum rfl];have hz:=hs.2;have sp:=fJ (x:=s.txt) (by have:=yy hs.1 (by lia);lia) (y:=" ") rfl h;rw[m8 hs.1] at sp;have a:=nv P k hs.1 (by lia) h;have b:=jQ (iU P) k s.enc h;rw[sZ hs] at b;have c:=eg P (k+2) hs.1 (by lia) h;generalize s.wds.map D.str=L at *;generalize s.txt=TX at *;generalize s.enc=EN at *;simp[iA,sp,a,b,c,cT]
theorem Kz (P:P80 T G) {pg:Pg} (hl:pg.length ≤ 20) (hok:∀ r∈pg,r.ok pg.length) (k:Nat) (h:HH):runN T G (k+8) "read" [.p (.str (pgT pg))] h=aa (.p (gy pg),h):=by
 rw[run_eq P.read rfl];have hn:pg.length ≤ 100:=by lia
 have sp:=fJ (x:=pgT pg) (Gy hn hn hok) (y:="\n") rfl h;rw[uS hn hok,TV] at sp;have s0:=pM ((pg.map Rw.txt).map .str) (.str "");have c:=yK (G:=G) (runN T G (k+7)) h pg λr hr=>uT P hn (hok r hr) (k+2) h;have a:=gX (iU P) k (gy pg) h;rw[uZ hl hok] at a;have b:=gk P hn hn hok (k+3) h;have l1:(pg.map Rw.enc).length ≤ 100:=by simpa using hn
 rw[show gy pg=.tup (pg.map Rw.enc) from rfl] at *;rw[show [("":az)].map D.str=[.str ""] from rfl] at sp;generalize (pg.map Rw.txt).map D.str++[.str ""]=L at *;generalize (pg.map Rw.txt).map D.str=L' at *;generalize pg.map Rw.enc=PE at *;generalize pgT pg=TX at *;have ec:BT.ev (runN T G (k+7)) G (.comp ai .seq (.cons (.slc (.tx .split (.cons (.var 0) (.cons (.cst (.str "\n")) .nil))) .nil (.cons (.neg (.cst (.int 1))) .nil)) .nil) ["line"] [] .nil (.call "row_of" (.cons (.var 0) .nil))) [aa (.p (.str TX)),af] h=aa (.p (.lst PE),h) :=
  cgo (ws:=[.p (.lst L')]) (h1:=h) (fs:=[]) (by simp[-kP,sp,s0]) rfl rfl rfl c (by lia)
 rw[pH];generalize (E.comp ai .seq (.cons (.slc (.tx .split (.cons (.var 0) (.cons (.cst (.str "\n")) .nil))) .nil (.cons (.neg (.cst (.int 1))) .nil)) .nil) ["line"] [] .nil (.call "row_of" (.cons (.var 0) .nil)))=EE at *;have l2:PE.length ≤ 100000:=by lia
 simp[ec,a,b,l2,cT]
end
section
variable {F:FK → List W → HH → Option (W×HH)}{R:XF}{D:az → Bool}{G:az → Option W}{c e a b:E}{s x:S}{sl:Sl}{h g:HH}{q:az×HH}
theorem DB (h1:BT.ev F G c sl h=aa (.p (.bl ah),h)):BT.ev F G (.ite c a b) sl h=BT.ev F G a sl h:=by simp[h1]
theorem NS (h1:BT.ev F G c sl h=aa (.p (.bl ai),h)):BT.ev F G (.ite c a b) sl h=BT.ev F G b sl h:=by simp[h1]
end
section
end
def Dg (l:List Nat):Prop:=∀ a b c,l=a++(b++c) → (∀ x∈b,48 ≤ x ∧ x ≤ 57) → b.length ≤ 9
theorem Dg.mid (h:Dg (a++(b++c))):Dg b:=λx y z e hy=>h (a++x) y (z++c) (by rw[e];simp) hy
theorem pN (h:l.length ≤ 9):Dg l:=λa b c e _=>by have:=congrArg WW e;simp only[SN] at this;lia
theorem KA (hs:¬ (48 ≤ s ∧ s ≤ 57)) (hl:Dg l) (hr:Dg r):Dg (l++s::r):=by
 intro a b c e hb;rcases List.append_eq_append_iff.mp e with ⟨d,e1,e2⟩|⟨d,e1,e2⟩
 ·cases d with
  | nil =>
   cases b with
   | nil=>simp
   | cons x b =>
    have:s=x:=(Us e2).1;exact absurd (this ▸ hb x SG) hs
  | cons x d=>exact hr d b c (Us e2).2 hb
 ·rcases List.append_eq_append_iff.mp e2 with ⟨f,f1,f2⟩|⟨f,f1,f2⟩
  exact hl a b f (by rw[e1,f1]) hb
  ·cases f with
   | nil=>exact hl a b [] (by rw[e1,f1];simp) hb
   | cons x f =>
    have:s=x:=(Us f2).1;exact absurd (this ▸ hb x (by rw[f1];simp)) hs
def Okl (l:List Nat):Prop:=(∀ c∈l,c < 128) ∧ Dg l
theorem Okl.mid (h:Okl (a++(b++c))):Okl b:=⟨λx hx=>h.1 x (by simp[hx]),h.2.mid⟩
theorem yS (h0:s < 128) (hs:¬ (48 ≤ s ∧ s ≤ 57)) (hl:Okl l) (hr:Okl r):Okl (l++s::r):=⟨λc hc=>by
 rcases List.mem_append.mp hc with q|q
 exact hl.1 c q
 ·rcases List.mem_cons.mp q with rfl|q
  exact h0
  ·exact hr.1 c q,KA hs hl.2 hr.2⟩
def Okp (x:az):Prop:=Okl x.cps.toList
noncomputable def wt (ts:List az):Nat:=(ts.map λt=>t.length+1).sum
theorem nh (a b:List az):wt (a++b)=wt a+wt b:=by simp[wt]
theorem yT (n:Nat) (a:List az):wt (a.take n) ≤ wt a:=by have:=nh (a.take n) (a.drop n);rw[TZ] at this;lia
theorem yU (n:Nat) (a:List az):wt (a.drop n) ≤ wt a:=by have:=nh (a.take n) (a.drop n);rw[TZ] at this;lia
theorem tw:∀ ts:List az,ts.length ≤ wt ts
 | []=>SY _
 | t::ts=>by have:=tw ts;show ts.length+1 ≤ t.length+1+wt ts;lia
theorem KB (h:t∈ts):t.length+1 ≤ wt ts:=by obtain ⟨a,b,rfl⟩:=List.append_of_mem h;rw[nh];show t.length+1 ≤ wt a+(t.length+1+wt b);lia
theorem tE (c:Nat):∀ ts:List az,ts≠[] → (SV ⟨#[c]⟩ ts).length+1=wt ts
 | [],h=>absurd rfl h| [t],_=>rfl
 | t::u::r,_=>by have ih:=tE c (u::r) (by simp);show (t++(⟨#[c]⟩:az)++SV ⟨#[c]⟩ (u::r)).length+1=t.length+1+wt (u::r);rw[UI,UI,← ih];show t.length+1+_+1=_;lia
theorem DC (c:Nat) (ts:List az):(SV ⟨#[c]⟩ ts).length ≤ wt ts:=by
 cases ts with
 | nil=>exact UK _
 | cons t r=>have:=tE c (t::r) (by simp);lia
theorem DE (h0:c < 128) (hs:¬ (48 ≤ c ∧ c ≤ 57)):∀ ls:List (List Nat),(∀ l∈ls,Okl l) → Okl (jl c ls)
 | [],_=>⟨(λc hc=>nomatch hc),pN (UK _)⟩| [l],h=>h l SG| l::l'::r,h=>yS h0 hs (h l SG) (DE h0 hs (l'::r) λx hx=>h x (SI _ hx))
theorem wG:∀ ls:List (List Nat),l∈ls → ∃ a b,jl c ls=a++(l++b)
 | [x],h=>by rw[List.mem_singleton.mp h];exact ⟨[],[],by simp[jl]⟩
 | x::y::r,h=>by
  rcases List.mem_cons.mp h with rfl|h
  exact ⟨[],c::jl c (y::r),rfl⟩
  ·obtain ⟨a,b,e⟩:=wG (y::r) h;exact ⟨x++c::a,b,by show x++c::jl c (y::r)=_;rw[e];simp⟩
theorem mw (h0:c < 128) (hs:¬ (48 ≤ c ∧ c ≤ 57)) (h:∀ t∈ts,Okp t):Okp (SV ⟨#[c]⟩ ts):=by unfold Okp;rw[jq];refine DE h0 hs _ λl hl=>?_;obtain ⟨t,ht,rfl⟩:=List.mem_map.mp hl;exact h t ht
theorem ni (h:Okp x):∀ t∈Txt.split x ⟨#[c]⟩,Okp t:=by intro t ht;have e:=congrArg (λy:az=>y.cps.toList) (Uy x ⟨#[c]⟩);simp only[jq] at e;obtain ⟨a,b,q⟩:=wG (c:=c) (l:=t.cps.toList) _ (VV (f:=λt:az=>t.cps.toList) ht);rw[q] at e;unfold Okp at h;rw[← e] at h;exact h.mid
theorem ja (c:Nat) (x:az):wt (Txt.split x ⟨#[c]⟩)=x.length+1:=by have:=tE c _ (fS x ⟨#[c]⟩);rw[Uy] at this;exact this.symm
theorem gD (h:∀ c∈x.cps.toList,c < 128) (hl:x.length ≤ 9):Okp x:=⟨h,pN (by
 have:x.cps.toList.length=x.length:=by simp[VT]
 lia)⟩
theorem DF:∀ c:Nat,c < 128 → (UP 34 c).length ≤ 4 ∧ (UP 39 c).length ≤ 4:=by decide +kernel
theorem u0 (hq:q=34 ∨ q=39):∀ (l:List Nat),(∀ c∈l,c < 128) → ∀ n,l.foldl (λn c=>n+(UP q c).length) n ≤ n+4*l.length
 | [],_,n=>by simp
 | c::l,h,n=>by
  have h1:=DF c (h c SG);have h2:(UP q c).length ≤ 4:=by rcases hq with rfl|rfl;exact h1.1;exact h1.2
  have ih:=u0 hq l (λx hx=>h x (SI _ hx)) (n+(UP q c).length);rw[XH,SX];lia
theorem Aw (x:az):V9 x=34 ∨ V9 x=39:=by unfold V9;split;exact .inl rfl;exact .inr rfl
structure GT (x:az):Prop where
 len:x.length ≤ 3990
 ok:Okp x
theorem GT.rpr (h:GT x):pA (.str x)=ah:=by
 rw[Gb,decide_eq_true_eq];unfold reprText;show ((x.cps.foldl (λout c=>out++(UP (V9 x) c).toArray) #[V9 x]).push (V9 x)).size ≤ 50000;rw[Array.size_push,← Array.foldl_toList];have e:=foldl_repr_eq (V9 x) x.cps.toList #[V9 x] 0;have f:=u0 (Aw x) x.cps.toList h.ok.1 0;have l:x.cps.toList.length=x.length:=by simp[VT]
 have l2:=h.len;have e2:(#[V9 x]:Array Nat).size=1:=rfl;rw[e2] at e;lia
theorem GT.piece (h:GT x):∀ t∈Txt.split x ⟨#[c]⟩,GT t:=λt ht=>⟨by
 have h1:=KB ht;rw[ja] at h1;have:=h.len;lia,ni h.ok t ht⟩
theorem GT.count (h:GT x):(Txt.split x ⟨#[c]⟩).length ≤ 3991:=by have h1:=tw (Txt.split x ⟨#[c]⟩);rw[ja] at h1;have:=h.len;lia
noncomputable abbrev sv (x:az):Option W:=aa (.p (.str x))
noncomputable abbrev iv (i:Int):Option W:=aa (.p (.int i))
noncomputable abbrev lv (l:List D):Option W:=aa (.p (.lst l))
noncomputable abbrev tv (l:List D):Option W:=aa (.p (.tup l))
noncomputable abbrev rl (h:HH):Option W:=aa (.r h.length)
theorem KC:∀ c:Nat,c < 128 → Txt.contains "0123456789" ⟨#[c]⟩=ah → 48 ≤ c ∧ c ≤ 57:=by decide +kernel
theorem pO (h:Okp x) (h1:1 ≤ x.length) (hf:(x.cps.toList.all λc=>Txt.contains "0123456789" ⟨#[c]⟩)=ah):∃ n,Uv x=aa n ∧ x.length ≤ 9:=by
 have a:∀ c∈x.cps.toList,48 ≤ c ∧ c ≤ 57:=λc hc=>KC c (h.1 c hc) (List.all_eq_true.mp hf c hc);have l:x.cps.toList.length=x.length:=by simp[VT]
 have l9:=h.2 [] x.cps.toList [] (by simp) a;exact ⟨_,PySem.intText_digits a (by intro e;rw[e] at l;simp at l;lia) (by lia),by lia⟩
inductive Ar (w:az):Prop where
 | zero (h:(dU w eN).getD (.int 0)=.int 0)
 | one (h:dU w eN=aa (.int 1))
 | two (h:dU w eN=aa (.int 2))
theorem HN (w:az):Ar w:=by
 cases wc w with
 | num h=>subst h;exact .zero rfl| name h=>subst h;exact .zero rfl| cell h=>subst h;exact .one rfl| add h=>subst h;exact .two rfl| sub h=>subst h;exact .two rfl| mul h=>subst h;exact .two rfl| less h=>subst h;exact .two rfl| no h1 h2 h3 h4 h5 h6 h7=>exact .zero (by simp[eN,h1,h2,h3,h4,h5,h6,h7])
section
variable {T TX:FK → Option Fn}{G:az → Option W}
theorem DG (P:P80 T G) (k:Nat) (x:az) (hl:x.length ≤ 4000):∃ b:Bool,(∀ h,runN T G (k+1) "is_figures" [.p (.str x)] h=aa (.p (.bl b),h)) ∧ (b=ah → (x.cps.toList.all λc=>Txt.contains "0123456789" ⟨#[c]⟩)=ah ∧ 1 ≤ x.length):=by
 by_cases c:1 ≤ x.length ∧ x.length ≤ 5
 exact ⟨_,λh=>m7 P k x c.1 c.2 h,λe=>⟨e,c.1⟩⟩
 ·refine ⟨ai,λh=>?_,λe=>dS e⟩;rw[run_eq P.is_figures rfl];have l1:x.length ≤ 100000:=by lia
  by_cases c0:x.length=0
  simp[fM,l1,c0,cT,P.MOST_FIGURES]
  ·have z1:(0:Int) < (x.length:Int):=by lia
   have z2:¬ ((x.length:Int) ≤ 5):=by lia
   have z3:0 < x.length:=by lia
   have z4:¬ (x.length ≤ 5):=by lia
   simp[fM,l1,z1,z2,z3,z4,cT,P.MOST_FIGURES]
theorem yV (P:P80 T G) (k:Nat) (g:GT x):∃ d:D,(∀ h,runN T G (k+2) "number_or_word" [.p (.str x)] h=aa (.p d,h)) ∧ ((∃ i,d=.int i) ∨ d=.str x):=by
 obtain ⟨b,f,hb⟩:=DG P k x (by have:=g.len;lia);cases b with
 | false =>
  refine ⟨.str x,λh=>?_,.inr rfl⟩;rw[run_eq P.number_or_word rfl];simp[dX,f,cT]
 | true =>
  obtain ⟨hf,h1⟩:=hb rfl;obtain ⟨n,hn,hl⟩:=pO g.ok h1 hf;refine ⟨.int n,λh=>?_,.inl ⟨n,rfl⟩⟩;rw[run_eq P.number_or_word rfl];have t:kTx .intS [.p (.str x)] h=aa (.p (.int n),h):=by show ((if x.length ≤ 640 then (Uv x).map D.int else af).map λd=>(W.p d,h))=_;rw[if_pos (by lia),hn];rfl
  simp[dX,f,t,cT]
theorem DH (P:P80 T G) (k:Nat) (g:GT x):∃ d:D,∀ h,runN T G (k+3) "leaf_of" [.p (.str x)] h=aa (.p d,h):=by
 obtain ⟨d,f,hd⟩:=yV P k g;rcases hd with ⟨i,rfl⟩|rfl
 ·refine ⟨.tup [.str "num",.int i],λh=>?_⟩;rw[run_eq P.leaf_of rfl];have w:=nX (iU P) (k+1) (.int i) h;simp[gC,f,w,whB,cT]
 ·refine ⟨.tup [.str "name",.str x],λh=>?_⟩;rw[run_eq P.leaf_of rfl];have w:=nX (iU P) (k+1) (.str x) h;simp[gC,f,w,whB,cT]
theorem qQ (h:HH) (a b:HH → Option (az×HH)):rsI (aa (.p (.bl ah),h)) a b=a h:=rfl
theorem NT (h:HH) (a b:HH → Option (az×HH)):rsI (aa (.p (.bl ai),h)) a b=b h:=rfl
theorem nB (ws:List W) (g:HH) (k:List W → HH → Option (az×HH)) (d:Option (az×HH)):rsC (aa (ws,g)) k d=k ws g:=rfl
theorem yW (e:(rds ws h).bind (gu sr)=aa ds) (a:iG ws=ah):pB b rb tg sr s ws h=lV b rb tg ds s h:=by unfold pB;rw[e];simp only;rw[if_pos a]
noncomputable def nN:S:=(.seq (.set 3 (.tx .dget (Z7 (.glo "INNER_COUNTS") (.var 2) (.cst (.int 0))))) (.seq (.ife (.cmp .gt (.var 3) (.bi .len ai (Z9 (.var 1)))) (.rai "NoText" (.var 2)) .nil) (.seq (.set 4 soC) (.ex (.me .append (.var 1) (Z9 (.ite (.cmp .gt (.var 3) (.cst (.int 0))) (.bin .add (.tup (Z9 (.var 2))) (.bi .tuple ai (Z9 (.var 4)))) (.call "leaf_of" (Z9 (.var 2))))))))))
noncomputable def fO:Fn:=⟨["words"],["words","parts","word","many","inner"],(.seq (.set 1 (.lst ah .nil)) (.for [(2,"word")] .rev (Z9 (.var 0)) nN))⟩
theorem yX (F:FK → List W → HH → Option (W×HH)) (s:Sl) (h:HH):evS F G nN s h=evS F G soB s h:=rfl
theorem DI (P:P80 T G) (k:Nat) (w0 x3 x4:Option W) (h:HH) (st:List D) (t:az) (d:D) (hk:(dU t eN).getD (.int 0)=.int 0) (hl:∀ h,runN T G (k+3) "leaf_of" [.p (.str t)] h=aa (.p d,h)) (hs:st.length < 90000) :
 evS (runN T G (k+3)) G soB [w0,rl h,sv t,x3,x4] (h++[.l st])=aa (.nx [w0,rl h,sv t,iv 0,lv []] (h++[.l (st++[d])])):=by
 have c:=HL (G:=G) (runN T G (k+3)) w0 (aa (.p (.str t))) x4 h.length (h++[.l st]);have g:=dg eN t (.int 0) (h++[.l st]);rw[hk] at g;have e1:st.length < 100000:=by lia
 have e2:st.length ≤ 100000:=by lia
 have e3:¬ ((st.length:Int) < 0):=by lia
 rw[pL];generalize soC=EE at *;simp[P.INNER_COUNTS,g,c,hl,e1,e2,e3,rd]
theorem KG (P:P80 T G) (F:FK → List W → HH → Option (W×HH)) (R:XF) (Dd:az → Bool) (w0 x3 x4:Option W) (h:HH) (st:List D) (t:az) (a:Int) (hk:dU t eN=aa (.int a)) (ha:(st.length:Int) < a) (ht:GT t) (hs:st.length < 90000) :
 evS F G soB [w0,rl h,sv t,x3,x4] (h++[.l st])=af ∧ rsS F R Dd G nN [w0,rl h,sv t,x3,x4] (h++[.l st])=aa (SE "NoText",h++[.l st]):=by
 have g:=dg eN t (.int 0) (h++[.l st]);rw[hk] at g;have e2:st.length ≤ 100000:=by lia
 have hr:=ht.rpr;constructor
 ·rw[pL];generalize soC=EE at *;simp[P.INNER_COUNTS,g,e2,ha,rd]
 ·unfold nN;generalize soC=EE at *;generalize (S.seq (.set 4 EE) _)=SS at *;have z:evS F G (.ife (.cmp .gt (.var 3) (.bi .len ai (.cons (.var 1) .nil))) (.rai "NoText" (.var 2)) .nil) [w0,rl h,sv t,iv a,x4] (h++[.l st])=af:=by simp[e2,ha,rd]
  have z2:BT.ev F G (.cmp .gt (.var 3) (.bi .len ai (.cons (.var 1) .nil))) [w0,rl h,sv t,iv a,x4] (h++[.l st])=aa (.p (.bl ah),h++[.l st]):=by simp[e2,ha,rd]
  have z3:evS F G (.set 3 (.tx .dget (.cons (.glo "INNER_COUNTS") (.cons (.var 2) (.cons (.cst (.int 0)) .nil))))) [w0,rl h,sv t,x3,x4] (h++[.l st])=aa (.nx [w0,rl h,sv t,iv a,x4] (h++[.l st])):=by simp[P.INNER_COUNTS,g]
  rw[xs2,z3];simp only;rw[xs2,z];simp only;rw[xs3,z2];rw[qQ,xs1];simp[hr]
theorem u5 {α:Type}{l:List α} (h:l≠[]):∃ s a,l=s++[a]:=⟨l.dropLast,l.getLast h,(List.dropLast_concat_getLast h).symm⟩
theorem NU {α:Type}{l:List α} (h:2 ≤ l.length):∃ s b a,l=s++[b,a]:=by obtain ⟨s,a,rfl⟩:=u5 (l:=l) (by intro e;rw[e] at h;simp at h);obtain ⟨s,b,rfl⟩:=u5 (l:=s) (by intro e;rw[e] at h;simp at h);exact ⟨s,b,a,by simp⟩
theorem fgx (b:Sl → HH → Option Fl) (rb:Sl → HH → Option (az×HH)) (d:D) (r:List D) (w0 w1 x2 x3 x4:Option W) (h:HH):lV b rb [(2,"word")] (d::r) [w0,w1,x2,x3,x4] h=CD (b [w0,w1,aa (.p d),x3,x4] h) (lV b rb [(2,"word")] r) (rb [w0,w1,aa (.p d),x3,x4] h):=rfl
theorem DJ (P:P80 T G) (k:Nat) (R:XF) (Dd:az → Bool) (w0:Option W) (h:HH):∀ (ws:List az) (st:List D) (x2 x3 x4:Option W),(∀ t∈ws,GT t) → st.length+ws.length ≤ 80000 →
 (∃ st' y2 y3 y4,dJ (evS (runN T G (k+3)) G soB) [(2,"word")] (ws.map .str) [w0,rl h,x2,x3,x4] (h++[.l st])=aa (.nx [w0,rl h,y2,y3,y4] (h++[.l st'])) ∧ (st≠[] ∨ ws≠[] → st'≠[])) ∨
 (∃ st',dJ (evS (runN T G (k+3)) G soB) [(2,"word")] (ws.map .str) [w0,rl h,x2,x3,x4] (h++[.l st])=af ∧ lV (evS (runN T G (k+3)) G nN) (rsS (runN T G (k+3)) R Dd G nN) [(2,"word")] (ws.map .str) [w0,rl h,x2,x3,x4] (h++[.l st])=aa (SE "NoText",h++[.l st']))
 | [],st,x2,x3,x4,_,_=>.inl ⟨st,x2,x3,x4,rfl,λz=>z.resolve_right λq=>q rfl⟩
 | t::ws,st,x2,x3,x4,hg,hl=>by
  rw[SX] at hl;have ht:=hg t SG;have hs:st.length < 90000:=by lia
  have step:∀ (y3 y4:Option W) (st1:List D),st1≠[] → st1.length ≤ st.length+1 → evS (runN T G (k+3)) G soB [w0,rl h,sv t,x3,x4] (h++[.l st])=aa (.nx [w0,rl h,sv t,y3,y4] (h++[.l st1])) →
   (∃ st' y2 y3 y4,dJ (evS (runN T G (k+3)) G soB) [(2,"word")] ((t::ws).map .str) [w0,rl h,x2,x3,x4] (h++[.l st])=aa (.nx [w0,rl h,y2,y3,y4] (h++[.l st'])) ∧ (st≠[] ∨ t::ws≠[] → st'≠[])) ∨
   (∃ st',dJ (evS (runN T G (k+3)) G soB) [(2,"word")] ((t::ws).map .str) [w0,rl h,x2,x3,x4] (h++[.l st])=af ∧ lV (evS (runN T G (k+3)) G nN) (rsS (runN T G (k+3)) R Dd G nN) [(2,"word")] ((t::ws).map .str) [w0,rl h,x2,x3,x4] (h++[.l st])=aa (SE "NoText",h++[.l st'])):=by
   intro y3 y4 st1 ne le e;have e':=e;rw[← yX] at e';rw[Tw,fg1,e,dO,fgx,e'];rcases DJ P k R Dd w0 h ws st1 (aa (.p (.str t))) y3 y4 (λu hu=>hg u (SI _ hu)) (by lia) with ⟨st',z2,z3,z4,q1,q2⟩|⟨st',q1,q2⟩
   exact .inl ⟨st',z2,z3,z4,q1,λ_=>q2 (.inl ne)⟩;exact .inr ⟨st',q1,q2⟩
  have few:∀ a:Int,dU t eN=aa (.int a) → (st.length:Int) < a →
   (∃ st',dJ (evS (runN T G (k+3)) G soB) [(2,"word")] ((t::ws).map .str) [w0,rl h,x2,x3,x4] (h++[.l st])=af ∧ lV (evS (runN T G (k+3)) G nN) (rsS (runN T G (k+3)) R Dd G nN) [(2,"word")] ((t::ws).map .str) [w0,rl h,x2,x3,x4] (h++[.l st])=aa (SE "NoText",h++[.l st'])):=λa hk ha=>by
   obtain ⟨q1,q2⟩:=KG P (runN T G (k+3)) R Dd w0 x3 x4 h st t a hk ha ht hs;refine ⟨st,?_,?_⟩;rw[Tw,fg1,q1];rfl;rw[Tw,fgx,yX,q1];exact q2
  cases HN t with
  | zero hk =>
   obtain ⟨d,hd⟩:=DH P k ht;exact step _ _ _ (by simp) (by simp) (DI P k w0 x3 x4 h st t d hk hd hs)
  | one hk =>
   by_cases c:st=[]
   ·subst c;exact .inr (few 1 hk (by simp))
   ·obtain ⟨st0,a,rfl⟩:=u5 c;exact step _ _ _ (by simp) (by simp) (Di P k w0 x3 x4 h st0 t a hk (by simp at hs;lia))
  | two hk =>
   by_cases c:2 ≤ st.length
   ·obtain ⟨st1,b,a,rfl⟩:=NU c;exact step _ _ _ (by simp) (by simp) (Dj P k w0 x3 x4 h st1 t a b hk (by simp at hs;lia))
   exact .inr (few 2 hk (by lia))
theorem DK (l:List D) (hl:l≠[]):∃ d,fE (.lst l) (.int (-1))=aa d:=by
 obtain ⟨l0,a,rfl⟩:=u5 hl;refine ⟨a,?_⟩;show atP (l0++[a]) (-1)=aa a;have e1:(1:Int) ≤ (l0.length:Int)+1:=by lia
 have e2:(-1+((l0.length:Int)+1)).toNat=l0.length:=by lia
 simp[place,e1,e2]
inductive RdO (T TX:FK → Option Fn) (G:az → Option W) (k:Nat) (f:az) (ws:List W) (h:HH):Prop where
 | yes (d:D) (e:runN T G k (.f f) ws h=aa (.p d,h))
 | no (g:HH) (e:runN T G k (.f f) ws h=af) (x:fz T TX G k (.f f) ws h=aa (SE "NoText",h++g))
theorem pP (P:P80 T G) (X:TX "sum_of"=aa fO) (k:Nat) (ws:List az) (hw:ws≠[]) (hg:∀ t∈ws,GT t) (hl:ws.length ≤ 4000) (h:HH):RdO T TX G (k+4) "sum_of" [.p (.lst (ws.map .str))] h:=by
 have sr:gu .rev [.lst (ws.map .str)]=aa (ws.map .str).reverse:=rfl;have er:(ws.map D.str).reverse=ws.reverse.map .str:=by rw[List.map_reverse]
 rcases DJ P k (fz T TX G (k+3)) (dk T) (aa (.p (.lst (ws.map .str)))) h ws.reverse [] af af af (λt ht=>hg t (List.mem_reverse.mp ht)) (by simp;lia) with ⟨st',y2,y3,y4,q1,q2⟩|⟨st',q1,q2⟩
 ·obtain ⟨d,hd⟩:=DK st' (q2 (.inr (by simpa using hw)));refine .yes d ?_;have f:=lY h [.l st'] d;rw[run_eq P.sum_of rfl];rw[← er] at q1;generalize ws.map D.str=L at *;simp[-dJ,-dG,i6,iG,q1,f,rd,hd]
 ·refine .no [.l st'] ?_ ?_
  ·rw[run_eq P.sum_of rfl];rw[← er] at q1;generalize ws.map D.str=L at *;simp[-dJ,-dG,i6,iG,q1]
  ·rw[kh X rfl];rw[← er] at q2;show rsS _ _ _ G fO.body _ h=_;have z:evS (runN T G (k+3)) G (.set 1 (.lst ah .nil)) (dN 5 [.p (.lst (ws.map .str))]) h=aa (.nx [lv (ws.map .str),rl h,af,af,af] (h++[.l []])):=by simp[dN]
   show rsS _ _ _ G (.seq (.set 1 (.lst ah .nil)) (.for [(2,"word")] .rev (.cons (.var 0) .nil) nN)) (dN 5 [.p (.lst (ws.map .str))]) h=_;rw[xs2,z];simp only;rw[xs9];have n0:gU (runN T G (k+3)) (fz T TX G (k+3)) (dk T) G (.cons (.var 0) .nil) [lv (ws.map .str),rl h,af,af,af] (h++[.l []])=af:=by rw[xa1];simp[rsA,xa2]
   rw[n0,CB,if_pos (show jK nN=ah from rfl)];have n1:evs (runN T G (k+3)) G (.cons (.var 0) .nil) [lv (ws.map .str),rl h,af,af,af] (h++[.l []])=aa ([.p (.lst (ws.map .str))],h++[.l []]):=by simp
   rw[n1,nB,yW (ds:=(ws.map D.str).reverse) rfl rfl];exact q2
end
theorem KH (t:az):∃ a:Int,(dU t eN).getD (.int 0)=.int a ∧ 0 ≤ a ∧ a ≤ 2:=by
 cases HN t with
 | zero h=>exact ⟨0,h,by decide,by decide⟩| one h=>exact ⟨1,by rw[h];rfl,by decide,by decide⟩| two h=>exact ⟨2,by rw[h];rfl,by decide,by decide⟩
theorem gY (ws:List az) (i:Nat) (hi:i < ws.length):fE (.lst (ws.map .str)) (.int i)=aa (.str ws[i]):=by show atP _ ((i:Nat):Int)=_;rw[jm];simp[hi]
theorem GH (ws:List az) (a b:Nat) (h1:a ≤ b) (h2:b ≤ ws.length):nF (.lst (ws.map .str)) (aa a) (aa b)=aa (.lst (((ws.drop a).take (b - a)).map .str)):=by
 have e:ws=ws.take a++(ws.drop a).take (b - a)++ws.drop b:=by
  rw[TH]
  conv=>lhs;rw[← TZ a ws]
  congr 1;have q:=(TZ (b - a) (ws.drop a)).symm;rw[List.drop_drop,show a+(b - a)=b by lia] at q;exact q
 have:=yG ((ws.take a).map .str) (((ws.drop a).take (b - a)).map .str) ((ws.drop b).map .str) (i:=a) (j:=b) (by simp;lia) (by simp;lia);rw[← TV,← TV,← e] at this;exact this
theorem fK (e:evS F G a s h=aa (.nx s' h')):evS F G (.seq a b) s h=evS F G b s' h':=by show iJ (evS F G a s h) (evS F G b)=_;rw[e];rfl
section
variable {T TX:FK → Option Fn}{G:az → Option W}
theorem KI (P:P80 T G) (F:FK → List W → HH → Option (W×HH)) (h:HH) (ws:List az) (hl:ws.length ≤ 4000):∀ (m i:Nat) (j:Int),ws.length - i ≤ m → i ≤ ws.length →
 ∃ (i':Nat) (j':Int),fh (BT.ev F G seC) (evS F G seB) (m+1) [lv (ws.map .str),iv i,iv j] h=aa (.nx [lv (ws.map .str),iv i',iv j'] h) ∧ i ≤ i' ∧ i' ≤ ws.length ∧ (0 < j → i < ws.length → i < i'):=by
 have ll:(ws.map D.str).length ≤ 100000:=by rw[SJ];lia
 have stop:∀ (m i:Nat) (j:Int),¬ (0 < j ∧ i < ws.length) → fh (BT.ev F G seC) (evS F G seB) (m+1) [lv (ws.map .str),iv i,iv j] h=aa (.nx [lv (ws.map .str),iv i,iv j] h):=λm i j c=>by
  have hc:BT.ev F G seC [lv (ws.map .str),iv i,iv j] h=aa (.p (.bl ai),h):=by
   by_cases c1:0 < j
   ·have c2:¬ (i:Int) < ((ws.map D.str).length:Int):=by rw[SJ];intro z;exact c ⟨c1,by lia⟩
    generalize ws.map D.str=L at *;simp[seC,c1,c2,ll]
   ·generalize ws.map D.str=L at *;simp[seC,c1]
  rw[fh,hc,kR];rfl
 intro m
 induction m with
 | zero =>
  intro i j h1 h2;exact ⟨i,j,stop 0 i j (by lia),SY _,h2,λ_ z=>by lia⟩
 | succ m ih =>
  intro i j h1 h2
  by_cases c:0 < j ∧ i < ws.length
  ·obtain ⟨c1,c2⟩:=c;obtain ⟨a,ha,a0,a2⟩:=KH ws[i];obtain ⟨i',j',q1,q2,q3,q4⟩:=ih (i+1) (j+(a - 1)) (by lia) (by lia);have x0:=gY ws i c2;have g:=dg eN ws[i] (.int 0) h;rw[ha] at g;have c3:(i:Int) < ((ws.map D.str).length:Int):=by rw[SJ];lia
   generalize ws[i]=t at *;have q1:fh (BT.ev F G seC) (evS F G seB) (m+1) [lv (ws.map .str),iv ((i:Int)+1),iv (j+(a - 1))] h=_:=q1;refine ⟨i',j',?_,by lia,q3,λ_ _=>by lia⟩;generalize ws.map D.str=L at *;have hc:BT.ev F G seC [lv L,iv i,iv j] h=aa (.p (.bl ah),h):=by simp[seC,c1,c3,ll]
   have hb:evS F G seB [lv L,iv i,iv j] h=aa (.nx [lv L,iv ((i:Int)+1),iv (j+(a - 1))] h):=by simp[-dG,seB,x0,P.INNER_COUNTS,g]
   rw[fh,hc,kR,kT,hb,dO,q1]
  exact ⟨i,j,stop (m+1) i j c,SY _,h2,λz1 z2=>absurd ⟨z1,z2⟩ c⟩
theorem u6 (P:P80 T G) (k:Nat) (ws:List az) (hl:ws.length ≤ 4000) (i:Nat) (hi:i < ws.length) (h:HH):∃ e:Nat,i < e ∧ e ≤ ws.length ∧ runN T G (k+1) "sum_end" [.p (.lst (ws.map .str)),.p (.int i)] h=aa (.p (.int e),h):=by obtain ⟨i',j',q1,q2,q3,q4⟩:=KI P (runN T G k) h ws hl 99999 i 1 (by lia) (by lia);refine ⟨i',q4 (by decide) hi,q3,?_⟩;rw[run_eq P.sum_end rfl];generalize ws.map D.str=L at *;have eq:i7=⟨["words","start"],["words","start","missing"],.seq (.set 2 (.cst (.int 1))) (.seq (.whl seC seB) (.ret (.var 1)))⟩:=rfl;rw[eq];simp[turns,q1,cT]
noncomputable def roA:E:=(.ite (.cmp .eq (.var 4) (.cst (.str "sum"))) (.call "sum_of" (Z9 (.slc (.var 1) (Z9 (.var 5)) (Z9 (.var 3))))) (.call "number_or_word" (Z9 (.idx (.var 1) (.var 5)))))
noncomputable def roE:E:=(.ite (.cmp .eq (.var 4) (.cst (.str "sum"))) (.call "sum_end" (Z8 (.var 1) (.var 5))) (.bin .add (.var 5) (.cst (.int 1))))
noncomputable def ly:S:=(.seq (.set 5 (.var 3)) (.seq (.ife (.cmp .eq (.var 5) (.bi .len ai (Z9 (.var 1)))) (.rai "NoText" (.var 0)) .nil) (.seq (.set 3 roE) (.ex (.me .append (.var 2) (Z9 roA))))))
theorem tF:roB=(.seq (.set 5 (.var 3))
 (.seq (.ife (.cmp .eq (.var 5) (.bi .len ai (.cons (.var 1) .nil))) .bad .nil)
 (.seq (.set 3 roE)
 (.ex (.me .append (.var 2) (.cons roA .nil)))))):=rfl
theorem GI (F:FK → List W → HH → Option (W×HH)) (s:Sl) (h:HH):evS F G ly s h=evS F G roB s h:=rfl
noncomputable def jb:Fn:=⟨["line"],["line","words","row","behind","form","start"], (.seq (.set 1 (.tx .split (Z8 (.var 0) (.cst (.str " "))))) (.seq (.set 2 (.lst ah (Z9 (.idx (.var 1) (.cst (.int 0)))))) (.seq (.set 3 (.cst (.int 1))) (.for [(4,"form")] .seq (Z9 (.tx .dget (Z7 (.glo "ROW_FORMS") (.idx (.var 1) (.cst (.int 0))) (.tup .nil)))) ly))))⟩
theorem GJ (P:P80 T G) (X:TX "sum_of"=aa fO) (k:Nat) (ln:az) (hln:GT ln) (ws:List az) (hg:∀ t∈ws,GT t) (hl:ws.length ≤ 4000) (b:Nat) (hb:b ≤ ws.length) (f:az) (x5:Option W) (acc:List D) (ha:acc.length < 90000) (h:HH) :
 (∃ (b':Nat) (d:D),b' ≤ ws.length ∧ evS (runN T G (k+4)) G roB [sv ln,lv (ws.map .str),rl h,iv b,sv f,x5] (h++[.l acc])=aa (.nx [sv ln,lv (ws.map .str),rl h,iv b',sv f,iv b] (h++[.l (acc++[d])]))) ∨
 (evS (runN T G (k+4)) G roB [sv ln,lv (ws.map .str),rl h,iv b,sv f,x5] (h++[.l acc])=af ∧ ∃ g,rsS (runN T G (k+4)) (fz T TX G (k+4)) (dk T) G ly [sv ln,lv (ws.map .str),rl h,iv b,sv f,x5] (h++[.l acc])=aa (SE "NoText",h++g)):=by
 have ll:(ws.map D.str).length ≤ 100000:=by rw[SJ];lia
 have lw:((ws.map D.str).length:Int)=ws.length:=by rw[SJ]
 have la:acc.length < 100000:=by lia
 have z1:∀ F:FK → List W → HH → Option (W×HH),evS F G (.set 5 (.var 3)) [sv ln,lv (ws.map .str),rl h,iv b,sv f,x5] (h++[.l acc])=aa (.nx [sv ln,lv (ws.map .str),rl h,iv b,sv f,iv b] (h++[.l acc])):=λF=>by simp
 by_cases c:b=ws.length
 ·refine .inr ⟨?_,[.l acc],?_⟩
  ·rw[tF];have cc:(b:Int)=((ws.map D.str).length:Int):=by rw[lw,c]
   generalize ws.map D.str=L at *;generalize roE=E1 at *;generalize roA=E2 at *;simp[cc,ll]
  ·have cc:(b:Int)=((ws.map D.str).length:Int):=by rw[lw,c]
   have hr:=hln.rpr;unfold ly;rw[xs2,z1];simp only;generalize ws.map D.str=L at *;generalize roE=E1 at *;generalize roA=E2 at *;have z2:BT.ev (runN T G (k+4)) G (.cmp .eq (.var 5) (.bi .len ai (.cons (.var 1) .nil))) [sv ln,lv L,rl h,iv b,sv f,iv b] (h++[.l acc])=aa (.p (.bl ah),h++[.l acc]):=by simp[cc,ll]
   have z3:evS (runN T G (k+4)) G (.ife (.cmp .eq (.var 5) (.bi .len ai (.cons (.var 1) .nil))) (.rai "NoText" (.var 0)) .nil) [sv ln,lv L,rl h,iv b,sv f,iv b] (h++[.l acc])=af:=by simp[cc,ll]
   rw[xs2,z3];simp only;rw[xs3,z2,qQ,xs1];simp[hr]
 ·have hb':b < ws.length:=by lia
  have cc:¬ (b:Int)=((ws.map D.str).length:Int):=by rw[lw];lia
  have z3:∀ x:S,evS (runN T G (k+4)) G (.ife (.cmp .eq (.var 5) (.bi .len ai (.cons (.var 1) .nil))) x .nil) [sv ln,lv (ws.map .str),rl h,iv b,sv f,iv b] (h++[.l acc])=aa (.nx [sv ln,lv (ws.map .str),rl h,iv b,sv f,iv b] (h++[.l acc])):=λx=>by generalize ws.map D.str=L at *;simp[cc,ll]
  by_cases cf:f="sum"
  ·obtain ⟨e,e1,e2,e3⟩:=u6 P (k+3) ws hl b hb' (h++[.l acc]);have s0:=GH ws b e (by lia) e2;have hne:(ws.drop b).take (e - b)≠[]:=by intro z;have:=congrArg WW z;simp only[Ui,UD,Uo] at this;lia
   have hgs:∀ t∈(ws.drop b).take (e - b),GT t:=λt ht=>hg t (Vd (Vc ht));have hls:((ws.drop b).take (e - b)).length ≤ 4000:=by rw[Ui,UD];lia
   have zc:∀ b2:Option W,BT.ev (runN T G (k+4)) G (.cmp .eq (.var 4) (.cst (.str "sum"))) [sv ln,lv (ws.map .str),rl h,b2,sv f,iv b] (h++[.l acc])=aa (.p (.bl ah),h++[.l acc]):=λb2=>by subst cf;simp
   have z4:evS (runN T G (k+4)) G (.set 3 roE) [sv ln,lv (ws.map .str),rl h,iv b,sv f,iv b] (h++[.l acc])=aa (.nx [sv ln,lv (ws.map .str),rl h,iv e,sv f,iv b] (h++[.l acc])):=by have:=zc (aa (.p (.int b)));generalize ws.map D.str=L at *;subst cf;simp[roE,e3]
   have za:evs (runN T G (k+4)) G (.cons (.slc (.var 1) (.cons (.var 5) .nil) (.cons (.var 3) .nil)) .nil) [sv ln,lv (ws.map .str),rl h,iv e,sv f,iv b] (h++[.l acc])=aa ([.p (.lst (((ws.drop b).take (e - b)).map .str))],h++[.l acc]):=by generalize ws.map D.str=L at *;generalize ((ws.drop b).take (e - b)).map D.str=L2 at *;simp[-kP,s0]
   cases pP P X k _ hne hgs hls (h++[.l acc]) with
   | yes d ed =>
    refine .inl ⟨e,d,e2,?_⟩;have zA:BT.ev (runN T G (k+4)) G roA [sv ln,lv (ws.map .str),rl h,iv e,sv f,iv b] (h++[.l acc])=aa (.p d,h++[.l acc]):=by unfold roA;rw[DB (zc _)];show bnd (evs _ _ _ _ _) _=_;rw[za,cZ];exact ed
    rw[tF];generalize ws.map D.str=L at *;generalize roE=E1 at *;generalize roA=E2 at *;rw[(fK (z1 _)),(fK (z3 _)),(fK z4)];simp[zA,la]
   | no g ed xd =>
    have zA:BT.ev (runN T G (k+4)) G roA [sv ln,lv (ws.map .str),rl h,iv e,sv f,iv b] (h++[.l acc])=af:=by unfold roA;rw[DB (zc _)];show bnd (evs _ _ _ _ _) _=_;rw[za,cZ];exact ed
    have zx:rsE (runN T G (k+4)) (fz T TX G (k+4)) (dk T) G roA [sv ln,lv (ws.map .str),rl h,iv e,sv f,iv b] (h++[.l acc])=aa (SE "NoText",(h++[.l acc])++g):=by unfold roA;rw[xe8,zc,qQ,xe4,za,nB];exact xd
    refine .inr ⟨?_,[.l acc]++g,?_⟩
    ·rw[tF];generalize ws.map D.str=L at *;generalize roE=E1 at *;generalize roA=E2 at *;rw[(fK (z1 _)),(fK (z3 _)),(fK z4)];simp[zA]
    ·unfold ly;rw[xs2,z1];simp only;rw[xs2,z3];simp only;rw[xs2,z4];simp only;rw[xs4,xeQ];have zv:BT.ev (runN T G (k+4)) G (.var 2) [sv ln,lv (ws.map .str),rl h,iv e,sv f,iv b] (h++[.l acc])=aa (.r h.length,h++[.l acc]):=by simp
     rw[zv];show (if oM (.r h.length) (h++[.l acc])=ah then gU _ _ _ _ _ _ _ else af)=_;rw[if_pos (by simp),xa1,zA];show rsE _ _ _ _ roA _ _=_;rw[zx,TH]
  ·obtain ⟨d,hd,_⟩:=yV P (k+2) (hg ws[b] (UX hb'));refine .inl ⟨b+1,d,by lia,?_⟩;have i0:=gY ws b hb';have hd:=hd (h++[.l acc]);generalize ws[b]=t at *;rw[tF];generalize ws.map D.str=L at *;rw[(fK (z1 _)),(fK (z3 _))];simp[-dG,roE,roA,cf,i0,hd,la]
end
section
variable {T TX:FK → Option Fn}{G:az → Option W}
theorem DL (P:P80 T G) (X:TX "sum_of"=aa fO) (k:Nat) (ln:az) (hln:GT ln) (ws:List az) (hg:∀ t∈ws,GT t) (hl:ws.length ≤ 4000) (h:HH):∀ (fs:List az) (b:Nat) (x4 x5:Option W) (acc:List D),b ≤ ws.length → acc.length+fs.length ≤ 80000 →
 (∃ y3 y4 y5 acc',dJ (evS (runN T G (k+4)) G roB) [(4,"form")] (fs.map .str) [sv ln,lv (ws.map .str),rl h,iv b,x4,x5] (h++[.l acc])=aa (.nx [sv ln,lv (ws.map .str),rl h,y3,y4,y5] (h++[.l acc'])) ∧ acc'.length=acc.length+fs.length) ∨
 (dJ (evS (runN T G (k+4)) G roB) [(4,"form")] (fs.map .str) [sv ln,lv (ws.map .str),rl h,iv b,x4,x5] (h++[.l acc])=af ∧ ∃ g,lV (evS (runN T G (k+4)) G ly) (rsS (runN T G (k+4)) (fz T TX G (k+4)) (dk T) G ly) [(4,"form")] (fs.map .str) [sv ln,lv (ws.map .str),rl h,iv b,x4,x5] (h++[.l acc])=aa (SE "NoText",h++g))
 | [],b,x4,x5,acc,_,_=>.inl ⟨_,_,_,acc,rfl,rfl⟩
 | f::fs,b,x4,x5,acc,hb,ha=>by
  rw[SX] at ha;have st:dJ (evS (runN T G (k+4)) G roB) [(4,"form")] ((f::fs).map .str) [sv ln,lv (ws.map .str),rl h,iv b,x4,x5] (h++[.l acc])=fP (evS (runN T G (k+4)) G roB [sv ln,lv (ws.map .str),rl h,iv b,sv f,x5] (h++[.l acc])) (dJ (evS (runN T G (k+4)) G roB) [(4,"form")] (fs.map .str)):=rfl;have sx:lV (evS (runN T G (k+4)) G ly) (rsS (runN T G (k+4)) (fz T TX G (k+4)) (dk T) G ly) [(4,"form")] ((f::fs).map .str) [sv ln,lv (ws.map .str),rl h,iv b,x4,x5] (h++[.l acc])=CD (evS (runN T G (k+4)) G ly [sv ln,lv (ws.map .str),rl h,iv b,sv f,x5] (h++[.l acc])) (lV (evS (runN T G (k+4)) G ly) (rsS (runN T G (k+4)) (fz T TX G (k+4)) (dk T) G ly) [(4,"form")] (fs.map .str)) (rsS (runN T G (k+4)) (fz T TX G (k+4)) (dk T) G ly [sv ln,lv (ws.map .str),rl h,iv b,sv f,x5] (h++[.l acc])):=rfl;rw[st,sx,GI];rcases GJ P X k ln hln ws hg hl b hb f x5 acc (by lia) h with ⟨b',d,hb',e⟩|⟨e,g,ex⟩
  ·rw[e,dO];rcases DL P X k ln hln ws hg hl h fs b' (aa (.p (.str f))) (aa (.p (.int b))) (acc++[d]) hb' (by simp;lia) with ⟨y3,y4,y5,acc',q1,q2⟩|⟨q1,g,q2⟩
   ·refine .inl ⟨y3,y4,y5,acc',q1,?_⟩;rw[q2,SN,SX,SX,Uo];lia
   exact .inr ⟨q1,g,q2⟩
  ·rw[e];exact .inr ⟨rfl,g,ex⟩
theorem GK (w:az):∃ fs:List az,(dU w nL).getD (.tup [])=.tup (fs.map .str) ∧ fs.length ≤ 2:=by
 rw[Dq];cases e:kH w with
 | none=>exact ⟨[],rfl,by decide⟩| some fs=>exact ⟨fs,rfl,sW e⟩
theorem wH (P:P80 T G) (X:TX "sum_of"=aa fO) (Y:TX "row_of"=aa jb) (k:Nat) (ln:az) (hln:GT ln) (h:HH):RdO T TX G (k+5) "row_of" [.p (.str ln)] h:=by
 have ls:=hln.len;have sp:=λh=>fJ (x:=ln) (by lia) (y:=" ") rfl h;have hws:Txt.split ln " "≠[]:=fS _ _;have hg:∀ t∈Txt.split ln " ",GT t:=by rw[gj];exact hln.piece
 have hl:(Txt.split ln " ").length ≤ 4000:=by rw[gj];exact SZ hln.count (by decide)
 generalize Txt.split ln " "=ws at *;have hp:0 < ws.length:=List.length_pos_iff.mpr hws;have i0:=gY ws 0 hp;obtain ⟨fs,gf,fl⟩:=GK ws[0];have g0:=λh=>dg nL ws[0] (.tup []) h;rw[gf] at g0;have i0:fE (.lst (ws.map .str)) (.int 0)=aa (.str ws[0]):=i0;generalize ws[0]=w at *;have ev0:∀ F:FK → List W → HH → Option (W×HH),∀ x:S,evS F G (.seq (.set 1 (.tx .split (.cons (.var 0) (.cons (.cst (.str " ")) .nil)))) (.seq (.set 2 (.lst ah (.cons (.idx (.var 1) (.cst (.int 0))) .nil))) (.seq (.set 3 (.cst (.int 1))) x))) [sv ln,af,af,af,af,af] h =
  evS F G x [sv ln,lv (ws.map .str),rl h,iv 1,af,af] (h++[.l [.str w]]):=λF x=>by
  generalize ws.map D.str=L at *;have a1:evS F G (.set 1 (.tx .split (.cons (.var 0) (.cons (.cst (.str " ")) .nil)))) [sv ln,af,af,af,af,af] h=aa (.nx [sv ln,lv L,af,af,af,af] h):=by simp[sp]
  have a2:evS F G (.set 2 (.lst ah (.cons (.idx (.var 1) (.cst (.int 0))) .nil))) [sv ln,lv L,af,af,af,af] h=aa (.nx [sv ln,lv L,rl h,af,af,af] (h++[.l [.str w]])):=by simp[-dG,i0]
  have a3:evS F G (.set 3 (.cst (.int 1))) [sv ln,lv L,rl h,af,af,af] (h++[.l [.str w]])=aa (.nx [sv ln,lv L,rl h,iv 1,af,af] (h++[.l [.str w]])):=by simp
  rw[fK a1,fK a2,fK a3]
 have es:∀ F:FK → List W → HH → Option (W×HH),evs F G (.cons (.tx .dget (.cons (.glo "ROW_FORMS") (.cons (.idx (.var 1) (.cst (.int 0))) (.cons (.tup .nil) .nil)))) .nil) [sv ln,lv (ws.map .str),rl h,iv 1,af,af] (h++[.l [.str w]])=aa ([.p (.tup (fs.map .str))],h++[.l [.str w]]):=λF=>by generalize ws.map D.str=L at *;generalize fs.map D.str=L2 at *;simp[-dG,i0,P.ROW_FORMS,g0]
 rcases DL P X k ln hln ws hg hl h fs 1 af af [.str w] (by lia) (by simp;lia) with ⟨y3,y4,y5,acc',q1,q2⟩|⟨q1,g,q2⟩
 ·refine .yes (.tup acc') ?_;have f:=lY h [.l acc'] (.tup acc');have l1:acc'.length ≤ 100000:=by rw[q2,Uk];lia
  rw[run_eq P.row_of rfl];show gS (evS _ G i8.body [sv ln,af,af,af,af,af] h) _=_;show gS (evS _ G (.seq _ (.seq _ (.seq _ (.seq (.for [(4,"form")] .seq _ roB) (.ret (.bi .tuple ai (.cons (.var 2) .nil))))))) _ _) _=_;rw[ev0];have ef:evS (runN T G (k+4)) G (.for [(4,"form")] .seq (.cons (.tx .dget (.cons (.glo "ROW_FORMS") (.cons (.idx (.var 1) (.cst (.int 0))) (.cons (.tup .nil) .nil)))) .nil) roB) [sv ln,lv (ws.map .str),rl h,iv 1,af,af] (h++[.l [.str w]])=aa (.nx [sv ln,lv (ws.map .str),rl h,y3,y4,y5] (h++[.l acc'])):=by show bnd (evs _ _ _ _ _) _=_;rw[es,cZ];exact q1
  rw[fK ef];generalize ws.map D.str=L at *;simp[l1,f,rd]
 ·refine .no g ?_ ?_
  ·rw[run_eq P.row_of rfl];show gS (evS _ G (.seq _ (.seq _ (.seq _ (.seq (.for [(4,"form")] .seq _ roB) (.ret (.bi .tuple ai (.cons (.var 2) .nil))))))) _ _) _=_;rw[show dN i8.ns.length [.p (.str ln)]=[sv ln,af,af,af,af,af] from rfl,ev0];have ef:evS (runN T G (k+4)) G (.for [(4,"form")] .seq (.cons (.tx .dget (.cons (.glo "ROW_FORMS") (.cons (.idx (.var 1) (.cst (.int 0))) (.cons (.tup .nil) .nil)))) .nil) roB) [sv ln,lv (ws.map .str),rl h,iv 1,af,af] (h++[.l [.str w]])=af:=by show bnd (evs _ _ _ _ _) _=_;rw[es,cZ];exact q1
   show gS (iJ (evS _ _ _ _ _) _) _=_;rw[ef];rfl
  ·rw[kh Y rfl];show rsS _ _ _ G (.seq (.set 1 (.tx .split (.cons (.var 0) (.cons (.cst (.str " ")) .nil)))) (.seq (.set 2 (.lst ah (.cons (.idx (.var 1) (.cst (.int 0))) .nil))) (.seq (.set 3 (.cst (.int 1))) (.for [(4,"form")] .seq (.cons (.tx .dget (.cons (.glo "ROW_FORMS") (.cons (.idx (.var 1) (.cst (.int 0))) (.cons (.tup .nil) .nil)))) .nil) ly)))) [sv ln,af,af,af,af,af] h=_;have a1:evS (runN T G (k+4)) G (.set 1 (.tx .split (.cons (.var 0) (.cons (.cst (.str " ")) .nil)))) [sv ln,af,af,af,af,af] h=aa (.nx [sv ln,lv (ws.map .str),af,af,af,af] h):=by generalize ws.map D.str=L at *;simp[sp]
   have a2:evS (runN T G (k+4)) G (.set 2 (.lst ah (.cons (.idx (.var 1) (.cst (.int 0))) .nil))) [sv ln,lv (ws.map .str),af,af,af,af] h=aa (.nx [sv ln,lv (ws.map .str),rl h,af,af,af] (h++[.l [.str w]])):=by generalize ws.map D.str=L at *;simp[-dG,i0]
   have a3:evS (runN T G (k+4)) G (.set 3 (.cst (.int 1))) [sv ln,lv (ws.map .str),rl h,af,af,af] (h++[.l [.str w]])=aa (.nx [sv ln,lv (ws.map .str),rl h,iv 1,af,af] (h++[.l [.str w]])):=by simp
   rw[xs2,a1];simp only;rw[xs2,a2];simp only;rw[xs2,a3];simp only;rw[xs9];have n0:gU (runN T G (k+4)) (fz T TX G (k+4)) (dk T) G (.cons (.tx .dget (.cons (.glo "ROW_FORMS") (.cons (.idx (.var 1) (.cst (.int 0))) (.cons (.tup .nil) .nil)))) .nil) [sv ln,lv (ws.map .str),rl h,iv 1,af,af] (h++[.l [.str w]])=af:=by rw[xa1];unfold rsA;split;rfl;rfl
   rw[n0,CB,if_pos (show jK ly=ah from rfl),es,nB,yW (ds:=fs.map .str) rfl rfl];exact q2
end
noncomputable def u9:E:=(.or (.not (.call "is_sum" (Z9 (.var 1)))) (.cmp .ne (.call "written_sum" (Z9 (.var 1))) (.var 0)))
noncomputable def vc:E:=(.or (.not (.call "is_program" (Z9 (.var 1)))) (.cmp .ne (.call "written" (Z9 (.var 1))) (.var 0)))
noncomputable def rpE:E:=(.comp ai .seq (Z9 (.slc (.tx .split (Z8 (.var 0) (.cst (.str "\n")))) .nil (Z9 (.neg (.cst (.int 1)))))) ["line"] [] .nil (.call "row_of" (Z9 (.var 0))))
noncomputable def iN:Fn:=⟨["text"],["text","term"],(.seq (.set 1 (.call "sum_of" (Z9 (.tx .split (Z8 (.var 0) (.cst (.str " "))))))) (.ife u9 (.rai "NoText" (.var 0)) .nil))⟩
noncomputable def nZ:Fn:=⟨["text"],["text","program"],(.seq (.set 1 (.bi .tuple ai (Z9 rpE))) (.ife vc (.rai "NoText" (.var 0)) .nil))⟩
structure X81 (TX:FK → Option Fn):Prop where
 sum_of:TX "sum_of"=aa fO
 row_of:TX "row_of"=aa jb
 read_sum:TX "read_sum"=aa iN
 read:TX "read"=aa nZ
inductive RdS (T TX:FK → Option Fn) (G:az → Option W) (k:Nat) (f:az) (x:az) (h:HH) (ok:D → Prop):Prop where
 | yes (d:D) (o:ok d) (e:runN T G k (.f f) [.p (.str x)] h=aa (.p d,h))
 | no (o:∀ d,¬ ok d) (g:HH) (e:runN T G k (.f f) [.p (.str x)] h=af) (r:fz T TX G k (.f f) [.p (.str x)] h=aa (SE "NoText",h++g))
def IsS (x:az) (d:D):Prop:=∃ s:Sm,mY s ∧ x=s.txt ∧ d=s.enc
def IsP (x:az) (d:D):Prop:=∃ pg:Pg,pg.length ≤ 20 ∧ (∀ r∈pg,r.ok pg.length) ∧ x=pgT pg ∧ d=gy pg
section
variable {T TX:FK → Option Fn}{G:az → Option W}
theorem GL (P:P80 T G) (k:Nat) (x:az) (d:D) (hn:∀ d,¬ IsS x d) (h:HH):BT.ev (runN T G (k+4)) G u9 [sv x,aa (.p d)] h=aa (.p (.bl ah),h):=by
 have a:=jQ (iU P) k d h;cases c:nM d with
 | false =>
  rw[c] at a;simp[u9,a]
 | true =>
  rw[c] at a;obtain ⟨s,hs,rfl⟩:=iC c;have b:=eg P (k+2) hs.1 (by have:=hs.2;lia) h;have ne:¬ s.txt=x:=λe=>hn _ ⟨s,hs,e.symm,rfl⟩;generalize s.txt=TXT at *;generalize s.enc=EN at *;simp[u9,a,b,ne]
theorem tG (P:P80 T G) (X:X81 TX) (k:Nat) (x:az) (hx:GT x) (h:HH):RdS T TX G (k+5) "read_sum" x h (IsS x):=by
 by_cases c:∃ d,IsS x d
 ·obtain ⟨d,s,hs,rfl,rfl⟩:=c;exact .yes s.enc ⟨s,hs,rfl,rfl⟩ (DA P k hs h)
 ·have hn:∀ d,¬ IsS x d:=λd z=>c ⟨d,z⟩;have ls:=hx.len;have sp:=λh=>fJ (x:=x) (by lia) (y:=" ") rfl h;have hws:Txt.split x " "≠[]:=fS _ _;have hg:∀ t∈Txt.split x " ",GT t:=by rw[gj];exact hx.piece
  have hl:(Txt.split x " ").length ≤ 4000:=by rw[gj];exact SZ hx.count (by decide)
  have so:=pP P X.sum_of k _ hws hg hl h;generalize (Txt.split x " ").map D.str=L at *;have hr:=hx.rpr;have ea:evs (runN T G (k+4)) G (.cons (.tx .split (.cons (.var 0) (.cons (.cst (.str " ")) .nil))) .nil) [sv x,af] h=aa ([.p (.lst L)],h):=by simp[sp]
  have eb:iA=⟨["text"],["text","term"],(.seq (.set 1 (.call "sum_of" (.cons (.tx .split (.cons (.var 0) (.cons (.cst (.str " ")) .nil))) .nil))) (.seq (.ife u9 .bad .nil) (.ret (.var 1))))⟩:=rfl;cases so with
  | no g e r =>
   have es:evS (runN T G (k+4)) G (.set 1 (.call "sum_of" (.cons (.tx .split (.cons (.var 0) (.cons (.cst (.str " ")) .nil))) .nil))) [sv x,af] h=af:=by show bnd (bnd (evs _ _ _ _ _) _) _=_;rw[ea,cZ];show bnd (runN T G (k+4) (.f "sum_of") [.p (.lst L)] h) _=_;rw[e];rfl
   refine .no hn g ?_ ?_
   ·rw[run_eq P.read_sum rfl,eb];show gS (iJ (evS _ _ _ _ _) _) _=_;rw[show dN (["text","term"]:List az).length [W.p (.str x)]=[sv x,af] from rfl,es];rfl
   ·rw[kh X.read_sum rfl];show rsS _ _ _ G (.seq (.set 1 (.call "sum_of" (.cons (.tx .split (.cons (.var 0) (.cons (.cst (.str " ")) .nil))) .nil))) (.ife u9 (.rai "NoText" (.var 0)) .nil)) [sv x,af] h=_;rw[xs2,es];simp only;rw[xs6,xe4,ea,nB];exact r
  | yes d e =>
   have es:evS (runN T G (k+4)) G (.set 1 (.call "sum_of" (.cons (.tx .split (.cons (.var 0) (.cons (.cst (.str " ")) .nil))) .nil))) [sv x,af] h=aa (.nx [sv x,aa (.p d)] h):=by show bnd (bnd (evs _ _ _ _ _) _) _=_;rw[ea,cZ];show bnd (runN T G (k+4) (.f "sum_of") [.p (.lst L)] h) _=_;rw[e];rfl
   have ec:=GL P k x d hn h;refine .no hn [] ?_ ?_
   ·rw[run_eq P.read_sum rfl,eb];show gS (evS _ _ (.seq _ _) [sv x,af] h) _=_;rw[fK es];generalize u9=CC at *;simp[ec]
   ·rw[kh X.read_sum rfl];show rsS _ _ _ G (.seq (.set 1 (.call "sum_of" (.cons (.tx .split (.cons (.var 0) (.cons (.cst (.str " ")) .nil))) .nil))) (.ife u9 (.rai "NoText" (.var 0)) .nil)) [sv x,af] h=_;rw[xs2,es];simp only;rw[xs3,ec,qQ,xs1];simp[hr]
theorem DM (P:P80 T G) (X:X81 TX) (k:Nat) (h:HH):∀ ls:List az,(∀ t∈ls,GT t) →
 (∃ ds,dj (dI (evs (runN T G (k+7)) G .nil) (BT.ev (runN T G (k+7)) G (.call "row_of" (.cons (.var 0) .nil))) []) 1 (ls.map .str) h=aa (ds,h) ∧ ds.length=ls.length) ∨
 (dj (dI (evs (runN T G (k+7)) G .nil) (BT.ev (runN T G (k+7)) G (.call "row_of" (.cons (.var 0) .nil))) []) 1 (ls.map .str) h=af ∧ ∃ g,kL (dI (evs (runN T G (k+7)) G .nil) (BT.ev (runN T G (k+7)) G (.call "row_of" (.cons (.var 0) .nil))) []) (λxs h=>rsE (runN T G (k+7)) (fz T TX G (k+7)) (dk T) G (.call "row_of" (.cons (.var 0) .nil)) (xs.map fR++[]) h) 1 (ls.map .str) h=aa (SE "NoText",h++g))
 | [],_=>.inl ⟨[],rfl,rfl⟩
 | t::ls,hg=>by
  have st:dj (dI (evs (runN T G (k+7)) G .nil) (BT.ev (runN T G (k+7)) G (.call "row_of" (.cons (.var 0) .nil))) []) 1 ((t::ls).map .str) h=bnd (bnd (runN T G (k+7) (.f "row_of") [.p (.str t)] h) gJ) (kG (dj (dI (evs (runN T G (k+7)) G .nil) (BT.ev (runN T G (k+7)) G (.call "row_of" (.cons (.var 0) .nil))) []) 1 (ls.map .str))):=rfl;have ki:dI (evs (runN T G (k+7)) G .nil) (BT.ev (runN T G (k+7)) G (.call "row_of" (.cons (.var 0) .nil))) [] [.str t] h=bnd (runN T G (k+7) (.f "row_of") [.p (.str t)] h) gJ:=rfl;have sx:∀ f g,kL f g 1 ((t::ls).map .str) h=(match f [.str t] h with|some (_,h')=>kL f g 1 (ls.map .str) h'|none=>g [.str t] h):=λf g=>rfl;rw[st,sx,ki];cases wH P X.sum_of X.row_of (k+2) t (hg t SG) h with
  | yes d e =>
   have e:runN T G (k+7) (.f "row_of") [.p (.str t)] h=aa (.p d,h):=e;rw[e,cZ];have ek:gJ (.p d) h=aa (aa d,h):=rfl;rw[ek,cZ,gc];rcases DM P X k h ls (λu hu=>hg u (SI _ hu)) with ⟨ds,q1,q2⟩|⟨q1,g,q2⟩
   ·rw[q1];exact .inl ⟨d::ds,rfl,by rw[SX,SX,q2]⟩
   ·rw[q1];exact .inr ⟨rfl,g,q2⟩
  | no g e r =>
   have e:runN T G (k+7) (.f "row_of") [.p (.str t)] h=af:=e;have r:fz T TX G (k+7) (.f "row_of") [.p (.str t)] h=aa (SE "NoText",h++g):=r;rw[e];refine .inr ⟨rfl,g,?_⟩;show rsE _ _ _ _ (.call "row_of" (.cons (.var 0) .nil)) [sv t] h=_;rw[xe4,show evs (runN T G (k+7)) G (.cons (.var 0) .nil) [sv t] h=aa ([.p (.str t)],h) from rfl,nB];exact r
theorem GM (P:P80 T G) (k:Nat) (x:az) (d:D) (hn:∀ d,¬ IsP x d) (h:HH):BT.ev (runN T G (k+7)) G vc [sv x,aa (.p d)] h=aa (.p (.bl ah),h):=by
 have a:=gX (iU P) k d h;cases c:nA d with
 | false =>
  rw[c] at a;simp[vc,a]
 | true =>
  rw[c] at a;obtain ⟨pg,hl,hok,rfl⟩:=qP c;have b:=gk P (n:=pg.length) (by lia) (by lia) hok (k+3) h;have ne:¬ pgT pg=x:=λe=>hn _ ⟨pg,hl,hok,e.symm,rfl⟩;generalize pgT pg=TXT at *;generalize gy pg=EN at *;simp[vc,a,b,ne]
theorem pQ (x:az):∃ ls t,Txt.split x "\n"=ls++[t]:=u5 (fS _ _)
theorem DN (P:P80 T G) (X:X81 TX) (k:Nat) (x:az) (hx:GT x) (h:HH):RdS T TX G (k+8) "read" x h (IsP x):=by
 by_cases c:∃ d,IsP x d
 ·obtain ⟨d,pg,hl,hok,rfl,rfl⟩:=c;exact .yes (gy pg) ⟨pg,hl,hok,rfl,rfl⟩ (Kz P hl hok k h)
 ·have hn:∀ d,¬ IsP x d:=λd z=>c ⟨d,z⟩;have ll:=hx.len;have sp:=λh=>fJ (x:=x) (by lia) (y:="\n") rfl h;obtain ⟨ls,t,el⟩:=pQ x;have hg:∀ t∈ls,GT t:=λu hu=>by have:=hx.piece (c:=10) u;rw[← jO,el] at this;exact this (T4 _ hu)
  have hl:ls.length ≤ 4000:=by have:=hx.count (c:=10);rw[← jO,el,SN] at this;lia
  have s0:=pM (ls.map .str) (.str t);rw[el,TV] at sp;have hr:=hx.rpr;have ea:evs (runN T G (k+7)) G (.cons (.slc (.tx .split (.cons (.var 0) (.cons (.cst (.str "\n")) .nil))) .nil (.cons (.neg (.cst (.int 1))) .nil)) .nil) [sv x,af] h=aa ([.p (.lst (ls.map .str))],h):=by rw[show [t].map D.str=[.str t] from rfl] at sp;generalize ls.map D.str++[D.str t]=L at *;generalize ls.map D.str=L2 at *;simp[-kP,sp,s0]
  have eb:pH=⟨["text"],["text","program"],(.seq (.set 1 (.bi .tuple ai (.cons rpE .nil))) (.seq (.ife vc .bad .nil) (.ret (.var 1))))⟩:=rfl;rcases DM P X k h ls hg with ⟨ds,q1,q2⟩|⟨q1,g,q2⟩
  ·have ec:BT.ev (runN T G (k+7)) G rpE [sv x,af] h=aa (.p (.lst ds),h) :=
    cgo (ws:=[.p (.lst (ls.map .str))]) (h1:=h) (fs:=[]) ea rfl rfl rfl q1 (by rw[q2];lia)
   have l2:ds.length ≤ 100000:=by rw[q2];lia
   have es:evS (runN T G (k+7)) G (.set 1 (.bi .tuple ai (.cons rpE .nil))) [sv x,af] h=aa (.nx [sv x,tv ds] h):=by generalize rpE=EE at *;simp[ec,l2]
   have e2:=GM P k x (.tup ds) hn h;refine .no hn [] ?_ ?_
   ·rw[run_eq P.read rfl,eb];show gS (evS _ _ (.seq _ _) [sv x,af] h) _=_;rw[fK es];generalize vc=CC at *;simp[e2]
   ·rw[kh X.read rfl];show rsS _ _ _ G (.seq (.set 1 (.bi .tuple ai (.cons rpE .nil))) (.ife vc (.rai "NoText" (.var 0)) .nil)) [sv x,af] h=_;rw[xs2,es];simp only;rw[xs3,e2,qQ,xs1];simp[hr]
  ·have ec:BT.ev (runN T G (k+7)) G rpE [sv x,af] h=af:=by show bnd (evs _ _ _ _ _) _=_;rw[ea,cZ];refine (show _=bnd (dj (dI (evs (runN T G (k+7)) G .nil) (BT.ev (runN T G (k+7)) G (.call "row_of" (.cons (.var 0) .nil))) []) 1 (ls.map .str) h) (iy ai) from rfl).trans ?_;rw[q1];rfl
   have es:evS (runN T G (k+7)) G (.set 1 (.bi .tuple ai (.cons rpE .nil))) [sv x,af] h=af:=by generalize rpE=EE at *;simp[ec]
   refine .no hn g ?_ ?_
   ·rw[run_eq P.read rfl,eb];show gS (iJ (evS _ _ _ [sv x,af] h) _) _=_;rw[es];rfl
   ·rw[kh X.read rfl];show rsS _ _ _ G (.seq (.set 1 (.bi .tuple ai (.cons rpE .nil))) (.ife vc (.rai "NoText" (.var 0)) .nil)) [sv x,af] h=_;rw[xs2,es];simp only;rw[xs6,xe3,xa1,ec];show rsE _ _ _ _ rpE _ _=_;unfold rpE;rw[xeC,ea,nB];show (if iG [W.p (.lst (ls.map .str))]=ah ∧ (ls.map D.str).length ≤ lim then _ else af)=_;rw[if_pos ⟨rfl,by rw[SJ];exact SZ hl (by decide)⟩];exact q2
end
noncomputable def Ax (e:E) (x:az):E:=(.cmp .eq (.comp ai .chs (.cons e .nil) [x] [] (.cons (.tx .ninS (.cons (.var 0) (.cons (.cst (.str "0123456789")) .nil))) .nil) (.var 0)) (.lst ai .nil))
noncomputable def saN:E:=(.tx .dget (Z7 (.dlit [("cell",(.int 1)),("add",(.int 2)),("sub",(.int 2)),("mul",(.int 2)),("less",(.int 2))]) (.idx (.var 0) (.var 1)) (.cst (.int 0))))
noncomputable def saB:S:=(.seq (.set 6 (.call "_law_sum_at" (Z8 (.var 0) (.var 4)))) (.seq (.ife (.cmp .isN (.var 6) (.cst .non)) (.ret (.cst .non)) .nil) (.seq (.set 3 (.bin .add (.var 3) (.tup (Z9 (.idx (.var 6) (.cst (.int 0))))))) (.set 4 (.idx (.var 6) (.cst (.int 1)))))))
noncomputable def saC:E:=(.or (.cmp .ge (.var 1) (.bi .len ai (Z9 (.var 0)))) (.cmp .eq (.idx (.var 0) (.var 1)) (.cst (.str ""))))
noncomputable def saR:E:=(.tup (Z8 (.tup (Z8 (.cst (.str "num")) (.tx .intS (Z9 (.idx (.var 0) (.var 1)))))) (.bin .add (.var 1) (.cst (.int 1)))))
noncomputable def saZ:E:=(.tup (Z8 (.ite (.cmp .gt (.var 2) (.cst (.int 0))) (.var 3) (.tup (Z8 (.cst (.str "name")) (.idx (.var 0) (.var 1))))) (.var 4)))
noncomputable def fT:Fn:=⟨["_law_words","_law_at"],["_law_words","_law_at","_law_size","_law_found","_law_place","_law_k","_law_inner"], (.seq (.ife saC (.ret (.cst .non)) .nil) (.seq (.ife (Ax (.idx (.var 0) (.var 1)) "_law_sign") (.ret saR) .nil) (.seq (.set 2 saN) (.seq (.set 3 (.tup (Z9 (.idx (.var 0) (.var 1))))) (.seq (.set 4 (.bin .add (.var 1) (.cst (.int 1)))) (.seq (.for [(5,"_law_k")] .rng1 (Z9 (.var 2)) saB) (.ret saZ)))))))⟩
noncomputable def gP (x:az):Bool:=x.cps.toList.all λc=>Txt.contains "0123456789" ⟨#[c]⟩
section
variable {T TX:FK → Option Fn}{G:az → Option W}
theorem GN (xs:List D):eqv (.lst xs) (.lst [])=decide (xs=[]):=by cases xs<;>simp
theorem vd (F:FK → List W → HH → Option (W×HH)) (h:HH):∀ l:List Nat,dj (dI (evs F G (.cons (.tx .ninS (.cons (.var 0) (.cons (.cst (.str "0123456789")) .nil))) .nil)) (BT.ev F G (.var 0)) []) 1 (l.map λc=>.str ⟨#[c]⟩) h=aa ((l.filter λc=>!Txt.contains "0123456789" ⟨#[c]⟩).map (λc=>.str ⟨#[c]⟩),h)
 | []=>rfl
 | c::l=>by
  have q:=vd F h l;have el:dI (evs F G (.cons (.tx .ninS (.cons (.var 0) (.cons (.cst (.str "0123456789")) .nil))) .nil)) (BT.ev F G (.var 0)) [] [.str ⟨#[c]⟩] h=aa (if Txt.contains "0123456789" ⟨#[c]⟩ then af else aa (.str ⟨#[c]⟩),h):=by
   have k:kTx .ninS [.p (.str ⟨#[c]⟩),.p (.str "0123456789")] h=aa (.p (.bl (!Txt.contains "0123456789" ⟨#[c]⟩)),h):=rfl;cases b:Txt.contains "0123456789" ⟨#[c]⟩ with
   | _=>rw[b] at k;simp[k,fR]
  have st:∀ K:List D → HH → Option (Option D×HH),dj K 1 ((c::l).map λc=>.str ⟨#[c]⟩) h=bnd (K [.str ⟨#[c]⟩] h) (kG (dj K 1 (l.map λc=>.str ⟨#[c]⟩))):=λK=>rfl;rw[st,el,cZ,gc,q,List.filter_cons];cases Txt.contains "0123456789" ⟨#[c]⟩<;>rfl
theorem wI (F:FK → List W → HH → Option (W×HH)) (e:E) (y:az) (x:az) (hx:x.length ≤ 4000) (s:Sl) (h:HH) (he:BT.ev F G e s h=aa (.p (.str x),h)):BT.ev F G (Ax e y) s h=aa (.p (.bl (gP x)),h):=by
 have c2:BT.ev F G (.comp ai .chs (.cons e .nil) [y] [] (.cons (.tx .ninS (.cons (.var 0) (.cons (.cst (.str "0123456789")) .nil))) .nil) (.var 0)) s h=aa (.p (.lst ((x.cps.toList.filter λc=>!Txt.contains "0123456789" ⟨#[c]⟩).map (λc=>.str ⟨#[c]⟩))),h) :=
  cgo (ws:=[.p (.str x)]) (h1:=h) (fs:=[]) (by simp[he]) rfl rfl rfl (vd F h x.cps.toList) (by
   have l:x.cps.toList.length=x.length:=by simp[VT]
   have:=List.length_filter_le (λc=>!Txt.contains "0123456789" ⟨#[c]⟩) x.cps.toList;rw[SJ];show _ ≤ 100000;lia)
 unfold Ax;refine wj c2 (d':=.lst []) (by simp) ?_;rw[xy,if_pos (zP _),GN];congr 1;unfold gP;rw[Bool.eq_iff_iff,decide_eq_true_eq,List.map_eq_nil_iff,List.filter_eq_nil_iff,TU];constructor
 ·intro z c hc;have:=z c hc;simpa using this
 ·intro z c hc;simp[z c hc]
theorem GO (F:FK → List W → HH → Option (W×HH)) (L:List D) (a:Int) (t:az) (hi:fE (.lst L) (.int a)=aa (.str t)) (r:Sl) (h:HH):BT.ev F G saN (aa (.p (.lst L))::aa (.p (.int a))::r) h=aa (.p (.int (ar t)),h):=by
 have e:BT.ev F G saN (aa (.p (.lst L))::aa (.p (.int a))::r) h=kTx .dget [.k (.l [(.inr "cell",.int 1),(.inr "add",.int 2),(.inr "sub",.int 2),(.inr "mul",.int 2),(.inr "less",.int 2)]),.p (.str t),.p (.int 0)] h:=by unfold saN;have:∀ s h,BT.ev F G (.dlit [("cell",(.int 1)),("add",(.int 2)),("sub",(.int 2)),("mul",(.int 2)),("less",(.int 2))]) s h=aa (.k (.l [(.inr "cell",.int 1),(.inr "add",.int 2),(.inr "sub",.int 2),(.inr "mul",.int 2),(.inr "less",.int 2)]),h):=λ_ _=>rfl;generalize (E.dlit [("cell",(.int 1)),("add",(.int 2)),("sub",(.int 2)),("mul",(.int 2)),("less",(.int 2))])=EE at *;simp[-dG,hi,this]
 rw[e];cases wc t with
 | num c=>subst c;rfl| name c=>subst c;rfl| cell c=>subst c;rfl| add c=>subst c;rfl| sub c=>subst c;rfl| mul c=>subst c;rfl| less c=>subst c;rfl
 | no h1 h2 h3 h4 h5 h6 h7 =>
  have ea:ar t=0:=by unfold ar;rw[if_neg h3,if_neg (by simp[h4,h5,h6,h7])]
  rw[ea];show aa (W.p ((ff _ (.inr t)).getD (.int 0)),h)=_;have:ff ([(.inr "cell",.int 1),(.inr "add",.int 2),(.inr "sub",.int 2),(.inr "mul",.int 2),(.inr "less",.int 2)]:List (Ky×D)) (.inr t)=af:=by simp[ff,h3,h4,h5,h6,h7,UM h3,UM h4,UM h5,UM h6,UM h7]
  rw[this];rfl
theorem kB (F:FK → List W → HH → Option (W×HH)) (L:List D) (w1 w2:Option W) (fd:List D) (hf:fd.length ≤ 10) (p:Int) (x5 x6:Option W) (r:D) (h:HH) (e:F (.f "_law_sum_at") [.p (.lst L),.p (.int p)] h=aa (.p r,h)) :
 (r=.non → evS F G saB [lv L,w1,w2,tv fd,iv p,x5,x6] h=aa (.rt (.p .non) h)) ∧
 (∀ (d:D) (q:Int),r=.tup [d,.int q] → evS F G saB [lv L,w1,w2,tv fd,iv p,x5,x6] h=aa (.nx [lv L,w1,w2,tv (fd++[d]),iv q,x5,aa (.p r)] h)):=by
 constructor
 ·rintro rfl
  simp[saB,e]
 ·rintro d q rfl
  have l:fd.length+1 ≤ 100000:=by lia
  simp[saB,e,l]
inductive SaR (at0:Nat):D → Prop where
 | non:SaR at0 .non
 | some (d:D) (e:Nat) (h:at0 < e):SaR at0 (.tup [d,.int e])
theorem ju (hT:T "_law_sum_at"=aa fT) (k:Nat) (ws:List az) (hl:ws.length ≤ 4000) (hg:∀ t∈ws,GT t) (a:Nat) (h:HH) :
 (ws.length ≤ a → runN T G (k+1) "_law_sum_at" [.p (.lst (ws.map .str)),.p (.int a)] h=aa (.p .non,h)) ∧
 (∀ (ha:a < ws.length),(ws[a]="" → runN T G (k+1) "_law_sum_at" [.p (.lst (ws.map .str)),.p (.int a)] h=aa (.p .non,h)) ∧
  (ws[a]≠"" → gP ws[a]=ah → ∀ n:Int,Uv ws[a]=aa n → ws[a].length ≤ 640 → runN T G (k+1) "_law_sum_at" [.p (.lst (ws.map .str)),.p (.int a)] h=aa (.p (.tup [.tup [.str "num",.int n],.int (a+1)]),h)) ∧
  (ws[a]≠"" → gP ws[a]=ai → runN T G (k+1) "_law_sum_at" [.p (.lst (ws.map .str)),.p (.int a)] h=gS (evS (runN T G k) G (.seq (.for [(5,"_law_k")] .rng1 (.cons (.var 2) .nil) saB) (.ret saZ)) [lv (ws.map .str),iv a,iv (ar ws[a]),tv [.str ws[a]],iv (a+1),af,af] h) (fin h))):=by
 have ll:(ws.map D.str).length ≤ 100000:=by rw[SJ];lia
 have lw:((ws.map D.str).length:Int)=ws.length:=by rw[SJ]
 constructor
 ·intro c;have cc:((ws.map D.str).length:Int) ≤ (a:Int):=by rw[lw];lia
  have ec:BT.ev (runN T G k) G saC [lv (ws.map .str),iv a,af,af,af,af,af] h=aa (.p (.bl ah),h):=by generalize ws.map D.str=L at *;simp[saC,cc,ll]
  exact kY hT rfl (jk ec rfl)
 ·intro ha;have i0:=gY ws a ha;have gt:=hg ws[a] (UX ha);have cc:¬ ((ws.map D.str).length:Int) ≤ (a:Int):=by rw[lw];lia
  generalize ws[a]=t at *;have l4:t.length ≤ 4000:=by have:=gt.len;lia
  generalize ws.map D.str=L at *;refine ⟨λc=>?_,λc f n hn hl6=>?_,λc f=>?_⟩
  ·subst c;have ec:BT.ev (runN T G k) G saC [lv L,iv a,af,af,af,af,af] h=aa (.p (.bl ah),h):=by simp[-dG,saC,cc,ll,i0]
   exact kY hT rfl (jk ec rfl)
  ·have ec:BT.ev (runN T G k) G saC [lv L,iv a,af,af,af,af,af] h=aa (.p (.bl ai),h):=by simp[-dG,saC,cc,ll,i0,c]
   have ef:=wI (G:=G) (runN T G k) (.idx (.var 0) (.var 1)) "_law_sign" t l4 [lv L,iv a,af,af,af,af,af] h (by simp[-dG,i0]);rw[f] at ef;have tt:kTx .intS [.p (.str t)] h=aa (.p (.int n),h):=by show ((if t.length ≤ 640 then (Uv t).map D.int else af).map λd=>(W.p d,h))=_;rw[if_pos hl6,hn];rfl
   have er:BT.ev (runN T G k) G saR [lv L,iv a,af,af,af,af,af] h=aa (.p (.tup [.tup [.str "num",.int n],.int (a+1)]),h):=by simp[-dG,saR,i0,tt]
   exact kY hT rfl ((qH ec).trans (jk ef er))
  ·have ec:BT.ev (runN T G k) G saC [lv L,iv a,af,af,af,af,af] h=aa (.p (.bl ai),h):=by simp[-dG,saC,cc,ll,i0,c]
   have ef:=wI (G:=G) (runN T G k) (.idx (.var 0) (.var 1)) "_law_sign" t l4 [lv L,iv a,af,af,af,af,af] h (by simp[-dG,i0]);rw[f] at ef;have en:=GO (G:=G) (runN T G k) L a t i0 [af,af,af,af,af] h;rw[run_eq hT rfl];show gS (evS _ G (.seq (.ife saC _ .nil) _) [lv L,iv a,af,af,af,af,af] h) _=_;rw[qH ec,qH ef,eU en];have e3:BT.ev (runN T G k) G (.tup (.cons (.idx (.var 0) (.var 1)) .nil)) [lv L,iv a,iv (ar t),af,af,af,af] h=aa (.p (.tup [.str t]),h):=by simp[-dG,i0]
   have e4:BT.ev (runN T G k) G (.bin .add (.var 1) (.cst (.int 1))) [lv L,iv a,iv (ar t),tv [.str t],af,af,af] h=aa (.p (.int (a+1)),h):=by simp
   show gS (evS _ G (.seq (.set 3 _) _) [lv L,iv a,iv (ar t),af,af,af,af] h) _=_;rw[eU e3];show gS (evS _ G (.seq (.set 4 _) _) [lv L,iv a,iv (ar t),tv [.str t],af,af,af] h) _=_;rw[eU e4];rfl
end
theorem pR {x:az} (h:x≠""):1 ≤ x.length:=by
 rcases Nat.eq_zero_or_pos x.length with z|z
 ·exact absurd (lZ (y:="") (by
   have:x.cps.toList=[]:=List.length_eq_zero_iff.mp (by simpa [VT] using z);rw[this];rfl)) h
 exact z
theorem Q7 (t:az):ar t=0 ∨ ar t=1 ∨ ar t=2:=by
 unfold ar;split;exact .inr (.inl rfl)
 ·split;exact .inr (.inr rfl);exact .inl rfl
section
variable {T TX:FK → Option Fn}{G:az → Option W}
theorem n5 (F:FK → List W → HH → Option (W×HH)) (L:List D) (a:Int) (t:az) (n:Nat) (hn:n=1 ∨ n=2) (rest:List D) (fd:List D) (q:Int) (x5 x6 y5 y6:Option W) (h:HH)
 (e:dJ (evS F G saB) [(5,"_law_k")] (upto 0 n) [lv L,iv a,iv n,tv [.str t],iv (a+1),af,af] h=aa (.nx [lv L,iv a,iv n,tv fd,iv q,y5,y6] h)) :
 gS (evS F G (.seq (.for [(5,"_law_k")] .rng1 (.cons (.var 2) .nil) saB) (.ret saZ)) [lv L,iv a,iv n,tv [.str t],iv (a+1),af,af] h) (fin h)=aa (.p (.tup [.tup fd,.int q]),h):=by
 have ef:evS F G (.for [(5,"_law_k")] .rng1 (.cons (.var 2) .nil) saB) [lv L,iv a,iv n,tv [.str t],iv (a+1),af,af] h=aa (.nx [lv L,iv a,iv n,tv fd,iv q,y5,y6] h):=by
  rcases hn with rfl|rfl
  exact e;exact e
 rw[fK ef];have z:(0:Int) < (n:Int):=by rcases hn with rfl|rfl<;>decide
 have z2:0 < n:=by rcases hn with rfl|rfl<;>decide
 simp[saZ,z,z2,cT]
theorem DO (F:FK → List W → HH → Option (W×HH)) (L:List D) (a:Int) (t:az) (n:Nat) (hn:n=1 ∨ n=2) (h:HH)
 (e:dJ (evS F G saB) [(5,"_law_k")] (upto 0 n) [lv L,iv a,iv n,tv [.str t],iv (a+1),af,af] h=aa (.rt (.p .non) h)) :
 gS (evS F G (.seq (.for [(5,"_law_k")] .rng1 (.cons (.var 2) .nil) saB) (.ret saZ)) [lv L,iv a,iv n,tv [.str t],iv (a+1),af,af] h) (fin h)=aa (.p .non,h):=by
 have ef:evS F G (.for [(5,"_law_k")] .rng1 (.cons (.var 2) .nil) saB) [lv L,iv a,iv n,tv [.str t],iv (a+1),af,af] h=aa (.rt (.p .non) h):=by
  rcases hn with rfl|rfl
  exact e;exact e
 show gS (iJ (evS _ _ _ _ _) _) _=_;rw[ef];exact cT _ _
theorem qh (b:Sl → HH → Option Fl) (d:D) (r:List D) (w0 w1 w2 w3 w4 x5 x6:Option W) (h:HH):dJ b [(5,"_law_k")] (d::r) [w0,w1,w2,w3,w4,x5,x6] h=fP (b [w0,w1,w2,w3,w4,aa (.p d),x6] h) (dJ b [(5,"_law_k")] r):=rfl
theorem yY (F:FK → List W → HH → Option (W×HH)) (L:List D) (a:Int) (t:az) (i0:fE (.lst L) (.int a)=aa (.str t)) (h:HH) :
 gS (evS F G (.seq (.for [(5,"_law_k")] .rng1 (.cons (.var 2) .nil) saB) (.ret saZ)) [lv L,iv a,iv ((0:Nat):Int),tv [.str t],iv (a+1),af,af] h) (fin h)=aa (.p (.tup [.tup [.str "name",.str t],.int (a+1)]),h):=by
 have ef:evS F G (.for [(5,"_law_k")] .rng1 (.cons (.var 2) .nil) saB) [lv L,iv a,iv ((0:Nat):Int),tv [.str t],iv (a+1),af,af] h=aa (.nx [lv L,iv a,iv ((0:Nat):Int),tv [.str t],iv (a+1),af,af] h):=rfl;rw[fK ef];simp[-dG,saZ,i0,cT]
theorem up1:upto 0 1=[.int 0]:=rfl
theorem up2:upto 0 2=[.int 0,.int 1]:=rfl
theorem DP (hT:T "_law_sum_at"=aa fT) (ws:List az) (hl:ws.length ≤ 4000) (hg:∀ t∈ws,GT t):∀ (n a:Nat),ws.length - a ≤ n → ∃ r,SaR a r ∧ ∀ k h,runN T G (k+n+1) "_law_sum_at" [.p (.lst (ws.map .str)),.p (.int a)] h=aa (.p r,h):=by
 intro n
 induction n with
 | zero=>exact λa ha=>⟨.non,.non,λk h=>(ju hT (k+0) ws hl hg a h).1 (by lia)⟩
 | succ n ih =>
  intro a ha
  by_cases c0:ws.length ≤ a
  exact ⟨.non,.non,λk h=>(ju hT (k+(n+1)) ws hl hg a h).1 c0⟩;have c1:a < ws.length:=by lia
  have hd:=λk h=>(ju (G:=G) hT (k+(n+1)) ws hl hg a h).2 c1;have gt:=hg ws[a] (UX c1);have i0:=gY ws a c1;generalize ws[a]=t at *
  by_cases c2:t=""
  exact ⟨.non,.non,λk h=>(hd k h).1 c2⟩;cases c3:gP t with
  | true =>
   obtain ⟨m,hm,hm9⟩:=pO gt.ok (pR c2) c3;exact ⟨_,.some (.tup [.str "num",.int m]) (a+1) (by lia),λk h=>(hd k h).2.1 c2 c3 m hm (by lia)⟩
  | false =>
   have hd:=λk h=>(hd k h).2.2 c2 c3;rcases Q7 t with c4|c4|c4
   ·refine ⟨_,.some (.tup [.str "name",.str t]) (a+1) (by lia),λk h=>?_⟩;have:=hd k h;rw[c4] at this;refine this.trans (yY _ _ _ t i0 h)
   ·obtain ⟨r1,s1,e1⟩:=ih (a+1) (by lia);have e1:∀ k h,runN T G (k+(n+1)) "_law_sum_at" [.p (.lst (ws.map .str)),.p (.int ((a:Int)+1))] h=aa (.p r1,h):=λk h=>by have:=e1 k h;rw[show ((a+1:Nat):Int)=(a:Int)+1 by lia] at this;exact this
    have tn:=λk h=>kB (G:=G) (runN T G (k+(n+1))) (ws.map .str) (aa (.p (.int a))) (aa (.p (.int ((1:Nat):Int)))) [.str t] (by simp) ((a:Int)+1) (aa (.p (.int 0))) af r1 h (e1 k h);cases s1 with
    | non =>
     refine ⟨.non,.non,λk h=>?_⟩;have:=hd k h;rw[c4] at this;refine this.trans (DO _ _ _ t 1 (.inl rfl) h ?_);rw[up1,qh,(tn k h).1 rfl];rfl
    | some d e he =>
     refine ⟨_,.some (.tup [.str t,d]) e (by lia),λk h=>?_⟩;have:=hd k h;rw[c4] at this;refine this.trans (n5 (y5:=aa (.p (.int 0))) (y6:=aa (.p (.tup [d,.int e]))) _ _ _ t 1 (.inl rfl) [] [.str t,d] e af af h ?_);rw[up1,qh,(tn k h).2 d e rfl];rfl
   ·obtain ⟨r1,s1,e1⟩:=ih (a+1) (by lia);have e1:∀ k h,runN T G (k+(n+1)) "_law_sum_at" [.p (.lst (ws.map .str)),.p (.int ((a:Int)+1))] h=aa (.p r1,h):=λk h=>by have:=e1 k h;rw[show ((a+1:Nat):Int)=(a:Int)+1 by lia] at this;exact this
    have tn:=λk h=>kB (G:=G) (runN T G (k+(n+1))) (ws.map .str) (aa (.p (.int a))) (aa (.p (.int ((2:Nat):Int)))) [.str t] (by simp) ((a:Int)+1) (aa (.p (.int 0))) af r1 h (e1 k h);cases s1 with
    | non =>
     refine ⟨.non,.non,λk h=>?_⟩;have:=hd k h;rw[c4] at this;refine this.trans (DO _ _ _ t 2 (.inr rfl) h ?_);rw[up2,qh,(tn k h).1 rfl];rfl
    | some d e he =>
     obtain ⟨r2,s2,e2⟩:=ih e (by lia);have tn2:=λk h=>kB (G:=G) (runN T G (k+(n+1))) (ws.map .str) (aa (.p (.int a))) (aa (.p (.int ((2:Nat):Int)))) [.str t,d] (by simp) (e:Int) (aa (.p (.int 1))) (aa (.p (.tup [d,.int e]))) r2 h (e2 k h);cases s2 with
     | non =>
      refine ⟨.non,.non,λk h=>?_⟩;have:=hd k h;rw[c4] at this;refine this.trans (DO _ _ _ t 2 (.inr rfl) h ?_);rw[up2,qh,(tn k h).2 d e rfl,dO,qh];show fP (evS _ _ saB [_,_,_,tv [.str t,d],_,_,_] h) _=_;rw[(tn2 k h).1 rfl];rfl
     | some d2 e' he2 =>
      refine ⟨_,.some (.tup [.str t,d,d2]) e' (by lia),λk h=>?_⟩;have:=hd k h;rw[c4] at this;refine this.trans (n5 (y5:=aa (.p (.int 1))) (y6:=aa (.p (.tup [d2,.int e']))) _ _ _ t 2 (.inr rfl) [] [.str t,d,d2] e' af af h ?_);rw[up2,qh,(tn k h).2 d e rfl,dO,qh];show fP (evS _ _ saB [_,_,_,tv [.str t,d],_,_,_] h) _=_;rw[(tn2 k h).2 d2 e' rfl];rfl
end
theorem kC {pre post:List az}{w:az}{ws:List az} (hw:ws=pre++w::post):∃ h:pre.length < ws.length,ws[pre.length]=w:=by subst hw;exact ⟨by simp,by simp⟩
theorem yZ (i:Nm):gP (SE i.w)=ai:=by cases i<;>decide +kernel
theorem GP (o:Op):gP (SE o.w)=ai:=by cases o<;>decide +kernel
theorem NV (i:Nm):ar (SE i.w)=0:=by cases i<;>decide +kernel
theorem NW (o:Op):ar (SE o.w)=2:=by cases o<;>decide +kernel
theorem NX (i:Nm):SE i.w≠"":=by cases i<;>decide +kernel
theorem NY (o:Op):SE o.w≠"":=by cases o<;>decide +kernel
section
variable {T TX:FK → Option Fn}{G:az → Option W}
theorem ve (hT:T "_law_sum_at"=aa fT) (ws:List az) (hl:ws.length ≤ 4000) (hg:∀ t∈ws,GT t):∀ (s:Sm),s.ok → ∀ (pre post:List az),ws=pre++(s.wds++post) → ∀ k h,runN T G (k+s.size+1) "_law_sum_at" [.p (.lst (ws.map .str)),.p (.int pre.length)] h=aa (.p (.tup [s.enc,.int ((pre.length:Int)+s.size)]),h)
 | .num n,hs,pre,post,hw,k,h=>by have l:=l7 hs;obtain ⟨c1,e⟩:=kC (w:=fC n) (post:=post) hw;have hd:=(ju (G:=G) hT (k+1) ws hl hg pre.length h).2 c1;rw[e] at hd;exact hd.2.1 (λz=>by rw[z] at l;exact absurd l.1 (by decide)) (jP hs) n (Wb hs.1 (by have:=hs.2;lia)) (by lia)
 | .nam i,hs,pre,post,hw,k,h=>by obtain ⟨c1,e⟩:=kC (w:=SE i.w) (post:=post) hw;have hd:=(ju (G:=G) hT (k+1) ws hl hg pre.length h).2 c1;have i0:=gY ws pre.length c1;rw[e] at hd i0;have:=hd.2.2 (NX i) (yZ i);rw[NV i] at this;exact this.trans (yY _ _ _ _ i0 h)
 | .cell s,hs,pre,post,hw,k,h=>by
  obtain ⟨c1,e⟩:=kC (w:="cell") (post:=s.wds++post) hw;have hd:=(ju (G:=G) hT (k+(s.size+1)) ws hl hg pre.length h).2 c1;rw[e] at hd;have:=hd.2.2 (by decide) (by decide +kernel);rw[show ar "cell"=1 by decide] at this;have ih:=ve hT ws hl hg s hs (pre++[SE "cell"]) post (by rw[hw];simp[Sm.wds]) k h;rw[SN,Uk,show ((pre.length+1:Nat):Int)=(pre.length:Int)+1 by lia] at ih;have tn:=(kB (G:=G) (runN T G (k+(s.size+1))) (ws.map .str) (aa (.p (.int pre.length))) (aa (.p (.int ((1:Nat):Int)))) [.str "cell"] (by simp) ((pre.length:Int)+1) (aa (.p (.int 0))) af _ h ih).2 _ _ rfl;refine this.trans ((n5 (y5:=aa (.p (.int 0))) (y6:=aa (.p (.tup [s.enc,.int ((pre.length:Int)+1+s.size)]))) _ _ _ "cell" 1 (.inl rfl) [] [.str "cell",s.enc] ((pre.length:Int)+1+s.size) af af h ?_).trans ?_);rw[up1,qh,tn];rfl
  ·show aa (W.p (.tup [.tup [.str "cell",s.enc],.int _]),h)=aa (W.p (.tup [.tup [.str "cell",s.enc],.int _]),h);rw[show (pre.length:Int)+1+s.size=(pre.length:Int)+((s.size+1:Nat):Int) by lia];rfl
 | .two o a b,hs,pre,post,hw,k,h=>by
  obtain ⟨c1,e⟩:=kC (w:=SE o.w) (post:=a.wds++b.wds++post) hw;have hd:=(ju (G:=G) hT (k+(a.size+b.size+1)) ws hl hg pre.length h).2 c1;rw[e] at hd;have:=hd.2.2 (NY o) (GP o);rw[NW o] at this;have ih1:=ve hT ws hl hg a hs.1 (pre++[SE o.w]) (b.wds++post) (by rw[hw];simp[Sm.wds]) (k+b.size) h;rw[SN,Uk,show ((pre.length+1:Nat):Int)=(pre.length:Int)+1 by lia,show k+b.size+a.size+1=k+(a.size+b.size+1) by lia] at ih1;have ih2:=ve hT ws hl hg b hs.2 (pre++[SE o.w]++a.wds) post (by rw[hw];simp[Sm.wds]) (k+a.size) h;rw[SN,SN,Uk,fN,show ((pre.length+1+a.size:Nat):Int)=(pre.length:Int)+1+a.size by lia,show k+a.size+b.size+1=k+(a.size+b.size+1) by lia] at ih2;have t1:=(kB (G:=G) (runN T G (k+(a.size+b.size+1))) (ws.map .str) (aa (.p (.int pre.length))) (aa (.p (.int ((2:Nat):Int)))) [.str (SE o.w)] (by simp) ((pre.length:Int)+1) (aa (.p (.int 0))) af _ h ih1).2 _ _ rfl;have t2:=(kB (G:=G) (runN T G (k+(a.size+b.size+1))) (ws.map .str) (aa (.p (.int pre.length))) (aa (.p (.int ((2:Nat):Int)))) [.str (SE o.w),a.enc] (by simp) ((pre.length:Int)+1+a.size) (aa (.p (.int 1))) (aa (.p (.tup [a.enc,.int ((pre.length:Int)+1+a.size)]))) _ h ih2).2 _ _ rfl;refine this.trans ((n5 (y5:=aa (.p (.int 1))) (y6:=aa (.p (.tup [b.enc,.int ((pre.length:Int)+1+a.size+b.size)]))) _ _ _ (SE o.w) 2 (.inr rfl) [] [.str (SE o.w),a.enc,b.enc] ((pre.length:Int)+1+a.size+b.size) af af h ?_).trans ?_)
  ·rw[up2,qh,t1,dO,qh];show fP (evS _ _ saB [_,_,_,tv [.str (SE o.w),a.enc],_,_,_] h) _=_;rw[t2];rfl
  ·show aa (W.p (.tup [.tup [.str (SE o.w),a.enc,b.enc],.int _]),h)=aa (W.p (.tup [.tup [.str (SE o.w),a.enc,b.enc],.int _]),h);rw[show (pre.length:Int)+1+a.size+b.size=(pre.length:Int)+((a.size+b.size+1:Nat):Int) by lia];rfl
end
noncomputable def rvS:S:=(.seq (.set 7 (.call "_law_sum_at" (Z8 (.var 1) (.var 5)))) (.seq (.ife (.cmp .isN (.var 7) (.cst .non)) (.ret (.cst .non)) .nil) (.seq (.set 4 (.bin .add (.var 4) (.tup (Z9 (.idx (.var 7) (.cst (.int 0))))))) (.set 5 (.idx (.var 7) (.cst (.int 1)))))))
noncomputable def rvC:E:=(.or (.cmp .ge (.var 5) (.bi .len ai (Z9 (.var 1)))) (.cmp .gt (.bi .len ai (Z9 (.idx (.var 1) (.var 5)))) (.cst (.int 9))))
noncomputable def rvW:S:=(.seq (.ife rvC (.ret (.cst .non)) .nil) (.seq (.set 8 (.idx (.var 1) (.var 5))) (.seq (.set 9 (.and (.cmp .ne (.var 8) (.cst (.str ""))) (Ax (.var 8) "_law_one"))) (.seq (.set 4 (.bin .add (.var 4) (.tup (Z9 (.ite (.var 9) (.tx .intS (Z9 (.var 8))) (.var 8)))))) (.set 5 (.bin .add (.var 5) (.cst (.int 1))))))))
noncomputable def rvB:S:=(.ife (.cmp .eq (.var 6) (.cst (.str "s"))) rvS rvW)
noncomputable def rvD:E:=(.dlit [("stop",(.str "")),("back",(.str "")),("say",(.str "s")),("ask",(.str "w")),("jump",(.str "w")),("call",(.str "w")),("set",(.str "ws")),("put",(.str "ss"))])
noncomputable def rvH:E:=(.ite (.cmp .eq (.idx (.var 1) (.cst (.int 0))) (.cst (.str "unless"))) (.cst (.str "sw")) (.tx .dget (Z8 (.var 2) (.idx (.var 1) (.cst (.int 0))))))
noncomputable def rvZ:E:=(.ite (.cmp .eq (.var 5) (.bi .len ai (Z9 (.var 1)))) (.var 4) (.cst .non))
noncomputable def fU:Fn:=⟨["_law_line"],["_law_line","_law_words","_law_shapes","_law_shape","_law_found","_law_place","_law_sign","_law_inner","_law_word","_law_is_number"], (.seq (.set 1 (.tx .split (Z8 (.var 0) (.cst (.str " "))))) (.seq (.set 2 rvD) (.seq (.set 3 rvH) (.seq (.ife (.cmp .isN (.var 3) (.cst .non)) (.ret (.cst .non)) .nil) (.seq (.set 4 (.tup (Z9 (.idx (.var 1) (.cst (.int 0)))))) (.seq (.set 5 (.cst (.int 1))) (.seq (.for [(6,"_law_sign")] .chs (Z9 (.var 3)) rvB) (.ret rvZ))))))))⟩
noncomputable def shK:List (Ky×D):=[(.inr "stop",.str ""),(.inr "back",.str ""),(.inr "say",.str "s"),(.inr "ask",.str "w"),(.inr "jump",.str "w"),(.inr "call",.str "w"),(.inr "set",.str "ws"),(.inr "put",.str "ss")]
noncomputable def sg8 (f:az):az:=if f="sum" then "s" else "w"
inductive Shp (w:az):Prop where
 | no (h:kH w=af) (g:w≠"unless") (e:ff shK (.inr w)=af)
 | un (h:w="unless") (e:kH w=aa ([SE "sum",SE "place"]:List az))
 | yes (g:w≠"unless") (fs:List az) (sh:az) (h:kH w=aa fs) (e:ff shK (.inr w)=aa (.str sh)) (c:nG sh=fs.map λf=>.str (sg8 f))
theorem shp (w:az):Shp w:=by
 by_cases h1:w="set"
 subst h1;exact .yes (by decide) ["name","sum"] "ws" rfl rfl rfl
 by_cases h2:w="put"
 subst h2;exact .yes (by decide) ["sum","sum"] "ss" rfl rfl rfl
 by_cases h3:w="ask"
 subst h3;exact .yes (by decide) ["name"] "w" rfl rfl rfl
 by_cases h4:w="say"
 subst h4;exact .yes (by decide) ["sum"] "s" rfl rfl rfl
 by_cases h5:w="jump"
 subst h5;exact .yes (by decide) ["place"] "w" rfl rfl rfl
 by_cases h6:w="unless"
 subst h6;exact .un rfl rfl
 by_cases h7:w="call"
 subst h7;exact .yes (by decide) ["place"] "w" rfl rfl rfl
 by_cases h8:w="back"
 subst h8;exact .yes (by decide) [] "" rfl rfl rfl
 by_cases h9:w="stop"
 subst h9;exact .yes (by decide) [] "" rfl rfl rfl;refine .no ?_ h6 ?_
 ·unfold kH;rw[if_neg h1,if_neg h2,if_neg h3,if_neg h4,if_neg h5,if_neg h6,if_neg h7,if_neg h8,if_neg h9]
 simp[ff,shK,UM h1,UM h2,UM h3,UM h4,UM h5,UM h7,UM h8,UM h9]
section
variable {T TX:FK → Option Fn}{G:az → Option W}
theorem DQ (F:FK → List W → HH → Option (W×HH)) (w0 w2 w3:Option W) (L:List D) (fd:List D) (hf:fd.length ≤ 10) (p:Int) (x7 x8 x9:Option W) (r:D) (h:HH) (e:F (.f "_law_sum_at") [.p (.lst L),.p (.int p)] h=aa (.p r,h)) :
 (r=.non → evS F G rvB [w0,lv L,w2,w3,tv fd,iv p,sv "s",x7,x8,x9] h=aa (.rt (.p .non) h)) ∧
 (∀ (d:D) (q:Int),r=.tup [d,.int q] → evS F G rvB [w0,lv L,w2,w3,tv fd,iv p,sv "s",x7,x8,x9] h=aa (.nx [w0,lv L,w2,w3,tv (fd++[d]),iv q,sv "s",aa (.p r),x8,x9] h)):=by
 constructor
 ·rintro rfl
  simp[rvB,rvS,e]
 ·rintro d q rfl
  have l:fd.length+1 ≤ 100000:=by lia
  simp[rvB,rvS,e,l]
theorem wJ (F:FK → List W → HH → Option (W×HH)) (w0 w2 w3:Option W) (ws:List az) (hl:ws.length ≤ 4000) (hg:∀ t∈ws,GT t) (fd:List D) (hf:fd.length ≤ 10) (p:Nat) (x7 x8 x9:Option W) (h:HH) :
 (¬ p < ws.length → evS F G rvB [w0,lv (ws.map .str),w2,w3,tv fd,iv p,sv "w",x7,x8,x9] h=aa (.rt (.p .non) h)) ∧
 (∀ hp:p < ws.length,(9 < ws[p].length → evS F G rvB [w0,lv (ws.map .str),w2,w3,tv fd,iv p,sv "w",x7,x8,x9] h=aa (.rt (.p .non) h)) ∧
  (ws[p].length ≤ 9 → ∀ d:D,(gP ws[p]=ah ∧ ws[p]≠"" → ∃ n,Uv ws[p]=aa n ∧ d=.int n) → (¬ (gP ws[p]=ah ∧ ws[p]≠"") → d=.str ws[p]) →
   ∃ y8 y9,evS F G rvB [w0,lv (ws.map .str),w2,w3,tv fd,iv p,sv "w",x7,x8,x9] h=aa (.nx [w0,lv (ws.map .str),w2,w3,tv (fd++[d]),iv ((p:Int)+1),sv "w",x7,y8,y9] h))):=by
 have ll:(ws.map D.str).length ≤ 100000:=by rw[SJ];lia
 have lw:((ws.map D.str).length:Int)=ws.length:=by rw[SJ]
 have l1:fd.length+1 ≤ 100000:=by lia
 have eb:evS F G rvB [w0,lv (ws.map .str),w2,w3,tv fd,iv p,sv "w",x7,x8,x9] h=evS F G rvW [w0,lv (ws.map .str),w2,w3,tv fd,iv p,sv "w",x7,x8,x9] h:=by generalize ws.map D.str=L at *;unfold rvB;generalize rvS=A at *;generalize rvW=B at *;simp
 rw[eb];constructor
 ·intro c;have cc:((ws.map D.str).length:Int) ≤ (p:Int):=by rw[lw];lia
  generalize ws.map D.str=L at *;exact jk (by simp[rvC,cc,ll]) (by simp)
 ·intro hp;have cc:¬ ((ws.map D.str).length:Int) ≤ (p:Int):=by rw[lw];lia
  have i0:=gY ws p hp;have gt:=hg ws[p] (UX hp);generalize ws[p]=t at *;have l4:t.length ≤ 4000:=by have:=gt.len;lia
  have l5:t.length ≤ 100000:=by lia
  generalize ws.map D.str=L at *;refine ⟨λc=>?_,λc d hd1 hd2=>?_⟩
  ·have c9:(9:Int) < (t.length:Int):=by lia
   exact jk (by simp[-dG,rvC,cc,ll,i0,l5,c9,c]) (by simp)
  ·have c9:¬ (9:Int) < (t.length:Int):=by lia
   have c10:¬ 9 < t.length:=by lia
   have ec:BT.ev F G rvC [w0,lv L,w2,w3,tv fd,iv p,sv "w",x7,x8,x9] h=aa (.p (.bl ai),h):=by simp[-dG,rvC,cc,ll,i0,l5,c9,c10]
   have e8:BT.ev F G (.idx (.var 1) (.var 5)) [w0,lv L,w2,w3,tv fd,iv p,sv "w",x7,x8,x9] h=aa (.p (.str t),h):=by simp[-dG,i0]
   have ef:=wI (G:=G) F (.var 8) "_law_one" t l4 [w0,lv L,w2,w3,tv fd,iv p,sv "w",x7,sv t,x9] h (by simp);have e9:BT.ev F G (.and (.cmp .ne (.var 8) (.cst (.str ""))) (Ax (.var 8) "_law_one")) [w0,lv L,w2,w3,tv fd,iv p,sv "w",x7,sv t,x9] h=aa (.p (.bl (decide (gP t=ah ∧ t≠""))),h):=by
    generalize Ax (.var 8) "_law_one"=FE at *
    by_cases c:t=""
    ·subst c;simp
    ·cases q:gP t with
     | _=>rw[q] at ef;simp[c,ef]
   refine ⟨aa (.p (.str t)),aa (.p (.bl (decide (gP t=ah ∧ t≠"")))),?_⟩;unfold rvW;rw[qH ec,eU e8];show evS F G (.seq (.set 9 _) _) [w0,lv L,w2,w3,tv fd,iv p,sv "w",x7,sv t,x9] h=_;rw[eU e9];show evS F G (.seq (.set 4 _) _) [w0,lv L,w2,w3,tv fd,iv p,sv "w",x7,sv t,aa (.p (.bl (decide (gP t=ah ∧ t≠""))))] h=_
   by_cases q:gP t=ah ∧ t≠""
   ·obtain ⟨n,hn,rfl⟩:=hd1 q;have tt:kTx .intS [.p (.str t)] h=aa (.p (.int n),h):=by show ((if t.length ≤ 640 then (Uv t).map D.int else af).map λd=>(W.p d,h))=_;rw[if_pos (by lia),hn];rfl
    rw[decide_eq_true q];simp[tt,l1]
   ·rw[hd2 q,decide_eq_false q];simp[l1]
theorem NZ (b:Sl → HH → Option Fl) (d:D) (r:List D) (w0 w1 w2 w3 w4 w5 x6 x7 x8 x9:Option W) (h:HH):dJ b [(6,"_law_sign")] (d::r) [w0,w1,w2,w3,w4,w5,x6,x7,x8,x9] h=fP (b [w0,w1,w2,w3,w4,w5,aa (.p d),x7,x8,x9] h) (dJ b [(6,"_law_sign")] r):=rfl
theorem wK (hT:T "_law_sum_at"=aa fT) (ws:List az) (hl:ws.length ≤ 4000) (hg:∀ t∈ws,GT t) (k:Nat) (w0 w2 w3:Option W) (h:HH):∀ (fs:List az) (fd:List D) (p:Nat) (x6 x7 x8 x9:Option W),fd.length+fs.length ≤ 10 →
 (dJ (evS (runN T G (k+ws.length+1)) G rvB) [(6,"_law_sign")] (fs.map λf=>.str (sg8 f)) [w0,lv (ws.map .str),w2,w3,tv fd,iv p,x6,x7,x8,x9] h=aa (.rt (.p .non) h)) ∨
 (∃ fd' p' y6 y7 y8 y9,dJ (evS (runN T G (k+ws.length+1)) G rvB) [(6,"_law_sign")] (fs.map λf=>.str (sg8 f)) [w0,lv (ws.map .str),w2,w3,tv fd,iv p,x6,x7,x8,x9] h=aa (.nx [w0,lv (ws.map .str),w2,w3,tv fd',iv p',y6,y7,y8,y9] h))
 | [],fd,p,x6,x7,x8,x9,_=>.inr ⟨fd,p,x6,x7,x8,x9,rfl⟩
 | f::fs,fd,p,x6,x7,x8,x9,hn=>by
  rw[SX] at hn;rw[Tw,NZ]
  by_cases c:f="sum"
  ·have es:sg8 f="s":=by unfold sg8;rw[if_pos c]
   rw[es];obtain ⟨r,sr,er⟩:=DP (G:=G) hT ws hl hg ws.length p (by lia);have tn:=DQ (G:=G) (runN T G (k+ws.length+1)) w0 w2 w3 (ws.map .str) fd (by lia) p x7 x8 x9 r h (er k h);cases sr with
   | non=>rw[tn.1 rfl];exact .inl rfl
   | some d e he =>
    rw[tn.2 d e rfl,dO];exact wK hT ws hl hg k w0 w2 w3 h fs (fd++[d]) e _ _ _ _ (by simp;lia)
  ·have es:sg8 f="w":=by unfold sg8;rw[if_neg c]
   rw[es];have tn:=wJ (G:=G) (runN T G (k+ws.length+1)) w0 w2 w3 ws hl hg fd (by lia) p x7 x8 x9 h
   by_cases hp:p < ws.length
   ·have tn:=tn.2 hp;have gt:=hg ws[p] (UX hp);generalize ws[p]=t at *
    by_cases c9:9 < t.length
    rw[tn.1 c9];exact .inl rfl
    ·have ex:∃ d:D,(gP t=ah ∧ t≠"" → ∃ n,Uv t=aa n ∧ d=.int n) ∧ (¬ (gP t=ah ∧ t≠"") → d=.str t):=by
      by_cases q:gP t=ah ∧ t≠""
      ·obtain ⟨n,hn,_⟩:=pO gt.ok (pR q.2) q.1;exact ⟨.int n,λ_=>⟨n,hn,rfl⟩,λz=>absurd q z⟩
      exact ⟨.str t,λz=>absurd z q,λ_=>rfl⟩
     obtain ⟨d,q1,q2⟩:=ex;obtain ⟨y8,y9,e⟩:=tn.2 (by lia) d q1 q2;rw[e,dO];have:=wK hT ws hl hg k w0 w2 w3 h fs (fd++[d]) (p+1) (aa (.p (.str "w"))) x7 y8 y9 (by simp;lia);rw[show ((p+1:Nat):Int)=(p:Int)+1 by lia] at this;exact this
   rw[tn.1 hp];exact .inl rfl
end
theorem KJ:sg8 "sum"="s":=by unfold sg8;rw[if_pos rfl]
theorem N3:sg8 "name"="w":=by unfold sg8;rw[if_neg (by decide)]
theorem N4:sg8 "place"="w":=by unfold sg8;rw[if_neg (by decide)]
section
variable {T TX:FK → Option Fn}{G:az → Option W}
theorem HP (hT:T "_law_sum_at"=aa fT) {n:Nat} (hn:n ≤ 100) (ws:List az) (hl:ws.length ≤ 4000) (hg:∀ t∈ws,GT t) (k:Nat) (w0 w2 w3:Option W) (h:HH):∀ (ps:List Prt) (pre:List az) (fd:List D) (x6 x7 x8 x9:Option W),(∀ p∈ps,gQ n p) → ws=pre++(ps.map Prt.ws).flatten → fd.length+ps.length ≤ 10 →
 ∃ y6 y7 y8 y9,dJ (evS (runN T G (k+ws.length+1)) G rvB) [(6,"_law_sign")] ((ps.map Prt.f).map λf=>.str (sg8 f)) [w0,lv (ws.map .str),w2,w3,tv fd,iv pre.length,x6,x7,x8,x9] h=aa (.nx [w0,lv (ws.map .str),w2,w3,tv (fd++ps.map Prt.d),iv ws.length,y6,y7,y8,y9] h)
 | [],pre,fd,x6,x7,x8,x9,_,hw,_=>by
  have e:pre.length=ws.length:=by rw[hw];simp
  rw[e];exact ⟨x6,x7,x8,x9,by rw[show fd++([]:List Prt).map Prt.d=fd from Ug _];rfl⟩
 | p::ps,pre,fd,x6,x7,x8,x9,hp,hw,hf=>by
  rw[SX] at hf;have hw2:ws=pre++(p.ws++(ps.map Prt.ws).flatten):=by rw[hw];simp
  have hw3:ws=(pre++p.ws)++(ps.map Prt.ws).flatten:=by rw[hw];simp
  rw[Tw,Tw,NZ];have go:=λfd1 hl1 y6 y7 y8 y9=>HP hT hn ws hl hg k w0 w2 w3 h ps (pre++p.ws) fd1 y6 y7 y8 y9 (λq hq=>hp q (SI _ hq)) hw3 hl1;have fin:fd++(p::ps).map Prt.d=(fd++[p.d])++ps.map Prt.d:=by simp
  rw[fin];cases hp p SG with
  | sm s hs =>
   have ez:s.size ≤ ws.length:=by rw[hw2,SN,SN];show s.size ≤ pre.length+(s.wds.length+_);rw[fN];lia
   have e:=ve (G:=G) hT ws hl hg s hs.1 pre _ hw2 (k+(ws.length - s.size)) h;rw[show k+(ws.length - s.size)+s.size+1=k+ws.length+1 by lia] at e;have tn:=(DQ (G:=G) (runN T G (k+ws.length+1)) w0 w2 w3 (ws.map .str) fd (by lia) pre.length x7 x8 x9 _ h e).2 _ _ rfl;show ∃ y6 y7 y8 y9,fP (evS _ _ _ [_,_,_,_,_,_,sv (sg8 "sum"),_,_,_] _) _=_;rw[KJ,tn,dO];have:=go (fd++[s.enc]) (by simp;lia) (aa (.p (.str "s"))) (aa (.p (.tup [s.enc,.int ((pre.length:Int)+s.size)]))) x8 x9;rw[SN,show (Prt.sm s).ws.length=s.size from fN s,show ((pre.length+s.size:Nat):Int)=(pre.length:Int)+s.size by lia] at this;exact this
  | nm x =>
   obtain ⟨c1,e1⟩:=kC (w:=SE x.w) (post:=(ps.map Prt.ws).flatten) hw2;have tn:=(wJ (G:=G) (runN T G (k+ws.length+1)) w0 w2 w3 ws hl hg fd (by lia) pre.length x7 x8 x9 h).2 c1;rw[e1] at tn;obtain ⟨y8,y9,e⟩:=tn.2 (by rw[sM];decide) (.str (SE x.w)) (λz=>by rw[yZ x] at z;exact dS z.1) (λ_=>rfl);show ∃ y6 y7 y8 y9,fP (evS _ _ _ [_,_,_,_,_,_,sv (sg8 "name"),_,_,_] _) _=_;rw[N3,e,dO];have:=go (fd++[.str (SE x.w)]) (by simp;lia) (aa (.p (.str "w"))) x7 y8 y9;rw[SN,show (Prt.nm x).ws.length=1 from rfl,show ((pre.length+1:Nat):Int)=(pre.length:Int)+1 by lia] at this;exact this
  | pl q hq =>
   have wq:=mZ hn hq;have ln:=l7 wq;obtain ⟨c1,e1⟩:=kC (w:=fC q) (post:=(ps.map Prt.ws).flatten) hw2;have tn:=(wJ (G:=G) (runN T G (k+ws.length+1)) w0 w2 w3 ws hl hg fd (by lia) pre.length x7 x8 x9 h).2 c1;rw[e1] at tn;obtain ⟨y8,y9,e⟩:=tn.2 (by lia) (.int q) (λ_=>⟨q,Wb wq.1 (by have:=wq.2;lia),rfl⟩) (λz=>absurd ⟨jP wq,λz=>by rw[z] at ln;exact absurd ln.1 (by decide)⟩ z);show ∃ y6 y7 y8 y9,fP (evS _ _ _ [_,_,_,_,_,_,sv (sg8 "place"),_,_,_] _) _=_;rw[N4,e,dO];have:=go (fd++[.int q]) (by simp;lia) (aa (.p (.str "w"))) x7 y8 y9;rw[SN,show (Prt.pl q).ws.length=1 from rfl,show ((pre.length+1:Nat):Int)=(pre.length:Int)+1 by lia] at this;exact this
theorem zb (F:FK → List W → HH → Option (W×HH)) (ln:az) (hln:GT ln) (ws:List az) (hws:Txt.split ln " "=ws) (w:az) (i0:fE (.lst (ws.map .str)) (.int 0)=aa (.str w)) (h:HH) :
 (kH w=af → evS F G fU.body [sv ln,af,af,af,af,af,af,af,af,af] h=aa (.rt (.p .non) h)) ∧
 (∀ fs,kH w=aa fs → ∃ w3,evS F G fU.body [sv ln,af,af,af,af,af,af,af,af,af] h =
  iJ (dJ (evS F G rvB) [(6,"_law_sign")] (fs.map λf=>.str (sg8 f)) [sv ln,lv (ws.map .str),aa (.k (.l shK)),w3,tv [.str w],iv 1,af,af,af,af] h) (evS F G (.ret rvZ))):=by
 have ls:=hln.len;have sp:=fJ (x:=ln) (by lia) (y:=" ") rfl h;rw[hws] at sp;generalize ws.map D.str=L at *;have e1:BT.ev F G (.tx .split (.cons (.var 0) (.cons (.cst (.str " ")) .nil))) [sv ln,af,af,af,af,af,af,af,af,af] h=aa (.p (.lst L),h):=by simp[sp]
 have e2:BT.ev F G rvD [sv ln,lv L,af,af,af,af,af,af,af,af] h=aa (.k (.l shK),h):=rfl;have st:∀ sh:D,BT.ev F G rvH [sv ln,lv L,aa (.k (.l shK)),af,af,af,af,af,af,af] h=aa (.p sh,h) →
  evS F G fU.body [sv ln,af,af,af,af,af,af,af,af,af] h=evS F G (.seq (.ife (.cmp .isN (.var 3) (.cst .non)) (.ret (.cst .non)) .nil) (.seq (.set 4 (.tup (.cons (.idx (.var 1) (.cst (.int 0))) .nil))) (.seq (.set 5 (.cst (.int 1))) (.seq (.for [(6,"_law_sign")] .chs (.cons (.var 3) .nil) rvB) (.ret rvZ))))) [sv ln,lv L,aa (.k (.l shK)),aa (.p sh),af,af,af,af,af,af] h:=λsh e3=>by
  show evS F G (.seq (.set 1 _) (.seq (.set 2 rvD) (.seq (.set 3 rvH) _))) _ _=_;rw[eU e1];show evS F G (.seq (.set 2 rvD) _) [sv ln,lv L,af,af,af,af,af,af,af,af] h=_;rw[eU e2];show evS F G (.seq (.set 3 rvH) _) [sv ln,lv L,aa (.k (.l shK)),af,af,af,af,af,af,af] h=_;rw[eU e3];rfl
 have no:∀ (sh:az) (fs:List az),nG sh=fs.map (λf=>.str (sg8 f)) → BT.ev F G rvH [sv ln,lv L,aa (.k (.l shK)),af,af,af,af,af,af,af] h=aa (.p (.str sh),h) →
  evS F G fU.body [sv ln,af,af,af,af,af,af,af,af,af] h =
  iJ (dJ (evS F G rvB) [(6,"_law_sign")] (fs.map λf=>.str (sg8 f)) [sv ln,lv L,aa (.k (.l shK)),sv sh,tv [.str w],iv 1,af,af,af,af] h) (evS F G (.ret rvZ)):=λsh fs hc e3=>by
  rw[st _ e3,qH (by simp)];have e4:BT.ev F G (.tup (.cons (.idx (.var 1) (.cst (.int 0))) .nil)) [sv ln,lv L,aa (.k (.l shK)),sv sh,af,af,af,af,af,af] h=aa (.p (.tup [.str w]),h):=by simp[-dG,i0]
  rw[eU e4];show evS F G (.seq (.set 5 (.cst (.int 1))) _) [sv ln,lv L,aa (.k (.l shK)),sv sh,tv [.str w],af,af,af,af,af] h=_;rw[eU (w:=.p (.int 1)) (g:=h) rfl];show iJ (evS F G (.for [(6,"_law_sign")] .chs (.cons (.var 3) .nil) rvB) [sv ln,lv L,aa (.k (.l shK)),sv sh,tv [.str w],iv 1,af,af,af,af] h) (evS F G (.ret rvZ))=_;rw[← hc];rfl
 have i0':BT.ev F G (.idx (.var 1) (.cst (.int 0))) [sv ln,lv L,aa (.k (.l shK)),af,af,af,af,af,af,af] h=aa (.p (.str w),h):=by simp[-dG,i0]
 have hu:∀ g:w≠"unless",BT.ev F G rvH [sv ln,lv L,aa (.k (.l shK)),af,af,af,af,af,af,af] h=aa (.p ((ff shK (.inr w)).getD .non),h):=λg=>by unfold rvH;have k0:kTx .dget [.k (.l shK),.p (.str w)] h=aa (.p ((ff shK (.inr w)).getD .non),h):=rfl;generalize shK=SK at *;rw[NS (wj i0' (d':=.str "unless") (by simp) (by simp[g]))];simp[-dG,i0,k0]
 cases shp w with
 | no f g e =>
  have e3:=hu g;rw[e] at e3;refine ⟨λ_=>?_,λfs z=>by rw[f] at z;cases z⟩;rw[st _ e3];exact jk (by simp) (by simp)
 | un c f =>
  subst c;refine ⟨λz=>(by rw[f] at z;cases z),λfs z=>?_⟩;rw[f] at z;cases z;refine ⟨_,no "sw" _ rfl ?_⟩;unfold rvH;rw[DB (wj i0' (d':=.str "unless") (by simp) (by simp))];simp
 | yes g fs sh f e c =>
  have e3:=hu g;rw[e] at e3;refine ⟨λz=>(by rw[f] at z;cases z),λfs' z=>?_⟩;rw[f] at z;cases z;exact ⟨_,no sh fs c e3⟩
theorem KM (hT:T "_law_sum_at"=aa fT) (hR:T "_law_row_of"=aa fU) (ln:az) (hln:GT ln) (k:Nat) (h:HH):∃ r:D,(r=.non ∨ ∃ fd,r=.tup fd) ∧ runN T G (k+(Txt.split ln " ").length+2) "_law_row_of" [.p (.str ln)] h=aa (.p r,h):=by
 have hws:Txt.split ln " "≠[]:=fS _ _;have hg:∀ t∈Txt.split ln " ",GT t:=by rw[gj];exact hln.piece
 have hl:(Txt.split ln " ").length ≤ 4000:=by rw[gj];exact SZ hln.count (by decide)
 obtain ⟨ws,ew⟩:∃ ws,Txt.split ln " "=ws:=⟨_,rfl⟩;rw[ew] at hws hg hl ⊢;have hp:0 < ws.length:=List.length_pos_iff.mpr hws;have i0:fE (.lst (ws.map .str)) (.int 0)=aa (.str ws[0]):=gY ws 0 hp;have hd:=zb (G:=G) (runN T G (k+ws.length+1)) ln hln ws ew ws[0] i0 h;generalize ws[0]=w at *;have run:∀ d:D,evS (runN T G (k+ws.length+1)) G fU.body [sv ln,af,af,af,af,af,af,af,af,af] h=aa (.rt (.p d) h) → runN T G (k+ws.length+2) "_law_row_of" [.p (.str ln)] h=aa (.p d,h):=λd e=>kY hR rfl e;cases f:kH w with
 | none=>exact ⟨.non,.inl rfl,run _ (hd.1 f)⟩
 | some fs =>
  obtain ⟨w3,e⟩:=hd.2 fs f;rcases wK (G:=G) hT ws hl hg k (aa (.p (.str ln))) (aa (.k (.l shK))) w3 h fs [.str w] 1 af af af af (by have:=sW f;simp;lia) with q|⟨fd',p',y6,y7,y8,y9,q⟩
  ·have q:dJ (evS (runN T G (k+ws.length+1)) G rvB) [(6,"_law_sign")] (fs.map λf=>.str (sg8 f)) [sv ln,lv (ws.map .str),aa (.k (.l shK)),w3,tv [.str w],iv 1,af,af,af,af] h=aa (.rt (.p .non) h):=q;rw[q] at e;exact ⟨.non,.inl rfl,run _ e⟩
  ·have q:dJ (evS (runN T G (k+ws.length+1)) G rvB) [(6,"_law_sign")] (fs.map λf=>.str (sg8 f)) [sv ln,lv (ws.map .str),aa (.k (.l shK)),w3,tv [.str w],iv 1,af,af,af,af] h=_:=q;rw[q] at e;have ll:(ws.map D.str).length ≤ 100000:=by rw[SJ];lia
   by_cases c:(p':Int)=((ws.map D.str).length:Int)
   ·refine ⟨.tup fd',.inr ⟨fd',rfl⟩,run _ (e.trans ?_)⟩;generalize ws.map D.str=L at *;show evS _ G (.ret rvZ) _ h=_;simp[rvZ,c,ll]
   ·refine ⟨.non,.inl rfl,run _ (e.trans ?_)⟩;generalize ws.map D.str=L at *;show evS _ G (.ret rvZ) _ h=_;simp[rvZ,c,ll]
theorem N5 (hT:T "_law_sum_at"=aa fT) (hR:T "_law_row_of"=aa fU) {n:Nat} (hn:n ≤ 100) {r:Rw} (hr:r.ok n) (hln:GT r.txt) (k:Nat) (h:HH):runN T G (k+(Txt.split r.txt " ").length+2) "_law_row_of" [.p (.str r.txt)] h=aa (.p r.enc,h):=by
 have hg:∀ t∈Txt.split r.txt " ",GT t:=by rw[gj];exact hln.piece
 have hl:(Txt.split r.txt " ").length ≤ 4000:=by rw[gj];exact SZ hln.count (by decide)
 have ew:=ku hn hr;have i0:fE (.lst (r.wds.map .str)) (.int 0)=aa (.str r.wd):=by show atP _ ((0:Nat):Int)=_;rw[jm];rfl
 rw[ew] at hg hl;rw[ew];have hd:=zb (G:=G) (runN T G (k+r.wds.length+1)) r.txt hln r.wds ew r.wd i0 h;obtain ⟨w3,e⟩:=hd.2 _ (yQ r);obtain ⟨y6,y7,y8,y9,q⟩:=HP (G:=G) hT hn r.wds hl hg k (aa (.p (.str r.txt))) (aa (.k (.l shK))) w3 h r.prt [r.wd] [.str r.wd] af af af af (iB hr) rfl (by have:=mh r;simp;lia);have q:dJ (evS (runN T G (k+r.wds.length+1)) G rvB) [(6,"_law_sign")] ((r.prt.map Prt.f).map λf=>.str (sg8 f)) [sv r.txt,lv (r.wds.map .str),aa (.k (.l shK)),w3,tv [.str r.wd],iv 1,af,af,af,af] h=_:=q;rw[q] at e;rw[kr];refine kY hR rfl (e.trans ?_);have ll:(r.wds.map D.str).length ≤ 100000:=by rw[SJ];lia
 have c:(r.wds.length:Int)=((r.wds.map D.str).length:Int):=by rw[SJ]
 show evS _ G (.ret rvZ) [sv r.txt,lv (r.wds.map .str),aa (.k (.l shK)),w3,tv ([.str r.wd]++r.prt.map Prt.d),iv r.wds.length,y6,y7,y8,y9] h=_;generalize r.wds.length=N at *;generalize r.wds.map D.str=L at *;simp[rvZ,c,ll]
end
noncomputable def Ay:E:=(.or (.cmp .isN (.var 2) (.cst .non)) (.or (.not (.call "is_sum" (Z9 (.idx (.var 2) (.cst (.int 0)))))) (.cmp .ne (.call "written_sum" (Z9 (.idx (.var 2) (.cst (.int 0))))) (.var 1))))
noncomputable def Az:E:=(.or (.cmp .mem (.cst .non) (.var 3)) (.or (.not (.call "is_program" (Z9 (.var 3)))) (.cmp .ne (.call "written" (Z9 (.var 3))) (.var 1))))
noncomputable def duE:E:=(.comp ai .seq (Z9 (.slc (.tx .split (Z8 (.var 1) (.cst (.str "\n")))) .nil (Z9 (.neg (.cst (.int 1)))))) ["_law_line"] [] .nil (.call "_law_row_of" (Z9 (.var 0))))
noncomputable def DR:S:=(.seq (.set 2 (.call "_law_sum_at" (Z8 (.tx .split (Z8 (.var 1) (.cst (.str " ")))) (.cst (.int 0))))) (.seq (.ife Ay (.ret (.cst .non)) .nil) (.ret (.idx (.var 2) (.cst (.int 0))))))
noncomputable def DS:S:=(.seq (.set 3 (.bi .tuple ai (Z9 duE))) (.seq (.ife Az (.ret (.cst .non)) .nil) (.ret (.var 3))))
noncomputable def DT:Fn:=⟨["_law_way","_law_text"],["_law_way","_law_text","_law_inner","_law_rows"], (.seq (.ife (.cmp .eq (.var 0) (.cst (.int 0))) DR .nil) DS)⟩
noncomputable def lA:Fn:=⟨["_law_way","_law_text"],["_law_way","_law_text","e","_law_flags"],(.ret (.ite (.cmp .eq (.var 0) (.cst (.int 0))) (.call "read_sum" (Z9 (.var 1))) (.call "read" (Z9 (.var 1)))))⟩
noncomputable def GQ:S:=(.seq (.set 3 (.lst ai (Z7 (.isx "NoText" (.var 2)) (.isx "NoMoment" (.var 2)) (.isx "NoThing" (.var 2))))) (.ife (.and (.isx "ValueError" (.var 2)) (.cmp .eq (.var 3) (.lst ai (Z7 (.cst (.bl ah)) (.cst (.bl ai)) (.cst (.bl ai)))))) (.ret (.cst .non)) .nil))
structure Y81 (T:FK → Option Fn):Prop where
 sum_at:T "_law_sum_at"=aa fT
 row_of:T "_law_row_of"=aa fU
 due:T "_law_due"=aa DT
inductive Due (ok:D → Prop):D → Prop where
 | yes (d:D) (h:ok d):Due ok d
 | no (h:∀ d,¬ ok d):Due ok .non
noncomputable def lB (T TX:FK → Option Fn) (G:az → Option W) (k:Nat):List W → HH → Option (W×HH):=BS.lX (runN T G k) (fz T TX G k) (dk T) G lA GQ 2 "NoText"
theorem N6 (hl:ws.length=fn.ps.length) (e:evS F G fn.body (dN fn.ns.length ws) h=aa (.rt y g)):BS.lX F R Dd G fn hb i cn ws h=fin h y g:=by unfold BS.lX;rw[if_pos hl,e]
theorem Q8 (hl:ws.length=fn.ps.length) (e:evS F G fn.body (dN fn.ns.length ws) h=af) (r:rsS F R Dd G fn.body (dN fn.ns.length ws) h=aa (cn,h')) (e2:evS (λ_ _ _=>af) (λ_=>af) hb ((Te fn.ns.length af).set i (aa (.x cn))) h'=aa (.rt y g)):BS.lX F R Dd G fn hb i cn ws h=fin h y g:=by unfold BS.lX;rw[if_pos hl,e];simp only;rw[r];simp only;rw[if_pos trivial,e2]
section
variable {T TX:FK → Option Fn}{G:az → Option W}
theorem N7 (h:HH):evS (λ_ _ _=>af) (λ_=>af) GQ ((Te 4 af).set 2 (aa (.x (SE "NoText")))) h=aa (.rt (.p .non) h):=by simp[GQ,nI,vK,fL]
theorem zd {k:Nat}{way:Nat} (hw:(way=0 ∧ f="read_sum") ∨ (way=1 ∧ f="read")) (r:RdS T TX G k f x h ok):∃ d,Due ok d ∧ lB T TX G k [.p (.int way),.p (.str x)] h=aa (.p d,h):=by
 have ev0:evS (runN T G k) G lA.body (dN 4 [.p (.int way),.p (.str x)]) h=bnd (runN T G k (.f f) [.p (.str x)] h) EX:=by
  rcases hw with ⟨rfl,rfl⟩|⟨rfl,rfl⟩
  simp[lA,dN];simp[lA,dN]
 have rs0:rsS (runN T G k) (fz T TX G k) (dk T) G lA.body (dN 4 [.p (.int way),.p (.str x)]) h=fz T TX G k (.f f) [.p (.str x)] h:=by
  have es:evs (runN T G k) G (.cons (.var 1) .nil) (dN 4 [.p (.int way),.p (.str x)]) h=aa ([.p (.str x)],h):=by simp[dN]
  show rsS _ _ _ G (.ret (.ite _ _ _)) _ _=_;rw[xs5,xe8];rcases hw with ⟨rfl,rfl⟩|⟨rfl,rfl⟩
  ·have ec:BT.ev (runN T G k) G (.cmp .eq (.var 0) (.cst (.int 0))) (dN 4 [.p (.int ((0:Nat):Int)),.p (.str x)]) h=aa (.p (.bl ah),h):=by simp[dN]
   rw[ec,qQ,xe4,es,nB]
  ·have ec:BT.ev (runN T G k) G (.cmp .eq (.var 0) (.cst (.int 0))) (dN 4 [.p (.int ((1:Nat):Int)),.p (.str x)]) h=aa (.p (.bl ai),h):=by simp[dN]
   rw[ec,NT,xe4,es,nB]
 cases r with
 | yes d o e =>
  refine ⟨d,.yes d o,?_⟩;rw[e] at ev0;exact (N6 rfl ev0).trans (cT _ _)
 | no o g e r =>
  refine ⟨.non,.no o,?_⟩;rw[e] at ev0;rw[r] at rs0;exact (Q8 rfl ev0 rs0 (N7 _)).trans (lY h g .non)
theorem DU (d e:D):fE (.tup [d,e]) (.int 0)=aa d:=rfl
theorem Q9 (P:P80 T G) (Y:Y81 T) (k:Nat) (x:az) (hx:GT x) (hc:(Txt.split x " ").length ≤ 63) (h:HH):∃ d,Due (IsS x) d ∧ runN T G (k+74) "_law_due" [.p (.int 0),.p (.str x)] h=aa (.p d,h):=by
 have ls:=hx.len;have sp:=fJ (x:=x) (by lia) (y:=" ") rfl h;have hws:Txt.split x " "≠[]:=fS _ _;have hg:∀ t∈Txt.split x " ",GT t:=by rw[gj];exact hx.piece
 obtain ⟨ws,ew⟩:∃ ws,Txt.split x " "=ws:=⟨_,rfl⟩;rw[ew] at hws hg hc sp;have c0:BT.ev (runN T G (k+73)) G (.cmp .eq (.var 0) (.cst (.int 0))) [iv 0,sv x,af,af] h=aa (.p (.bl ah),h):=by simp
 have go:∀ (r d:D),runN T G (k+73) "_law_sum_at" [.p (.lst (ws.map .str)),.p (.int 0)] h=aa (.p r,h) → evS (runN T G (k+73)) G (.seq (.ife Ay (.ret (.cst .non)) .nil) (.ret (.idx (.var 2) (.cst (.int 0))))) [iv 0,sv x,aa (.p r),af] h=aa (.rt (.p d) h) → runN T G (k+74) "_law_due" [.p (.int 0),.p (.str x)] h=aa (.p d,h):=λr d e1 e2=>by
  have es:BT.ev (runN T G (k+73)) G (.call "_law_sum_at" (.cons (.tx .split (.cons (.var 1) (.cons (.cst (.str " ")) .nil))) (.cons (.cst (.int 0)) .nil))) [iv 0,sv x,af,af] h=aa (.p r,h):=by generalize ws.map D.str=L at *;simp[sp,e1]
  have e3:evS (runN T G (k+73)) G DR [iv 0,sv x,af,af] h=aa (.rt (.p d) h):=(eU es).trans e2;refine kY Y.due rfl ?_;show evS (runN T G (k+73)) G (.seq (.ife (.cmp .eq (.var 0) (.cst (.int 0))) DR .nil) DS) [iv 0,sv x,af,af] h=_;generalize DR=A at *;generalize DS=B at *;simp[e3]
 by_cases c:∃ d,IsS x d
 ·obtain ⟨d,s,hs,rfl,rfl⟩:=c;refine ⟨s.enc,.yes _ ⟨s,hs,rfl,rfl⟩,?_⟩;have e:=m8 hs.1;rw[e] at ew;subst ew;have sz:=hs.2;have e1:=ve (G:=G) Y.sum_at s.wds (by rw[fN];lia) hg s hs.1 [] [] (by simp) (k+(72 - s.size)) h;rw[show k+(72 - s.size)+s.size+1=k+73 by lia] at e1;have a:=jQ (iU P) (k+69) s.enc h;rw[sZ hs] at a;have b:=eg P (k+71) hs.1 (by lia) h;refine go _ _ e1 ?_;have i0:=DU s.enc (.int (((([]:List az).length:Nat):Int)+s.size));generalize (D.tup [s.enc,.int (((([]:List az).length:Nat):Int)+s.size)])=RR at *;have nn:gR .isN RR .non=aa ai:=by
   cases RR with
   | non=>simp[fE] at i0| _=>rfl
  generalize s.txt=TT at *;generalize s.enc=EN at *;simp[-gw,Ay,nn,i0,a,b]
 ·have hn:∀ d,¬ IsS x d:=λd z=>c ⟨d,z⟩;refine ⟨.non,.no hn,?_⟩;obtain ⟨r,sr,er⟩:=DP (G:=G) Y.sum_at ws (by lia) hg ws.length 0 (by lia);have e1:=er (k+(72 - ws.length)) h;rw[show k+(72 - ws.length)+ws.length+1=k+73 by lia] at e1;refine go r .non e1 ?_;cases sr with
  | non=>exact jk (by simp[Ay]) (by simp)
  | some d e he =>
   refine jk ?_ (by simp);have a:=jQ (iU P) (k+69) d h;have i0:=DU d (.int e);cases q:nM d with
   | false =>
    rw[q] at a;simp[-gw,Ay,i0,a]
   | true =>
    rw[q] at a;obtain ⟨s,hs,rfl⟩:=iC q;have b:=eg P (k+71) hs.1 (by have:=hs.2;lia) h;have ne:¬ s.txt=x:=λe=>hn _ ⟨s,hs,e.symm,rfl⟩;generalize s.txt=TT at *;generalize s.enc=EN at *;simp[-gw,Ay,i0,a,b,ne]
theorem ze (Y:Y81 T) (k:Nat) (h:HH):∀ ls:List az,(∀ t∈ls,GT t ∧ (Txt.split t " ").length ≤ 63) →
 ∃ ds,dj (dI (evs (runN T G (k+73)) G .nil) (BT.ev (runN T G (k+73)) G (.call "_law_row_of" (.cons (.var 0) .nil))) []) 1 (ls.map .str) h=aa (ds,h) ∧ ds.length=ls.length
 | [],_=>⟨[],rfl,rfl⟩
 | t::ls,hg=>by obtain ⟨g1,g2⟩:=hg t SG;obtain ⟨r,_,e⟩:=KM (G:=G) Y.sum_at Y.row_of t g1 (k+(71 - (Txt.split t " ").length)) h;rw[show k+(71 - (Txt.split t " ").length)+(Txt.split t " ").length+2=k+73 by lia] at e;obtain ⟨ds,q1,q2⟩:=ze Y k h ls λu hu=>hg u (SI _ hu);refine ⟨r::ds,?_,by rw[SX,SX,q2]⟩;have st:dj (dI (evs (runN T G (k+73)) G .nil) (BT.ev (runN T G (k+73)) G (.call "_law_row_of" (.cons (.var 0) .nil))) []) 1 ((t::ls).map .str) h=bnd (bnd (runN T G (k+73) (.f "_law_row_of") [.p (.str t)] h) gJ) (kG (dj (dI (evs (runN T G (k+73)) G .nil) (BT.ev (runN T G (k+73)) G (.call "_law_row_of" (.cons (.var 0) .nil))) []) 1 (ls.map .str))):=rfl;rw[st,e,cZ];have ek:gJ (.p r) h=aa (aa r,h):=rfl;rw[ek,cZ,gc,q1];rfl
theorem HQ (Y:Y81 T) (k:Nat) (h:HH) (hn:n ≤ 100):∀ pg:Pg,(∀ r∈pg,r.ok n) → (∀ r∈pg,GT r.txt) →
 dj (dI (evs (runN T G (k+73)) G .nil) (BT.ev (runN T G (k+73)) G (.call "_law_row_of" (.cons (.var 0) .nil))) []) 1 ((pg.map Rw.txt).map .str) h=aa (pg.map Rw.enc,h)
 | [],_,_=>rfl
 | r::pg,hok,hg=>by have hr:=hok r SG;have lw:=(mj hn hr).2;have e:=N5 (G:=G) Y.sum_at Y.row_of hn hr (hg r SG) (k+(71 - (Txt.split r.txt " ").length)) h;have es:=ku hn hr;rw[show k+(71 - (Txt.split r.txt " ").length)+(Txt.split r.txt " ").length+2=k+73 by rw[es];lia] at e;have q:=HQ Y k h hn pg (λx hx=>hok x (SI _ hx)) λx hx=>hg x (SI _ hx);have st:dj (dI (evs (runN T G (k+73)) G .nil) (BT.ev (runN T G (k+73)) G (.call "_law_row_of" (.cons (.var 0) .nil))) []) 1 (((r::pg).map Rw.txt).map .str) h=bnd (bnd (runN T G (k+73) (.f "_law_row_of") [.p (.str r.txt)] h) gJ) (kG (dj (dI (evs (runN T G (k+73)) G .nil) (BT.ev (runN T G (k+73)) G (.call "_law_row_of" (.cons (.var 0) .nil))) []) 1 ((pg.map Rw.txt).map .str))):=rfl;rw[st,e,cZ];have ek:gJ (.p r.enc) h=aa (aa r.enc,h):=rfl;rw[ek,cZ,gc,q];rfl
theorem N8 (d:D):eqv d .non=ig d:=by cases d<;>rfl
theorem zf (ds:List D):gR .mem .non (.tup ds)=aa (ds.any ig):=by rw[eZ,if_pos (by rw[TU];intro y _;exact rg (by rfl))];congr 1;exact congrArg (λf=>ds.any f) (funext N8)
theorem Rb (P:P80 T G) (Y:Y81 T) (k:Nat) (x:az) (hx:GT x) (hc:∀ l∈Txt.split x "\n", (Txt.split l " ").length ≤ 63) (h : HH) : ∃ d, Due (IsP x) d ∧ runN T G (k + 74) "_law_due" [.p (.int 1),.p (.str x)] h=aa (.p d,h):=by
 have ll:=hx.len;have sp:=λh=>fJ (x:=x) (by lia) (y:="\n") rfl h;obtain ⟨ls,t,el⟩:=pQ x;have hg:∀ t∈ls,GT t ∧ (Txt.split t " ").length ≤ 63:=λu hu=>by refine ⟨?_,hc u (by rw[el];exact T4 _ hu)⟩;have:=hx.piece (c:=10) u;rw[← jO,el] at this;exact this (T4 _ hu)
 have hl:ls.length ≤ 4000:=by have:=hx.count (c:=10);rw[← jO,el,SN] at this;lia
 have s0:=pM (ls.map .str) (.str t);rw[el,TV] at sp;have ea:evs (runN T G (k+73)) G (.cons (.slc (.tx .split (.cons (.var 1) (.cons (.cst (.str "\n")) .nil))) .nil (.cons (.neg (.cst (.int 1))) .nil)) .nil) [iv 1,sv x,af,af] h=aa ([.p (.lst (ls.map .str))],h):=by rw[show [t].map D.str=[.str t] from rfl] at sp;generalize ls.map D.str++[D.str t]=L at *;generalize ls.map D.str=L2 at *;simp[-kP,sp,s0]
 have go:∀ (ds:List D) (d:D),dj (dI (evs (runN T G (k+73)) G .nil) (BT.ev (runN T G (k+73)) G (.call "_law_row_of" (.cons (.var 0) .nil))) []) 1 (ls.map .str) h=aa (ds,h) → ds.length=ls.length → evS (runN T G (k+73)) G (.seq (.ife Az (.ret (.cst .non)) .nil) (.ret (.var 3))) [iv 1,sv x,af,aa (.p (.tup ds))] h=aa (.rt (.p d) h) → runN T G (k+74) "_law_due" [.p (.int 1),.p (.str x)] h=aa (.p d,h):=λds d q1 q2 q3=>by
  have ec:BT.ev (runN T G (k+73)) G duE [iv 1,sv x,af,af] h=aa (.p (.lst ds),h) :=
   cgo (ws:=[.p (.lst (ls.map .str))]) (h1:=h) (fs:=[]) ea rfl rfl rfl q1 (by rw[q2];lia)
  have l2:ds.length ≤ 100000:=by rw[q2];lia
  refine kY Y.due rfl ?_;show evS (runN T G (k+73)) G (.seq (.ife (.cmp .eq (.var 0) (.cst (.int 0))) DR .nil) DS) [iv 1,sv x,af,af] h=_;rw[qH (by simp)];unfold DS;have e3:BT.ev (runN T G (k+73)) G (.bi .tuple ai (.cons duE .nil)) [iv 1,sv x,af,af] h=aa (.p (.tup ds),h):=by generalize duE=EE at *;simp[ec,l2]
  rw[eU e3];exact q3
 by_cases c:∃ d,IsP x d
 ·obtain ⟨d,pg,hl2,hok,rfl,rfl⟩:=c;refine ⟨gy pg,.yes _ ⟨pg,hl2,hok,rfl,rfl⟩,?_⟩;have hn:pg.length ≤ 100:=by lia
  have e:=uS hn hok;rw[el] at e;obtain ⟨e1,e2⟩:=List.append_inj' e rfl;subst e1;have q1:=HQ (G:=G) Y k h hn pg hok λr hr=>(hg r.txt (VV hr)).1;refine go _ _ q1 (by simp) ?_;have a:=gX (iU P) (k+66) (gy pg) h;rw[uZ hl2 hok] at a;have b:=gk P hn hn hok (k+69) h;have m:=zf (pg.map Rw.enc);have mf:(pg.map Rw.enc).any ig=ai:=by rw[List.any_eq_false];intro d hd;obtain ⟨r,_,rfl⟩:=List.mem_map.mp hd;rw[kr];exact λz=>dS z
  rw[mf] at m;rw[show D.tup (pg.map Rw.enc)=gy pg from rfl] at m ⊢;generalize pgT pg=TT at *;generalize gy pg=EN at *;simp[-eZ,Az,m,a,b]
 ·have hn:∀ d,¬ IsP x d:=λd z=>c ⟨d,z⟩;refine ⟨.non,.no hn,?_⟩;obtain ⟨ds,q1,q2⟩:=ze (G:=G) Y k h ls hg;refine go ds .non q1 q2 (jk ?_ (by simp));have m:=zf ds;cases mb:ds.any ig with
  | true =>
   rw[mb] at m;simp[-eZ,Az,m]
  | false =>
   rw[mb] at m;have a:=gX (iU P) (k+66) (.tup ds) h;cases q:nA (.tup ds) with
   | false =>
    rw[q] at a;simp[-eZ,Az,m,a]
   | true =>
    rw[q] at a;obtain ⟨pg,hl2,hok,e⟩:=qP q;rw[e] at a m ⊢;have b:=gk P (n:=pg.length) (by lia) (by lia) hok (k+69) h;have ne:¬ pgT pg=x:=λe=>hn _ ⟨pg,hl2,hok,e.symm,rfl⟩;generalize pgT pg=TT at *;generalize gy pg=EN at *;simp[-eZ,Az,m,a,b,ne]
end
def Cn (m B:Nat) (l:List Nat):Prop:=∀ a b c,l=a++(b++c) → m∉b → b.count 32 ≤ B
theorem Cn.mid (h:Cn m B (a++(b++c))):Cn m B b:=λx y z e hy=>h (a++x) y (z++c) (by rw[e];simp) hy
theorem Cn.mono (h:Cn m B l) (le:B ≤ B'):Cn m B' l:=λa b c e hb=>SZ (h a b c e hb) le
theorem jv (h:l.count 32 ≤ B):Cn m B l:=λa b c e _=>by rw[e,We,We] at h;lia
theorem wL (hl:Cn m B l) (hr:Cn m C r):Cn m (B+C) (l++r):=by
 intro a b c e hb;rcases List.append_eq_append_iff.mp e with ⟨d,e1,e2⟩|⟨d,e1,e2⟩
 exact SZ (hr d b c e2 hb) (by lia)
 ·rcases List.append_eq_append_iff.mp e2 with ⟨f,f1,f2⟩|⟨f,f1,f2⟩
  exact SZ (hl a b f (by rw[e1,f1]) hb) (by lia)
  ·have q1:=hl a d [] (by rw[e1];simp) (λz=>hb (by rw[f1];exact T4 _ z));have q2:=hr [] f c (by rw[f2];rfl) (λz=>hb (by rw[f1];exact Tj _ z));rw[f1,We];lia
theorem KN (hl:Cn m B l) (hr:Cn m B r):Cn m B (l++m::r):=by
 intro a b c e hb;rcases List.append_eq_append_iff.mp e with ⟨d,e1,e2⟩|⟨d,e1,e2⟩
 ·cases d with
  | nil =>
   cases b with
   | nil=>simp| cons x b=>exact absurd (by rw[(Us e2).1];exact SG) hb
  | cons x d=>exact hr d b c (Us e2).2 hb
 ·rcases List.append_eq_append_iff.mp e2 with ⟨f,f1,f2⟩|⟨f,f1,f2⟩
  exact hl a b f (by rw[e1,f1]) hb
  ·cases f with
   | nil=>exact hl a b [] (by rw[e1,f1];simp) hb| cons x f=>exact absurd (by rw[f1,(Us f2).1];simp) hb
theorem HR:∀ ls:List (List Nat),(∀ l∈ls,Cn m B l) → Cn m B (jl m ls)
 | [],_=>jv (UK _)| [l],h=>h l SG| l::l'::r,h=>KN (h l SG) (HR (l'::r) λx hx=>h x (SI _ hx))
def Cs (m B:Nat) (x:az):Prop:=Cn m B x.cps.toList
theorem pS:Cs m B (⟨#[]⟩:az):=jv (UK _)
theorem jw (x y:az):(x++y).cps.toList=x.cps.toList++y.cps.toList:=by show (x.cps++y.cps).toList=_;simp
theorem kD (c:Nat) (hz:Cs m B (SV ⟨#[c]⟩ zs)) (hu:Cs m C (SV ⟨#[c]⟩ us)):Cs m (B+1+C) (SV ⟨#[c]⟩ (zs++us)):=by
 by_cases c1:zs=[]
 subst c1;exact hu.mono (by lia)
 by_cases c2:us=[]
 subst c2;rw[Ug];exact hz.mono (by lia);rw[i9 _ _ _ c1 c2];unfold Cs;rw[jw,jw];refine wL (wL hz (jv ?_)) hu;show List.count 32 [c] ≤ 1;exact List.count_le_length
theorem mz (h:Cs m B (SV ⟨#[c]⟩ ts)) (i:Nat):Cs m B (SV ⟨#[c]⟩ (ts.take i)):=by
 by_cases c1:ts.take i=[]
 rw[c1];exact pS
 by_cases c2:ts.drop i=[]
 ·have:=TZ i ts;rw[c2,Ug] at this;rw[this];exact h
 rw[← TZ i ts,i9 _ _ _ c1 c2] at h;unfold Cs at h;rw[jw,jw,TH] at h;exact Cn.mid (a:=[]) h
theorem mD (h:Cs m B (SV ⟨#[c]⟩ ts)) (i:Nat):Cs m B (SV ⟨#[c]⟩ (ts.drop i)):=by
 by_cases c1:ts.take i=[]
 ·have:=TZ i ts;rw[c1,UT] at this;rw[this];exact h
 by_cases c2:ts.drop i=[]
 rw[c2];exact pS;rw[← TZ i ts,i9 _ _ _ c1 c2] at h;unfold Cs at h;rw[jw] at h;have h2:Cn m B ((SV ⟨#[c]⟩ (ts.take i)++⟨#[c]⟩).cps.toList++((SV ⟨#[c]⟩ (ts.drop i)).cps.toList++[])):=by rw[Ug];exact h
 exact h2.mid
noncomputable def texts (x:az) (a:Nat) (w:az) (t:Nat):List az :=
 [SV " " ((Txt.split x " ").take a++(Txt.split x " ").drop (a+1)),SV " " ((Txt.split x " ").take (a+1)++(Txt.split x " ").drop a),SV " " ((Txt.split x " ").take a++[w]++(Txt.split x " ").drop (a+1)),
  x,⟨x.cps.extract 0 (x.length - 1)⟩,x++"\n", Str.join "\n" ((Txt.split x "\n").take t ++ (Txt.split x "\n").drop (t + 1)), Str.join "\n" ((Txt.split x "\n").take (t + 1) ++ (Txt.split x "\n").drop t), "", "stop\n"]
theorem zg (x:az) (k:Nat):∃ r,x.cps.toList=(⟨x.cps.extract 0 k⟩:az).cps.toList++r:=by refine ⟨x.cps.toList.drop k,?_⟩;show x.cps.toList=(x.cps.extract 0 k).toList++_;simp
theorem vf (hx:Cs m B x) (hw:w.cps.toList.count 32=0) (hB:B ≤ 30) (a t:Nat):∀ y∈texts x a w t,Cs m 62 y:=by
 have hs:Cs m B (SV ⟨#[32]⟩ (Txt.split x ⟨#[32]⟩)):=by rw[Uy];exact hx
 have hn:Cs m B (SV ⟨#[10]⟩ (Txt.split x ⟨#[10]⟩)):=by rw[Uy];exact hx
 have hw1:Cs m 0 (SV ⟨#[32]⟩ [w]):=jv (Nat.le_of_eq hw);intro y hy;unfold texts at hy;rw[gj,jO] at hy;simp only[Uh,TR,or_false] at hy;rcases hy with rfl|rfl|rfl|rfl|rfl|rfl|rfl|rfl|rfl|rfl
 exact (kD 32 (mz hs a) (mD hs (a+1))).mono (by lia);exact (kD 32 (mz hs (a+1)) (mD hs a)).mono (by lia);exact (kD 32 (kD 32 (mz hs a) hw1) (mD hs (a+1))).mono (by lia);exact hx.mono (by lia)
 ·obtain ⟨r,e⟩:=zg x (x.length - 1);unfold Cs at hx;rw[e] at hx;exact (Cn.mid (a:=[]) hx).mono (by lia)
 ·unfold Cs;rw[jw];exact (wL hx (jv (B:=1) (by decide))).mono (by lia)
 exact (kD 10 (mz hn t) (mD hn (t+1))).mono (by lia);exact (kD 10 (mz hn (t+1)) (mD hn t)).mono (by lia);exact jv (by decide);exact jv (by decide)
theorem vg (hl:x.length ≤ 1962) (hx:Okp x) (hw:Okp w) (hw5:w.length ≤ 5) (a t:Nat):∀ y∈texts x a w t,GT y:=by
 have ps:=ni (c:=32) hx;have pn:=ni (c:=10) hx;have ws:=ja 32 x;have wn:=ja 10 x;have pj:∀ (c:Nat) (ts:List az),c < 128 → ¬ (48 ≤ c ∧ c ≤ 57) → (∀ u∈ts,Okp u) → wt ts ≤ 3990 → GT (SV ⟨#[c]⟩ ts):=λc ts c1 c2 h1 h2=>⟨SZ (DC c ts) h2,mw c1 c2 h1⟩;have two:∀ (ts:List az) (i j:Nat),wt (ts.take i++ts.drop j) ≤ 2*wt ts:=λts i j=>by rw[nh];have h1:=yT i ts;have h2:=yU j ts;lia
 have mm:∀ {ts:List az}{i j:Nat}{u:az},u∈ts.take i++ts.drop j → u∈ts:=λ{ts i j u} h=>by
  rcases List.mem_append.mp h with h|h
  exact Vc h;exact Vd h
 intro y hy;unfold texts at hy;rw[gj,jO] at hy;simp only[Uh,TR,or_false] at hy;rcases hy with rfl|rfl|rfl|rfl|rfl|rfl|rfl|rfl|rfl|rfl
 exact pj 32 _ (by decide) (by decide) (λu hu=>ps u (mm hu)) (SZ (two _ _ _) (by rw[ws];lia));exact pj 32 _ (by decide) (by decide) (λu hu=>ps u (mm hu)) (SZ (two _ _ _) (by rw[ws];lia))
 ·refine pj 32 _ (by decide) (by decide) (λu hu=>?_) ?_
  ·rcases List.mem_append.mp hu with hu|hu
   ·rcases List.mem_append.mp hu with hu|hu
    exact ps u (Vc hu);rw[List.mem_singleton.mp hu];exact hw
   exact ps u (Vd hu)
  ·rw[nh,nh];have h1:=yT a (Txt.split x ⟨#[32]⟩);have h2:=yU (a+1) (Txt.split x ⟨#[32]⟩);have h3:wt [w]=w.length+1:=rfl;rw[ws] at h1 h2;lia
 exact ⟨by lia,hx⟩
 ·obtain ⟨r,e⟩:=zg x (x.length - 1);refine ⟨?_,?_⟩
  ·show (x.cps.extract 0 (x.length - 1)).size ≤ 3990;rw[Y3];have:x.cps.size=x.length:=rfl;lia
  ·unfold Okp at hx;rw[e] at hx;exact Okl.mid (a:=[]) hx
 ·refine ⟨?_,?_⟩
  ·rw[UI];show x.length+1 ≤ 3990;lia
  ·unfold Okp;rw[jw];exact yS (s:=10) (by decide) (by decide) hx ⟨(λc hc=>nomatch hc),pN (UK _)⟩
 exact pj 10 _ (by decide) (by decide) (λu hu=>pn u (mm hu)) (SZ (two _ _ _) (by rw[wn];lia));exact pj 10 _ (by decide) (by decide) (λu hu=>pn u (mm hu)) (SZ (two _ _ _) (by rw[wn];lia));exact ⟨by decide,gD (by decide) (by decide)⟩;exact ⟨by decide,gD (by decide) (by decide)⟩
theorem vh:∀ ls:List (List Nat),ls≠[] → (∀ l∈ls,c∉l) → (jl c ls).count c+1=ls.length
 | [],h,_=>absurd rfl h
 | [l],_,h=>by show l.count c+1=1;rw[List.count_eq_zero.mpr (h l SG)]
 | l::l'::r,_,h=>by have ih:=vh (l'::r) (by simp) λx hx=>h x (SI _ hx);show (l++c::jl c (l'::r)).count c+1=(l'::r).length+1;rw[We,List.count_cons_self,List.count_eq_zero.mpr (h l SG)];lia
theorem kE (x:az):(Txt.split x " ").length=x.cps.toList.count 32+1:=by
 rw[gj];have e:=congrArg (λy:az=>y.cps.toList) (Uy x ⟨#[32]⟩);simp only[jq] at e;have q:=vh (c:=32) ((Txt.split x ⟨#[32]⟩).map λt=>t.cps.toList) (by simpa using fS x ⟨#[32]⟩) (λl hl=>by obtain ⟨t,ht,rfl⟩:=List.mem_map.mp hl;exact WR _ 32 t ht)
 rw[e,SJ] at q;exact q.symm
theorem KO (h:Cs 200 62 y) (g:GT y):(Txt.split y " ").length ≤ 63:=by rw[kE];have:=h [] y.cps.toList [] (by simp) (λz=>absurd (g.ok.1 200 z) (by decide));lia
theorem KP (h:Cs 10 62 y):∀ l∈Txt.split y "\n", (Txt.split l " ").length ≤ 63:=by intro l hl;rw[jO] at hl;rw[kE];have e:=congrArg (λz:az=>z.cps.toList) (Uy y ⟨#[10]⟩);simp only[jq] at e;obtain ⟨a,b,q⟩:=wG (c:=10) (l:=l.cps.toList) _ (VV (f:=λt:az=>t.cps.toList) hl);have:=h a l.cps.toList b (by rw[← e,q]) (WR _ 10 l hl);lia
theorem zh (hn:Wth n):∀ c∈(fC n).cps.toList,c < 128:=by
 obtain ⟨h0,h1⟩:=hn;obtain ⟨m,rfl⟩:=Wr h0;intro c hc;have hc:c∈(SE (toString ((m:Nat):Int))).cps.toList:=hc;rw[Wa] at hc;obtain ⟨ch,hch,rfl⟩:=List.mem_map.mp hc;have d:=X5 (by decide) (by decide) hch;unfold Char.isDigit at d;simp only[SM,decide_eq_true_eq] at d;have:ch.toNat ≤ 57:=by have:=d.2;exact this
 lia
theorem mE:∀ {s:Sm},s.ok → ∀ t∈s.wds,∀ c∈t.cps.toList,c < 128
 | .num n,h,t,ht=>by rw[show t=fC n by simpa [Sm.wds] using ht];exact zh h
 | .nam i,h,t,ht=>by rw[show t=SE i.w by simpa [Sm.wds] using ht];cases i<;>decide +kernel
 | .cell s,h,t,ht=>by
  rcases List.mem_cons.mp ht with rfl|ht
  ·decide +kernel
  exact mE (s:=s) h t ht
 | .two o a b,h,t,ht=>by
  rcases List.mem_cons.mp ht with rfl|ht
  cases o<;>decide +kernel
  ·rcases List.mem_append.mp ht with ht|ht
   exact mE (s:=a) h.1 t ht;exact mE (s:=b) h.2 t ht
theorem GR {n:Nat} (hn:n ≤ 100) {r:Rw} (hr:r.ok n):∀ t∈r.wds,∀ c∈t.cps.toList,c < 128:=by
 intro t ht;rcases List.mem_cons.mp ht with rfl|ht
 ·have:∀ w∈(["set","put","ask","say","jump","unless","call","back","stop"]:List String),∀ c∈(SE w).cps.toList,c < 128:=by decide +kernel
  exact this _ (sN r)
 ·obtain ⟨l,hl,h2⟩:=List.mem_flatten.mp ht;obtain ⟨p,hp,rfl⟩:=List.mem_map.mp hl;cases iB hr p hp with
  | sm s h=>exact mE h.1 t h2
  | nm x =>
   rw[show t=SE x.w by simpa [Prt.nm] using h2];cases x<;>decide +kernel
  | pl q h =>
   rw[show t=fC q by simpa [Prt.pl] using h2];exact zh (mZ hn h)
theorem zj {s:Sm} (hs:s.ok):Okp s.txt:=by unfold Sm.txt;rw[gj];exact mw (by decide) (by decide) λt ht=>gD (mE hs t ht) (SZ (k8 hs t ht) (by decide))
theorem GS {n:Nat} (hn:n ≤ 100) {r:Rw} (hr:r.ok n):Okp r.txt:=by unfold Rw.txt;rw[gj];exact mw (by decide) (by decide) λt ht=>gD (GR hn hr t ht) (SZ ((mj hn hr).1 t ht) (by decide))
theorem DV (hn:n ≤ 100) (hok:∀ r∈pg,r.ok n):Okp (pgT pg):=by
 rw[wC];refine mw (by decide) (by decide) λt ht=>?_;rcases List.mem_append.mp ht with ht|ht
 ·obtain ⟨r,hr,rfl⟩:=List.mem_map.mp ht;exact GS hn (hok r hr)
 ·rw[show t=⟨#[]⟩ by simpa using ht];exact gD (λc hc=>nomatch hc) (by decide)
theorem KQ {s:Sm} (hs:s.ok) (hz:s.size ≤ 15):Cs 200 30 s.txt:=by refine jv ?_;have:=kE s.txt;rw[m8 hs,fN] at this;lia
theorem N9 (hn:n ≤ 100) (hok:∀ r∈pg,r.ok n):Cs 10 30 (pgT pg):=by
 unfold Cs;rw[wC,jq];refine HR _ λl hl=>?_;obtain ⟨t,ht,rfl⟩:=List.mem_map.mp hl;rcases List.mem_append.mp ht with ht|ht
 ·obtain ⟨r,hr,rfl⟩:=List.mem_map.mp ht;refine jv ?_;have:=kE r.txt;rw[ku hn (hok r hr)] at this;have h2:=(mj hn (hok r hr)).2;lia
 ·rw[show t=⟨#[]⟩ by simpa using ht];exact pS
theorem zk (hn:n ≤ 100) (h9:pg.length ≤ 9) (hok:∀ r∈pg,r.ok n):(pgT pg).length ≤ 1962:=by
 have:=join_le "" 218 (pg.map lnT) λt ht=>by obtain ⟨r,hr,rfl⟩:=List.mem_map.mp ht;exact sO hn (hok r hr)
 have e:("":az).length=0:=rfl;rw[e,SJ] at this;exact SZ this (by lia)
theorem pT:∀ (s:Sm) (n:Nat),s.size ≤ n → dok n s.enc=ah
 | .num i,n,h=>by obtain ⟨m,rfl⟩:∃ m,n=m+1:=⟨n - 1,by have:1 ≤ n:=h;lia⟩;simp[Sm.enc]
 | .nam i,n,h=>by obtain ⟨m,rfl⟩:∃ m,n=m+1:=⟨n - 1,by have:1 ≤ n:=h;lia⟩;simp[Sm.enc]
 | .cell s,n,h=>by have h:s.size+1 ≤ n:=h;obtain ⟨m,rfl⟩:∃ m,n=m+1:=⟨n - 1,by lia⟩;simp[Sm.enc,pT s m (by lia)]
 | .two o a b,n,h=>by have h:a.size+b.size+1 ≤ n:=h;obtain ⟨m,rfl⟩:∃ m,n=m+1:=⟨n - 1,by lia⟩;simp[Sm.enc,pT a m (by lia),pT b m (by lia)]
theorem GU {n m:Nat} (hm:15 ≤ m) {p:Prt} (h:gQ n p):dok m p.d=ah:=by
 cases h with
 | sm s h=>exact pT s m (SZ h.2 hm)| nm x=>simp[Prt.nm]| pl q h=>simp[Prt.pl]
theorem KR {n m:Nat} (hm:15 ≤ m) {r:Rw} (h:r.ok n):dok (m+1) r.enc=ah:=by rw[kr,rf,Wl,EM,Yv,WD,TU];exact λp hp=>GU hm (iB h p hp)
theorem KS {n:Nat}{pg:Pg} (h:∀ r∈pg,r.ok n):dok 100 (gy pg)=ah:=by show dok (99+1) (.tup (pg.map Rw.enc))=ah;rw[rf,WD,TU];exact λr hr=>KR (m:=98) (by decide) (h r hr)
section
variable {T:FK → Option Fn}{G:az → Option W}
end
noncomputable def lwT:E:=(.ite (.cmp .eq (.var 1) (.cst (.int 0))) (.call "written_sum" (Z9 (.call "_law_sum" (Z7 (.var 0) (.cst (.int 1)) (.cst (.int 2)))))) (.call "written" (Z9 (.call "_law_program" (Z8 (.var 0) (.cst (.int 20)))))))
noncomputable def lwO:E:=(.lst ai (.cons (.cst (.str "add")) (.cons (.cst (.str "a")) (.cons (.cst (.str "7")) (.cons (.cst (.str "07")) (ZY (.cst (.str "cell")) (.cst (.str "10007")) (.cst (.str "x")) (.cst (.str "")) (.cst (.str "stop")) (.cst (.str "set")) (.cst (.str "-1")) (.cst (.str "99999"))))))))
noncomputable def lwS:E:=(.lst ai (Z7 (.bin .add (.slc (.var 3) .nil (Z9 (.var 4))) (.slc (.var 3) (Z9 (.bin .add (.var 4) (.cst (.int 1)))) .nil)) (.bin .add (.slc (.var 3) .nil (Z9 (.bin .add (.var 4) (.cst (.int 1))))) (.slc (.var 3) (Z9 (.var 4)) .nil)) (.bin .add (.bin .add (.slc (.var 3) .nil (Z9 (.var 4))) (.lst ai (Z9 (.var 6)))) (.slc (.var 3) (Z9 (.bin .add (.var 4) (.cst (.int 1)))) .nil))))
noncomputable def lwC:E:=(.comp ai .seq (Z9 (.var 7)) ["_law_row_here"] [] .nil (.tx .join (Z8 (.cst (.str " ")) (.var 0))))
noncomputable def lwX:E:=(.bin .add lwC (.lst ai (Z7 (.var 2) (.tx .pre (Z8 (.var 2) (.neg (.cst (.int 1))))) (.bin .add (.var 2) (.cst (.str "\n"))))))
noncomputable def lwY:E:=(.bin .add (.var 8) (.lst ai (Z6 (.tx .join (Z8 (.cst (.str "\n")) (.bin .add (.slc (.var 9) .nil (Z9 (.var 10))) (.slc (.var 9) (Z9 (.bin .add (.var 10) (.cst (.int 1)))) .nil)))) (.tx .join (Z8 (.cst (.str "\n")) (.bin .add (.slc (.var 9) .nil (Z9 (.bin .add (.var 10) (.cst (.int 1))))) (.slc (.var 9) (Z9 (.var 10)) .nil)))) (.cst (.str "")) (.cst (.str "stop\n")))))
noncomputable def lwQ:S:=(.ife (.cmp .ne (.call "_law_told" (Z8 (.var 1) (.var 11))) (.call "_law_due" (Z8 (.var 1) (.var 11)))) (.ret (.cst (.bl ai))) .nil)
noncomputable def lwB:S:=(.seq (.set 2 lwT) (.seq (.set 3 (.tx .split (Z8 (.var 2) (.cst (.str " "))))) (.seq (.set 4 (.call "_law_drawn" (Z7 (.var 0) (.bin .add (.cst (.int 500)) (.var 1)) (.bi .len ai (Z9 (.var 3)))))) (.seq (.set 5 lwO) (.seq (.set 6 (.idx (.var 5) (.call "_law_drawn" (Z7 (.var 0) (.bin .add (.cst (.int 502)) (.var 1)) (.cst (.int 12)))))) (.seq (.set 7 lwS) (.seq (.set 8 lwX) (.seq (.set 9 (.tx .split (Z8 (.var 2) (.cst (.str "\n"))))) (.seq (.set 10 (.call "_law_drawn" (Z7 (.var 0) (.bin .add (.cst (.int 504)) (.var 1)) (.bi .len ai (Z9 (.var 9)))))) (.seq (.set 8 lwY) (.for [(11,"_law_other")] .seq (Z9 (.var 8)) lwQ)))))))))))
noncomputable def kF:Fn:=⟨["_law_script"],["_law_script","_law_way","_law_text","_law_words","_law_at","_law_odd","_law_word","_law_some","_law_texts","_law_lines","_law_to","_law_other"], (.seq (.for [(1,"_law_way")] .rng1 (Z9 (.cst (.int 2))) lwB) (.ret (.cst (.bl ah))))⟩
noncomputable def iI:List az:=["add","a","7","07","cell","10007","x","","stop","set","-1","99999"]
theorem wM:∀ w∈iI,(∀ c∈w.cps.toList,c < 128) ∧ w.length ≤ 5 ∧ w.cps.toList.count 32=0:=by decide +kernel
theorem mF (l:List D) (a:Nat) (ha:a ≤ l.length):nF (.lst l) af (aa (a:Int))=aa (.lst (l.take a)):=by
 have e1:clip l.length 0 af=0:=rfl;have e2:clip l.length l.length (aa (a:Int))=a:=by show (if (a:Int) < 0 then ((a:Int)+(l.length:Int)).toNat else if (a:Int) ≤ (l.length:Int) then (a:Int).toNat else l.length)=a;rw[if_neg (by lia),if_pos (by lia)];rfl
 show aa (D.lst (cut l af (aa (a:Int))))=_;unfold cut;rw[e1,e2];simp
theorem mG (l:List D) (a:Nat) (ha:a ≤ l.length):nF (.lst l) (aa (a:Int)) af=aa (.lst (l.drop a)):=by
 have e1:clip l.length 0 (aa (a:Int))=a:=by show (if (a:Int) < 0 then ((a:Int)+(l.length:Int)).toNat else if (a:Int) ≤ (l.length:Int) then (a:Int).toNat else l.length)=a;rw[if_neg (by lia),if_pos (by lia)];rfl
 have e2:clip l.length l.length af=l.length:=rfl;show aa (D.lst (cut l (aa (a:Int)) af))=_;unfold cut;rw[e1,e2,VA (by simp)]
structure F81 (T:FK → Option Fn) (G:az → Option W) (K:Nat) (F:FK → List W → HH → Option (W×HH)):Prop where
 no:∀ y:az,¬ y="_law_told" → F (.f y)=runN T G K (.f y)
section
variable {T TX:FK → Option Fn}{G:az → Option W}
theorem GV (P:P80 T G) (h:IsS x d) (h':IsS x d'):d=d':=by
 obtain ⟨s,hs,e,rfl⟩:=h;obtain ⟨t,ht,e',rfl⟩:=h';have q:=DA P 0 hs [];have q':=DA P 0 ht [];rw[← e] at q;rw[← e',q] at q'
 injection q' with q'
 injection q' with q'
 injection q'
theorem GW (P:P80 T G) (h:IsP x d) (h':IsP x d'):d=d':=by
 obtain ⟨s,hl,hs,e,rfl⟩:=h;obtain ⟨t,hl',ht,e',rfl⟩:=h';have q:=Kz P hl hs 0 [];have q':=Kz P hl' ht 0 [];rw[← e] at q;rw[← e',q] at q'
 injection q' with q'
 injection q' with q'
 injection q'
theorem zl (u:∀ d d',ok d → ok d' → d=d') (h:Due ok d) (h':Due ok d'):d=d':=by
 cases h with
 | yes _ h =>
  cases h' with
  | yes _ h'=>exact u _ _ h h'| no h'=>exact absurd h (h' _)
 | no h =>
  cases h' with
  | yes _ h'=>exact absurd h' (h _)| no _=>rfl
def AA (F:FK → List W → HH → Option (W×HH)) (way:Nat) (x:az) (h:HH):Prop:=∃ d,dok 100 d=ah ∧ F (.f "_law_told") [.p (.int way),.p (.str x)] h=aa (.p d,h) ∧ F (.f "_law_due") [.p (.int way),.p (.str x)] h=aa (.p d,h)
theorem Oa (P:P80 T G) (X:X81 TX) (Y:Y81 T) (k j:Nat) (hF:F81 T G (k+74) F) (hT:F (.f "_law_told")=lB T TX G (j+5)) (x:az) (hx:GT x) (hc:Cs 200 62 x) (h:HH):AA F 0 x h:=by
 obtain ⟨d,q1,e1⟩:=zd (.inl ⟨rfl,rfl⟩) (tG P X j x hx h);obtain ⟨d',q2,e2⟩:=Q9 P Y k x hx (KO hc hx) h;have:=zl (λ_ _=>GV P) q1 q2;subst this;refine ⟨d,?_,by rw[hT];exact e1,by rw[hF.no _ (by decide)];exact e2⟩;cases q1 with
 | yes _ z =>
  obtain ⟨s,hs,_,rfl⟩:=z;exact pT s 100 (by have:=hs.2;lia)
 | no _=>rfl
theorem Ob (P:P80 T G) (X:X81 TX) (Y:Y81 T) (k j:Nat) (hF:F81 T G (k+74) F) (hT:F (.f "_law_told")=lB T TX G (j+8)) (x:az) (hx:GT x) (hc:Cs 10 62 x) (h:HH):AA F 1 x h:=by
 obtain ⟨d,q1,e1⟩:=zd (.inr ⟨rfl,rfl⟩) (DN P X j x hx h);obtain ⟨d',q2,e2⟩:=Rb P Y k x hx (KP hc) h;have:=zl (λ_ _=>GW P) q1 q2;subst this;refine ⟨d,?_,by rw[hT];exact e1,by rw[hF.no _ (by decide)];exact e2⟩;cases q1 with
 | yes _ z =>
  obtain ⟨s,_,hs,_,rfl⟩:=z;exact KS hs
 | no _=>rfl
theorem Rc (b:Sl → HH → Option Fl) (d:D) (r:List D) (w0 w1 w2 w3 w4 w5 w6 w7 w8 w9 w10 x11:Option W) (h:HH):dJ b [(11,"_law_other")] (d::r) [w0,w1,w2,w3,w4,w5,w6,w7,w8,w9,w10,x11] h=fP (b [w0,w1,w2,w3,w4,w5,w6,w7,w8,w9,w10,aa (.p d)] h) (dJ b [(11,"_law_other")] r):=rfl
theorem zm (F:FK → List W → HH → Option (W×HH)) (way:Nat) (h:HH) (w0 w2 w3 w4 w5 w6 w7 w8 w9 w10:Option W):∀ (ts:List az) (x11:Option W),(∀ t∈ts,AA F way t h) → ∃ y11,dJ (evS F G lwQ) [(11,"_law_other")] (ts.map .str) [w0,iv way,w2,w3,w4,w5,w6,w7,w8,w9,w10,x11] h=aa (.nx [w0,iv way,w2,w3,w4,w5,w6,w7,w8,w9,w10,y11] h)
 | [],x11,_=>⟨x11,rfl⟩
 | t::ts,x11,hs=>by
  obtain ⟨d,dk,e1,e2⟩:=hs t SG;have ne:gR .ne d d=aa ai:=by rw[rA,if_pos (rg dk),pF];rfl
  have eq:evS F G lwQ [w0,iv way,w2,w3,w4,w5,w6,w7,w8,w9,w10,sv t] h=aa (.nx [w0,iv way,w2,w3,w4,w5,w6,w7,w8,w9,w10,sv t] h):=by simp[-rA,lwQ,e1,e2,ne]
  obtain ⟨y,q⟩:=zm F way h w0 w2 w3 w4 w5 w6 w7 w8 w9 w10 ts (aa (.p (.str t))) λu hu=>hs u (SI _ hu);exact ⟨y,by rw[Tw,Rc,eq,dO,q]⟩
end
section
variable {T TX:FK → Option Fn}{G:az → Option W}
theorem zo (F:FK → List W → HH → Option (W×HH)) (h:HH):∀ tss:List (List az),(∀ ts∈tss,ts.length ≤ 4000 ∧ ∀ t∈ts,t.length ≤ 4000) →
 dj (dI (evs F G .nil) (BT.ev F G (.tx .join (.cons (.cst (.str " ")) (.cons (.var 0) .nil)))) []) 1 (tss.map λts=>.lst (ts.map .str)) h=aa ((tss.map λts=>.str (SV " " ts)),h)
 | [],_=>rfl
 | ts::tss,hh=>by
  obtain ⟨h1,h2⟩:=hh ts SG;have q:=zo F h tss λu hu=>hh u (SI _ hu);have j:=kq (x:=" ") (ts:=ts) (h:=h) (w:=.p (.lst (ts.map .str))) rfl h1 (by decide) h2;have el:BT.ev F G (.tx .join (.cons (.cst (.str " ")) (.cons (.var 0) .nil))) [lv (ts.map .str)] h=aa (.p (.str (SV " " ts)),h):=by generalize ts.map D.str=L at *;simp[j]
  have st:dj (dI (evs F G .nil) (BT.ev F G (.tx .join (.cons (.cst (.str " ")) (.cons (.var 0) .nil)))) []) 1 ((ts::tss).map λts=>.lst (ts.map .str)) h=bnd (bnd (BT.ev F G (.tx .join (.cons (.cst (.str " ")) (.cons (.var 0) .nil))) [lv (ts.map .str)] h) gJ) (kG (dj (dI (evs F G .nil) (BT.ev F G (.tx .join (.cons (.cst (.str " ")) (.cons (.var 0) .nil)))) []) 1 (tss.map λts=>.lst (ts.map .str)))):=rfl;rw[st,el,cZ];have ek:gJ (.p (.str (SV " " ts))) h=aa (aa (.str (SV " " ts)),h):=rfl;rw[ek,cZ,gc,q];rfl
theorem zp (L:Lw T) (ns:List Int) (hl:ns.length ≤ 1000) (k way:Nat) {F:FK → List W → HH → Option (W×HH)} (hF:F81 T G (k+74) F) (x:az) (hx:x.length ≤ 1962) (ok:Okp x) (x2 x3 x4 x5 x6 x7 x8 x9 x10 x11:Option W) (h:HH)
 (et:BT.ev F G lwT [lv (dh ns),iv way,x2,x3,x4,x5,x6,x7,x8,x9,x10,x11] h=aa (.p (.str x),h)) (sm:∀ (a t:Nat) (w:az),w∈iI → ∀ y∈texts x a w t,AA F way y h) :
 ∃ y2 y3 y4 y5 y6 y7 y8 y9 y10 y11,evS F G lwB [lv (dh ns),iv way,x2,x3,x4,x5,x6,x7,x8,x9,x10,x11] h=aa (.nx [lv (dh ns),iv way,y2,y3,y4,y5,y6,y7,y8,y9,y10,y11] h):=by
 have dr:=λq many hm=>gz (G:=G) L (k+72) ns hl q many hm h;have dF:=hF.no "_law_drawn" (by decide);have sp:=fJ (x:=x) (by lia) (y:=" ") rfl h;have sn:=fJ (x:=x) (by lia) (y:="\n") rfl h;have gx:GT x:=⟨by lia,ok⟩;have hws:Txt.split x " "≠[]:=fS _ _;have hls:Txt.split x "\n"≠[]:=fS _ _;have pw:∀ t∈Txt.split x " ",t.length ≤ 3990:=by rw[gj];exact λt ht=>(gx.piece t ht).len
 have pn:∀ t∈Txt.split x "\n",t.length ≤ 3990:=by rw[jO];exact λt ht=>(gx.piece t ht).len
 have cw:(Txt.split x " ").length ≤ 1963:=by have:=tw (Txt.split x " ");rw[gj,ja] at this;rw[gj];lia
 have cn:(Txt.split x "\n").length ≤ 1963:=by have:=tw (Txt.split x "\n");rw[jO,ja] at this;rw[jO];lia
 have tx:=sm;unfold texts at tx;generalize Txt.split x " "=ws at *;generalize Txt.split x "\n"=ls at *;have wp:0 < ws.length:=List.length_pos_iff.mpr hws;have lp0:0 < ls.length:=List.length_pos_iff.mpr hls;have w0:(0:Int) < (ws.length:Int):=by lia
 have l0:(0:Int) < (ls.length:Int):=by lia
 obtain ⟨a,ea⟩:∃ a:Nat,drw ns (500+way) ws.length=(a:Int):=⟨(drw ns (500+way) ws.length).toNat,by have:=fY ns (500+way) w0;lia⟩;have la:a < ws.length:=by have:=fZ ns (500+way) w0;lia
 obtain ⟨t,etn⟩:∃ t:Nat,drw ns (504+way) ls.length=(t:Int):=⟨(drw ns (504+way) ls.length).toNat,by have:=fY ns (504+way) l0;lia⟩;have lt:t < ls.length:=by have:=fZ ns (504+way) l0;lia
 obtain ⟨b,eb⟩:∃ b:Nat,drw ns (502+way) 12=(b:Int):=⟨(drw ns (502+way) 12).toNat,by have:=fY ns (502+way) (many:=12) (by decide);lia⟩;have lb:b < iI.length:=by have:=fZ ns (502+way) (many:=12) (by decide);show b < 12;lia
 have d1:=dr (500+way) ws.length w0;have d2:=dr (502+way) 12 (by decide);have d3:=dr (504+way) ls.length l0;rw[ea] at d1;rw[eb] at d2;rw[etn] at d3;have ob:=gY iI b lb;have obm:=UX lb;obtain ⟨w,ew⟩:∃ w,iI[b]=w:=⟨_,rfl⟩;rw[ew] at ob obm;have tx:=tx a t w obm;obtain ⟨ow1,ow2,ow3⟩:=wM w obm;have q1:=mF (ws.map .str) a (by rw[SJ];lia);have q2:=mG (ws.map .str) (a+1) (by rw[SJ];lia);have q3:=mF (ws.map .str) (a+1) (by rw[SJ];lia);have q4:=mG (ws.map .str) a (by rw[SJ];lia);have r1:=mF (ls.map .str) t (by rw[SJ];lia);have r2:=mG (ls.map .str) (t+1) (by rw[SJ];lia);have r3:=mF (ls.map .str) (t+1) (by rw[SJ];lia);have r4:=mG (ls.map .str) t (by rw[SJ];lia);rw[← List.map_take] at q1 q3 r1 r3;rw[← List.map_drop] at q2 q4 r2 r4;rw[show ((a+1:Nat):Int)=(a:Int)+1 by lia] at q2 q3;rw[show ((t+1:Nat):Int)=(t:Int)+1 by lia] at r2 r3;have le:∀ (l:List az) (i j:Nat),l.length ≤ 1963 → (l.take i++l.drop j).length ≤ 3926:=λl i j hl=>by rw[SN,Ui,UD];lia
 have lm:∀ (l:List az) (i j:Nat),l.length ≤ 1963 → ((l.take i).map D.str).length+((l.drop j).map D.str).length ≤ 100000:=λl i j hl=>by rw[SJ,SJ,Ui,UD];lia
 have mm:∀ {l:List az}{i j:Nat}{u:az},u∈l.take i++l.drop j → u∈l:=λ{l i j u} h=>by
  rcases List.mem_append.mp h with h|h
  exact Vc h;exact Vd h
 have e3:BT.ev F G (.tx .split (.cons (.var 2) (.cons (.cst (.str " ")) .nil))) [lv (dh ns),iv way,sv x,x3,x4,x5,x6,x7,x8,x9,x10,x11] h=aa (.p (.lst (ws.map .str)),h):=by generalize ws.map D.str=A at *;simp[sp]
 have lw:(ws.map D.str).length ≤ 100000:=by rw[SJ];lia
 have ll:(ls.map D.str).length ≤ 100000:=by rw[SJ];lia
 have ewl:((ws.map D.str).length:Int)=ws.length:=by rw[SJ]
 have ell:((ls.map D.str).length:Int)=ls.length:=by rw[SJ]
 have e4:BT.ev F G (.call "_law_drawn" (.cons (.var 0) (.cons (.bin .add (.cst (.int 500)) (.var 1)) (.cons (.bi .len ai (.cons (.var 3) .nil)) .nil)))) [lv (dh ns),iv way,sv x,lv (ws.map .str),x4,x5,x6,x7,x8,x9,x10,x11] h=aa (.p (.int a),h):=by rw[← ewl] at d1;generalize ws.map D.str=A at *;simp[lw,dF,d1]
 have e5:BT.ev F G lwO [lv (dh ns),iv way,sv x,lv (ws.map .str),iv a,x5,x6,x7,x8,x9,x10,x11] h=aa (.p (.lst (iI.map .str)),h):=rfl;have e6:BT.ev F G (.idx (.var 5) (.call "_law_drawn" (.cons (.var 0) (.cons (.bin .add (.cst (.int 502)) (.var 1)) (.cons (.cst (.int 12)) .nil))))) [lv (dh ns),iv way,sv x,lv (ws.map .str),iv a,lv (iI.map .str),x6,x7,x8,x9,x10,x11] h=aa (.p (.str w),h):=by generalize iI.map D.str=A at *;simp[-dG,dF,d2,ob]
 have e7:BT.ev F G lwS [lv (dh ns),iv way,sv x,lv (ws.map .str),iv a,lv (iI.map .str),sv w,x7,x8,x9,x10,x11] h=aa (.p (.lst [.lst ((ws.take a++ws.drop (a+1)).map .str),.lst ((ws.take (a+1)++ws.drop a).map .str),.lst ((ws.take a++[w]++ws.drop (a+1)).map .str)]),h):=by
  have b1:iF .add (.lst ((ws.take a).map .str)) (.lst ((ws.drop (a+1)).map .str))=aa (.lst ((ws.take a++ws.drop (a+1)).map .str)):=by rw[eY,if_pos (show _ ≤ lim from lm ws _ _ cw),TV]
  have b2:iF .add (.lst ((ws.take (a+1)).map .str)) (.lst ((ws.drop a).map .str))=aa (.lst ((ws.take (a+1)++ws.drop a).map .str)):=by rw[eY,if_pos (show _ ≤ lim from lm ws _ _ cw),TV]
  have b3:iF .add (.lst ((ws.take a).map .str)) (.lst [.str w])=aa (.lst ((ws.take a++[w]).map .str)):=by rw[eY,if_pos (show _ ≤ lim from (by rw[SJ,Ui];show _ ≤ 100000;simp only[SX,Uo];lia)),TV];rfl
  have b4:iF .add (.lst ((ws.take a++[w]).map .str)) (.lst ((ws.drop (a+1)).map .str))=aa (.lst ((ws.take a++[w]++ws.drop (a+1)).map .str)):=by rw[eY,if_pos (show _ ≤ lim from (by rw[SJ,SJ,SN,Ui,UD];show _ ≤ 100000;simp only[SX,Uo];lia)),← TV]
  generalize (ws.take a++[w]++ws.drop (a+1)).map D.str=Z3 at *;generalize (ws.take a++[w]).map D.str=Z4 at *;generalize (ws.take a++ws.drop (a+1)).map D.str=Z1 at *;generalize (ws.take (a+1)++ws.drop a).map D.str=Z2 at *;generalize (ws.take a).map D.str=V1 at *;generalize (ws.take (a+1)).map D.str=V2 at *;generalize (ws.drop a).map D.str=V3 at *;generalize (ws.drop (a+1)).map D.str=V4 at *;generalize ws.map D.str=A at *;simp[-kP,-eY,lwS,q1,q2,q3,q4,b1,b2,b3,b4]
 have hj:∀ ts∈[ws.take a++ws.drop (a+1),ws.take (a+1)++ws.drop a,ws.take a++[w]++ws.drop (a+1)],ts.length ≤ 4000 ∧ ∀ u∈ts,u.length ≤ 4000:=by
  intro ts hts;simp only[Uh,TR,or_false] at hts;rcases hts with rfl|rfl|rfl
  exact ⟨SZ (le ws _ _ cw) (by decide),λu hu=>SZ (pw u (mm hu)) (by decide)⟩;exact ⟨SZ (le ws _ _ cw) (by decide),λu hu=>SZ (pw u (mm hu)) (by decide)⟩
  ·refine ⟨by rw[SN,SN,Ui,UD,Uk];lia,λu hu=>?_⟩;rcases List.mem_append.mp hu with hu|hu
   ·rcases List.mem_append.mp hu with hu|hu
    exact SZ (pw u (Vc hu)) (by decide);rw[List.mem_singleton.mp hu];lia
   exact SZ (pw u (Vd hu)) (by decide)
 have ec:BT.ev F G lwC [lv (dh ns),iv way,sv x,lv (ws.map .str),iv a,lv (iI.map .str),sv w,aa (.p (.lst [.lst ((ws.take a++ws.drop (a+1)).map .str),.lst ((ws.take (a+1)++ws.drop a).map .str),.lst ((ws.take a++[w]++ws.drop (a+1)).map .str)])),x8,x9,x10,x11] h =
  aa (.p (.lst [.str (SV " " (ws.take a++ws.drop (a+1))),.str (SV " " (ws.take (a+1)++ws.drop a)),.str (SV " " (ws.take a++[w]++ws.drop (a+1)))]),h) :=
  cgo (ws:=[.p (.lst [.lst ((ws.take a++ws.drop (a+1)).map .str),.lst ((ws.take (a+1)++ws.drop a).map .str),.lst ((ws.take a++[w]++ws.drop (a+1)).map .str)])]) (h1:=h) (fs:=[]) rfl rfl rfl rfl (zo F h [ws.take a++ws.drop (a+1),ws.take (a+1)++ws.drop a,ws.take a++[w]++ws.drop (a+1)] hj) (show 3 ≤ 100000 by decide)
 have b5:iF .add (.str x) (.str "\n") = aa (.str (x ++ "\n")):=by rw[iw,if_pos (show _ ≤ lim from (by show x.length+1 ≤ 100000;lia))]
 have b6:kTx .pre [.p (.str x),.p (.int (-1))] h=aa (.p (.str ⟨x.cps.extract 0 (x.length - 1)⟩),h):=by show ((if 0 ≤ (-1:Int) ∧ x.length ≤ lim then aa (D.str ⟨x.cps.extract 0 (-1:Int).toNat⟩) else if (-1:Int)=-1 ∧ x.length ≤ lim then aa (D.str ⟨x.cps.extract 0 (x.length - 1)⟩) else af).map λd=>(W.p d,h))=_;rw[if_neg (λz=>absurd z.1 (by decide)),if_pos ⟨rfl,(show x.length ≤ 100000 by lia)⟩];rfl
 obtain ⟨J1,ej1⟩:∃ J,SV " " (ws.take a++ws.drop (a+1))=J:=⟨_,rfl⟩;obtain ⟨J2,ej2⟩:∃ J,SV " " (ws.take (a+1)++ws.drop a)=J:=⟨_,rfl⟩;obtain ⟨J3,ej3⟩:∃ J,SV " " (ws.take a++[w]++ws.drop (a+1))=J:=⟨_,rfl⟩;obtain ⟨J4,ej4⟩:∃ J,SV "\n" (ls.take t++ls.drop (t+1))=J:=⟨_,rfl⟩;obtain ⟨J5,ej5⟩:∃ J,SV "\n" (ls.take (t+1)++ls.drop t)=J:=⟨_,rfl⟩;rw[ej1,ej2,ej3] at ec;rw[ej1,ej2,ej3,ej4,ej5] at tx;have j4:=kq (x:="\n") (ts:=ls.take t++ls.drop (t+1)) (h:=h) (w:=.p (.lst ((ls.take t++ls.drop (t+1)).map .str))) rfl (SZ (le ls _ _ cn) (by decide)) (by decide) (λu hu=>SZ (pn u (mm hu)) (by decide));have j5:=kq (x:="\n") (ts:=ls.take (t+1)++ls.drop t) (h:=h) (w:=.p (.lst ((ls.take (t+1)++ls.drop t).map .str))) rfl (SZ (le ls _ _ cn) (by decide)) (by decide) (λu hu=>SZ (pn u (mm hu)) (by decide));rw[ej4] at j4;rw[ej5] at j5;generalize hPre:(⟨x.cps.extract 0 (x.length - 1)⟩:az)=PRE at *;generalize hNl:x++"\n"=XN at *;generalize hSo:D.lst [.lst ((ws.take a++ws.drop (a+1)).map .str),.lst ((ws.take (a+1)++ws.drop a).map .str),.lst ((ws.take a++[w]++ws.drop (a+1)).map .str)]=SO at *;have e8:BT.ev F G lwX [lv (dh ns),iv way,sv x,lv (ws.map .str),iv a,lv (iI.map .str),sv w,aa (.p SO),x8,x9,x10,x11] h=aa (.p (.lst [.str J1,.str J2,.str J3,.str x,.str PRE,.str XN]),h):=by generalize ws.map D.str=A at *;generalize iI.map D.str=A2 at *;unfold lwX;generalize lwC=CC at *;simp[-iw,ec,b5,b6]
 have e9:BT.ev F G (.tx .split (.cons (.var 2) (.cons (.cst (.str "\n")) .nil))) [lv (dh ns),iv way,sv x,lv (ws.map .str),iv a,lv (iI.map .str),sv w,aa (.p SO),aa (.p (.lst [.str J1,.str J2,.str J3,.str x,.str PRE,.str XN])),x9,x10,x11] h=aa (.p (.lst (ls.map .str)),h):=by generalize ws.map D.str=A at *;generalize iI.map D.str=A2 at *;generalize ls.map D.str=A3 at *;simp[sn]
 have e10:BT.ev F G (.call "_law_drawn" (.cons (.var 0) (.cons (.bin .add (.cst (.int 504)) (.var 1)) (.cons (.bi .len ai (.cons (.var 9) .nil)) .nil)))) [lv (dh ns),iv way,sv x,lv (ws.map .str),iv a,lv (iI.map .str),sv w,aa (.p SO),aa (.p (.lst [.str J1,.str J2,.str J3,.str x,.str PRE,.str XN])),lv (ls.map .str),x10,x11] h=aa (.p (.int t),h):=by rw[← ell] at d3;generalize ws.map D.str=A at *;generalize iI.map D.str=A2 at *;generalize ls.map D.str=A3 at *;simp[ll,dF,d3]
 have e11:BT.ev F G lwY [lv (dh ns),iv way,sv x,lv (ws.map .str),iv a,lv (iI.map .str),sv w,aa (.p SO),aa (.p (.lst [.str J1,.str J2,.str J3,.str x,.str PRE,.str XN])),lv (ls.map .str),iv t,x11] h=aa (.p (.lst (([J1,J2,J3,x,PRE,XN,J4,J5,"","stop\n"]:List az).map .str)),h):=by
  have b1:iF .add (.lst ((ls.take t).map .str)) (.lst ((ls.drop (t+1)).map .str))=aa (.lst ((ls.take t++ls.drop (t+1)).map .str)):=by rw[eY,if_pos (show _ ≤ lim from lm ls _ _ cn),TV]
  have b2:iF .add (.lst ((ls.take (t+1)).map .str)) (.lst ((ls.drop t).map .str))=aa (.lst ((ls.take (t+1)++ls.drop t).map .str)):=by rw[eY,if_pos (show _ ≤ lim from lm ls _ _ cn),TV]
  generalize (ls.take t++ls.drop (t+1)).map D.str=Z1 at *;generalize (ls.take (t+1)++ls.drop t).map D.str=Z2 at *;generalize (ls.take t).map D.str=V1 at *;generalize (ls.take (t+1)).map D.str=V2 at *;generalize (ls.drop t).map D.str=V3 at *;generalize (ls.drop (t+1)).map D.str=V4 at *;generalize ls.map D.str=A3 at *;generalize ws.map D.str=A at *;generalize iI.map D.str=A2 at *;have b3:iF .add (.lst [.str J1,.str J2,.str J3,.str x,.str PRE,.str XN]) (.lst [.str J4,.str J5,.str "",.str "stop\n"]) = aa (.lst (([J1, J2, J3, x, PRE, XN, J4, J5, "", "stop\n"]:List az).map .str)):=rfl;generalize (([J1,J2,J3,x,PRE,XN,J4,J5,"","stop\n"]:List az).map D.str)=RR at *;simp[-kP,-eY,lwY,r1,r2,r3,r4,b1,b2,b3,j4,j5]
 obtain ⟨y11,q⟩:=zm (G:=G) F way h (aa (.p (.lst (dh ns)))) (aa (.p (.str x))) (aa (.p (.lst (ws.map .str)))) (aa (.p (.int a))) (aa (.p (.lst (iI.map .str)))) (aa (.p (.str w))) (aa (.p SO)) (aa (.p (.lst (([J1,J2,J3,x,PRE,XN,J4,J5,"","stop\n"] : List az).map .str)))) (aa (.p (.lst (ls.map .str)))) (aa (.p (.int t))) [J1, J2, J3, x, PRE, XN, J4, J5, "", "stop\n"] x11 tx;refine ⟨aa (.p (.str x)),lv (ws.map .str),iv a,lv (iI.map .str),sv w,aa (.p SO),aa (.p (.lst (([J1,J2,J3,x,PRE,XN,J4,J5,"","stop\n"]:List az).map .str))),lv (ls.map .str),iv t,y11,?_⟩;refine (eU et).trans ((eU e3).trans ((eU e4).trans ((eU e5).trans ((eU e6).trans ((eU e7).trans ((eU e8).trans ((eU e9).trans ((eU e10).trans ((eU e11).trans q)))))))))
structure Re (T:FK → Option Fn):Prop where
 lw:Lw T
 program:T "_law_program"=aa fG
theorem Oc (b:Sl → HH → Option Fl) (d:D) (r:List D) (w0 x1 x2 x3 x4 x5 x6 x7 x8 x9 x10 x11:Option W) (h:HH):dJ b [(1,"_law_way")] (d::r) [w0,x1,x2,x3,x4,x5,x6,x7,x8,x9,x10,x11] h=fP (b [w0,aa (.p d),x2,x3,x4,x5,x6,x7,x8,x9,x10,x11] h) (dJ b [(1,"_law_way")] r):=rfl
theorem AB (P:P80 T G) (X:X81 TX) (Y:Y81 T) (L:Re T) (k j:Nat) (hF:F81 T G (k+74) F) (hT:F (.f "_law_told")=lB T TX G (j+8)) (ns:List Int) (hl:ns.length ≤ 1000):∃ h',BS.uK F G kF [.p (.lst (dh ns))] []=aa (.p (.bl ah),h'):=by
 obtain ⟨s,so,sz,rs⟩:=sH (G:=G) L.lw ns hl 2 1;have sz:s.size ≤ 7:=by have:s.size+1 ≤ 8:=sz;lia
 obtain ⟨pg,dp,rp⟩:=uM (G:=G) L.lw L.program ns hl 20;have hok:∀ r∈pg,r.ok pg.length:=dp.ok;have hp:=dp.hi;have hn:pg.length ≤ 100:=by lia
 have t0:∀ (x2 x3 x4 x5 x6 x7 x8 x9 x10 x11:Option W),BT.ev F G lwT [lv (dh ns),iv ((0:Nat):Int),x2,x3,x4,x5,x6,x7,x8,x9,x10,x11] []=aa (.p (.str s.txt),[]):=λx2 x3 x4 x5 x6 x7 x8 x9 x10 x11=>by have a:=rs (k+69) [];have a:runN T G (k+74) "_law_sum" [.p (.lst (dh ns)),.p (.int 1),.p (.int 2)] []=aa (.p s.enc,[]):=a;have b:=eg P (k+72) so (by lia) [];have f1:=hF.no "_law_sum" (by decide);have f2:=hF.no "written_sum" (by decide);generalize s.txt=TT at *;generalize s.enc=EN at *;generalize dh ns=IL at *;simp[lwT,f1,f2,a,b]
 have t1:∀ (x2 x3 x4 x5 x6 x7 x8 x9 x10 x11:Option W),BT.ev F G lwT [lv (dh ns),iv ((1:Nat):Int),x2,x3,x4,x5,x6,x7,x8,x9,x10,x11] []=aa (.p (.str (pgT pg)),[]):=λx2 x3 x4 x5 x6 x7 x8 x9 x10 x11=>by have a:=rp (k+67) [];have a:runN T G (k+74) "_law_program" [.p (.lst (dh ns)),.p (.int 20)] []=aa (.p (gy pg),[]):=a;have b:=gk P hn hn hok (k+70) [];have f1:=hF.no "_law_program" (by decide);have f2:=hF.no "written" (by decide);generalize pgT pg=TT at *;generalize gy pg=EN at *;generalize dh ns=IL at *;simp[lwT,f1,f2,a,b]
 have l0:=yy so (by lia);have g0:∀ (a t:Nat) (w:az),w∈iI → ∀ y∈texts s.txt a w t,AA F 0 y []:=λa t w hw y hy=>by obtain ⟨o1,o2,o3⟩:=wM w hw;exact Oa P X Y k (j+3) hF hT y (vg (by lia) (zj so) (gD o1 (by lia)) o2 a t y hy) (vf (KQ so (by lia)) o3 (by decide) a t y hy) []
 have g1:∀ (a t:Nat) (w:az),w∈iI → ∀ y∈texts (pgT pg) a w t,AA F 1 y []:=λa t w hw y hy=>by obtain ⟨o1,o2,o3⟩:=wM w hw;exact Ob P X Y k j hF hT y (vg (zk hn hp hok) (DV hn hok) (gD o1 (by lia)) o2 a t y hy) (vf (N9 hn hok) o3 (by decide) a t y hy) []
 obtain ⟨y2,y3,y4,y5,y6,y7,y8,y9,y10,y11,e0⟩:=zp L.lw ns hl k 0 hF s.txt (by lia) (zj so) af af af af af af af af af af [] (t0 _ _ _ _ _ _ _ _ _ _) g0;obtain ⟨z2,z3,z4,z5,z6,z7,z8,z9,z10,z11,e1⟩:=zp L.lw ns hl k 1 hF (pgT pg) (zk hn hp hok) (DV hn hok) y2 y3 y4 y5 y6 y7 y8 y9 y10 y11 [] (t1 _ _ _ _ _ _ _ _ _ _) g1;refine ⟨[],?_⟩;unfold BS.uK;rw[if_pos (show [W.p (D.lst (dh ns))].length=kF.ps.length from rfl)];have ef:evS F G (.for [(1,"_law_way")] .rng1 (.cons (.cst (.int 2)) .nil) lwB) [lv (dh ns),af,af,af,af,af,af,af,af,af,af,af] []=aa (.nx [lv (dh ns),iv ((1:Nat):Int),z2,z3,z4,z5,z6,z7,z8,z9,z10,z11] []):=by show dJ (evS F G lwB) [(1,"_law_way")] [.int ((0:Nat):Int),.int ((1:Nat):Int)] _ _=_;rw[Oc,e0,dO,Oc,e1];rfl
 show gS (evS F G (.seq (.for [(1,"_law_way")] .rng1 (.cons (.cst (.int 2)) .nil) lwB) (.ret (.cst (.bl ah)))) [lv (dh ns),af,af,af,af,af,af,af,af,af,af,af] []) _=_;rw[fK ef];exact cT _ _
end
end BT
end
section
namespace BF
open PySem PySem.Spec PyProof.Rows L2 BS
variable {K:SA}
def pU (P:Td) (w:Tz) (K:SA) (mg:az → Option aA) (x:az) (z:BT.W):Prop:=∃ u v,mg x=aa u ∧ RelV v u ∧ ∀ m H,RW P w K m H v z
theorem DW (X:K.In h) (G:h.Ns S7 mg) (a:TL K S7 x=aa (aa (.int n t))):pU P w K mg x (.p (.int n)) :=
 ⟨_,.int n,Ua X G a,⟨t,rfl⟩,λ_ _=>.p (.int n)⟩
inductive fV:List az → List aA → Prop where
 | nil:fV [] []
 | cons {x:az}{xs:List az}{t:Tok}{vs:List aA} (h:PyData.strOk x=ah) (r:fV xs vs):fV (x::xs) (.str x t::vs)
theorem fV.vals:∀ {xs:List az}{vs:List aA},fV xs vs → dD (xs.map V.str) vs
 | _,_,.nil=>.nil| _,_,.cons _ r=>.cons ⟨_,rfl⟩ r.vals
theorem fV.rds {K:SA}:∀ {xs:List az}{vs:List aA},fV xs vs → RDs K m H (xs.map V.str) (xs.map BT.D.str)
 | _,_,.nil=>.nil| _,_,.cons h r=>.cons (.str _ h) r.rds
theorem fV.len:∀ {xs:List az}{vs:List aA},fV xs vs → vs.length=xs.length
 | _,_,.nil=>rfl
 | _,_,.cons _ r=>by simp[r.len]
theorem DX (X:K.In h) (G:h.Ns S7 mg) (a:TL K S7 x=aa (aa (.ref f)))
 (l:K.lookup f=aa ⟨.type "tuple",af,.seq its n,sl⟩) (hl:xs.length ≤ 1000) (r:fV xs its.toList):pU P w K mg x (.p (.tup (xs.map BT.D.str))):=by
 refine ⟨_,.ref f,Ua X G a,rfl,λm H=>.p (.tup (.inr ⟨_,its,n,⟨l,rfl,rfl,?_,r.vals⟩,rfl⟩) r.rds)⟩;have:=r.len;have e:its.size=xs.length:=by rw[← this];simp
 rw[e];exact Vr (qv hl)
inductive iO (w:Tz):List (az×Int) → List VF → Prop where
 | nil:iO w [] []
 | cons {x:az}{n:Int}{kvs:List (az×Int)}{t u:Tok}{es:List VF} (r:iO w kvs es):iO w ((x,n)::kvs) (⟨PyData.keyHash w.params x,.str x t,.int n u⟩::es)
theorem iO.ex:∀ {kvs:List (az×Int)}{es:List VF},iO w kvs es → ∃ vs:List (Key×aA),KV ((kvs.map λq=>(q.1,V.int q.2)).map λq=>((Sum.inr q.1:Key),q.2)) vs ∧ Pairs (dB P w) es vs ∧ vs.map (·.1)=kvs.map (λq=>(Sum.inr q.1:Key)) ∧ (∀ e∈es,∃ k,(dB P w).is k e.key=ah ∧ e.hash=(dB P w).hash k)
 | _,_,.nil=>⟨[],.nil,.nil,rfl,λe he=>nomatch he⟩
 | _,_,@iO.cons _ x n kvs t u es r=>by
  obtain ⟨vs,h1,h2,h3,h4⟩:=r.ex (P:=P);have is:(dB P w).is (Sum.inr x) (.str x t)=ah:=by show VN x (.str x t)=ah;simp[VN]
  refine ⟨(Sum.inr x,.int n u)::vs,.cons ⟨rfl,u,rfl⟩ h1,.cons is rfl h2,by simp[h3],λe he=>?_⟩;rcases List.mem_cons.mp he with rfl|he
  exact ⟨Sum.inr x,is,rfl⟩;exact h4 e he
theorem AC {P:Td}{w:Tz}{h:au}{mg:az → Option aA} (X:K.In h) (G:h.Ns S7 mg) {x:az}{f:S6}{es:Array VF}{n:Nat}{kvs:List (az×Int)} (a:TL K S7 x=aa (aa (.ref f)))
 (l:K.lookup f=aa { cls:=.type "dict",data:=.dict es n }) (hf:(f==UV)=ai) (r:iO w kvs es.toList) (nd:(kvs.map (·.1)).Nodup):pU P w K mg x (.k (.t (kvs.map λq=>(q.1,BT.D.int q.2)))):=by
 obtain ⟨vs,h1,h2,h3,h4⟩:=r.ex (P:=P);refine ⟨_,.ref f,Ua X G a,rfl,λm H=>.k (es:=kvs.map λq=>(q.1,V.int q.2)) ⟨hf,vs,h1,λhh Kh=>⟨_,es,n,Kh _ _ l,⟨rfl,rfl,rfl⟩,rfl,λe he=>h4 e (by simpa using he),h2,?_⟩⟩ ?_⟩
 ·rw[h3];have e:(kvs.map λq=>(Sum.inr q.1:Key))=(kvs.map (·.1)).map Sum.inr:=by simp
  rw[e];exact List.pairwise_map.mpr (nd.imp λh z=>h (Sum.inr.inj z))
 ·clear r nd h1 h2 h3 h4 l
  induction kvs with
  | nil=>exact .nil| cons q kvs ih=>exact .cons (λ_ _=>.int _) ih
theorem DY {P:Td}{w:Tz}{h:au}{mg:az → Option aA} (X:K.In h) (G:h.Ns S7 mg) {x s:az}{t:Tok} (a:TL K S7 x=aa (aa (.str s t))) (k:PyData.strOk s=ah):pU P w K mg x (.p (.str s)) :=
 ⟨_,.str s,Ua X G a,⟨t,rfl⟩,λ_ _=>.p (.str s k)⟩
inductive iP (w:Tz):List (az×S6) → List VF → Prop where
 | nil:iP w [] []
 | cons {x:az}{a:S6}{kvs:List (az×S6)}{t:Tok}{es:List VF} (r:iP w kvs es):iP w ((x,a)::kvs) (⟨PyData.keyHash w.params x,.str x t,.ref a⟩::es)
theorem iP.ex {P:Td}{w:Tz}:∀ {kvs:List (az×S6)}{es:List VF},iP w kvs es → ∃ vs:List (Key×aA),KV ((kvs.map λq=>(q.1,V.ref q.2)).map λq=>((Sum.inr q.1:Key),q.2)) vs ∧ Pairs (dB P w) es vs ∧ vs.map (·.1)=kvs.map (λq=>(Sum.inr q.1:Key)) ∧ (∀ e∈es,∃ k,(dB P w).is k e.key=ah ∧ e.hash=(dB P w).hash k)
 | _,_,.nil=>⟨[],.nil,.nil,rfl,λe he=>nomatch he⟩
 | _,_,@iP.cons _ x a kvs t es r=>by
  obtain ⟨vs,h1,h2,h3,h4⟩:=r.ex (P:=P);have is:(dB P w).is (Sum.inr x) (.str x t)=ah:=by show VN x (.str x t)=ah;simp[VN]
  refine ⟨(Sum.inr x,.ref a)::vs,.cons ⟨rfl,rfl⟩ h1,.cons is rfl h2,by simp[h3],λe he=>?_⟩;rcases List.mem_cons.mp he with rfl|he
  exact ⟨Sum.inr x,is,rfl⟩;exact h4 e he
theorem GX {f:S6}{its:Array aA}{n:Nat}{sl:Array (Option aA)}{xs:List az}
 (l:K.lookup f=aa ⟨.type "tuple",af,.seq its n,sl⟩) (hl:xs.length ≤ 1000) (r:fV xs its.toList) (m:List S6) (H:Hp):RD K m H (.ref f) (.tup (xs.map BT.D.str)):=by
 refine .tup (.inr ⟨_,its,n,⟨l,rfl,rfl,?_,r.vals⟩,rfl⟩) r.rds;have:=r.len;have e:its.size=xs.length:=by rw[← this];simp
 rw[e];exact Vr (qv hl)
theorem wN {P:Td}{w:Tz}{h:au}{mg:az → Option aA} (X:K.In h) (G:h.Ns S7 mg) {x:az}{f:S6}{es:Array VF}{n:Nat}{kvs:List (az×S6×List az)} (a:TL K S7 x=aa (aa (.ref f)))
 (l:K.lookup f=aa { cls:=.type "dict",data:=.dict es n }) (hf:(f==UV)=ai) (r:iP w (kvs.map λq=>(q.1,q.2.1)) es.toList) (nd:(kvs.map (·.1)).Nodup) (rd:∀ q∈kvs,∀ m H,RD K m H (.ref q.2.1) (.tup (q.2.2.map BT.D.str))):pU P w K mg x (.k (.t (kvs.map λq=>(q.1,BT.D.tup (q.2.2.map BT.D.str))))):=by
 obtain ⟨vs,h1,h2,h3,h4⟩:=r.ex (P:=P);have h0:KV ((kvs.map λq=>(q.1,V.ref q.2.1)).map λq=>((Sum.inr q.1:Key),q.2)) vs:=by simp only[V6,Function.comp_def] at h1 ⊢;exact h1
 rw[V6] at h3;refine ⟨_,.ref f,Ua X G a,rfl,λm H=>.k (es:=kvs.map λ(q:az×S6×List az)=>(q.1,V.ref q.2.1)) ⟨hf,vs,h0,λhh Kh=>⟨_,es,n,Kh _ _ l,⟨rfl,rfl,rfl⟩,rfl,λe he=>h4 e (by simpa using he),h2,?_⟩⟩ ?_⟩
 ·rw[h3];have e:(kvs.map ((λq=>(Sum.inr q.1:Key)) ∘ λq=>(q.1,q.2.1)))=(kvs.map (·.1)).map Sum.inr:=by simp
  rw[e];exact List.pairwise_map.mpr (nd.imp λh z=>h (Sum.inr.inj z))
 ·clear r nd h0 h1 h2 h3 h4 l
  induction kvs with
  | nil=>exact .nil| cons q kvs ih=>exact .cons (λm H=>rd q SG m H) (ih λq hq=>rd q (SI _ hq))
noncomputable def look {κ α:Type} [DecidableEq κ] (l:List (κ×α)) (x:κ):Option α:=match l with
 | []=>af
 | (y,a)::r=>if y=x then aa a else look r x
theorem iE {κ α:Type} [DecidableEq κ] {Q:κ → α → Prop}:∀ {l:List (κ×α)} (_:∀ p∈l,Q p.1 p.2) {x:κ}{a:α},look l x=aa a → Q x a
 | [],_,_,_,e=>by exact BT.mO e
 | (y,b)::r,h,x,a,e=>by
  rw[look] at e;split at e
  ·rename_i z;cases e;subst z;exact h (y,b) SG
  exact iE (λp hp=>h p (SI _ hp)) e
theorem lQ {K:SA}:∀ ns:List Int,RDs K m H (ns.map V.int) (BT.dh ns)
 | []=>.nil| n::r=>.cons (.int n) (lQ r)
theorem DZ (tb:TB K H) (hS:LL K H a (ns.map V.int)) (e:∃ h',g [.p (.lst (BT.dh ns))] []=aa (.p (.bl ah),h')):spF P w K g [.ref a] H (λv _=>v=.bl ah) λ_ _ _=>False:=by obtain ⟨h',e⟩:=e;refine ⟨[],_,[],_,h',⟨List.nodup_nil,rfl,λi a xs z=>by simp at z,tb⟩,.cons (.p (.lst (hS.elim (λq=>.inl ⟨q,by simp⟩) .inr) (lQ ns))) .nil,e,λv H' m' _ _ r=>mU r⟩
end BF
end
section
namespace BG
open PySem PySem.Spec PySem.Calls PyProof.Rows L2 BS BF
variable {K:SA}{st:Xj}
theorem GY (H:∀ p∈K,h.get? p.1=aa p.2):K.In h:=by
 intro a o e;obtain ⟨p,hp,he⟩:∃ p∈K,p.1=a ∧ p.2=o:=by
  clear H
  induction K with
  | nil=>exact BT.mO e
  | cons q r ih =>
   rw[Wp] at e;split at e
   ·rename_i c;cases e;exact ⟨q,SG,(eq_of_beq c).symm,rfl⟩
   ·obtain ⟨p,hp,he⟩:=ih e;exact ⟨p,SI _ hp,he⟩
 rw[← he.1,← he.2];exact H p hp
inductive Od (K:SA) (x qual:az) (st:Xj) (f:S6):Prop where
 | mk (fd:UQ) (F:Fun K x qual st f fd) (kV doc pm:aA) (an:Option S6) (cdv ct:aA) (e:fd=UO x qual (f7 st) (dz st) (cU st) .none kV doc pm an cdv ct):Od K x qual st f
theorem wO (e:Ei K f=aa (wU x qual st)):Od K x qual st f:=by
 unfold Ei at e;split at e
 ·rename_i oc od fd sl l;have e':=S9 e;unfold wU at e';obtain ⟨nm,ql,pa,bo,sc,gl,cl,de,kw,dc,pm,an,co,ct,bu⟩:=fd;simp only[FS.mk.injEq] at e';obtain ⟨rfl,rfl,rfl,rfl,rfl,rfl,rfl,rfl,rfl,hc⟩:=e';have F:=IM (K:=K) (x:=nm) (qual:=ql) (st:=st) (f:=f) (kV:=kw) (doc:=dc) (pm:=pm) (an:=an) (cdv:=co) (ct:=ct) l hc (by simp only[TM,l]);exact ⟨_,F,kw,dc,pm,an,co,ct,rfl⟩
 exact BT.mO e
theorem nth {α:Type}{l:List α}{a:α} (i:Nat) (h:l[i]?=aa a):a∈l:=TQ h
noncomputable def zu (ns:List az):Bool:=ns.all λn=>!(n.cps[0]?==aa 60)
theorem Oe (y:az):(BT.iQ y).cps[0]?=aa 60:=by show (((#[60]:Array Nat)++y.cps)++#[62])[0]?=aa 60;rw[← YA];simp
theorem vj (h:zu ns=ah) (y:az):ns.contains (BT.iQ y)=ai:=by
 cases e:ns.contains (BT.iQ y) with
 | false=>rfl
 | true =>
  have:=List.all_eq_true.mp h _ (List.contains_iff_mem.mp e);rw[Oe] at this;exact BT.dS this
theorem pV (h:zu fn.ns=ah):jz K q fd fn:=λy hy=>by rw[vj h y] at hy;exact BT.dS hy
section
variable {K:SA}
theorem jR (e:refOf o=aa f):o=aa (aa (.ref f)):=by unfold refOf at e;split at e;cases e;rfl;exact BT.mO e
theorem KU (X:K.In h) (G:h.Ns S7 mg) (e:fq K (.fn x f st)=fu w (.fn x f st))
 (sc:eV fn.ns fn.ps (cU st)) (hb:∀ (kV doc pm:aA) (an:Option S6) (cdv ct:aA) (us:List aA),us.length=fn.ps.length → bindArgs (UO x x (f7 st) (dz st) (cU st) .none kV doc pm an cdv ct) ⟨us,[]⟩=pure (fn.ps.zip us))
 (ck:CSs (cU st) fn.ns fn.body (dz st)) (tg:∀ fd,TL K S7 x=aa (aa (.ref f)) → (∃ oc od sl,K.lookup f=aa ⟨oc,od,.func fd,sl⟩) → jz K x fd fn):Def K mg x fn:=by
 simp only[fq,fu,Ov.fn.injEq] at e;obtain ⟨fd,F,kV,doc,pm,an,cdv,ct,rfl⟩:=wO e.2;refine ⟨f,_,st,Ua X G (jR e.1),F,sc,F.binds hb,ck,tg _ (jR e.1) ?_⟩;obtain ⟨oc,od,kV,doc,pm,an,cdv,ct,osl,e1,lk,_⟩:=F.ex;exact ⟨oc,od,osl,lk⟩
theorem none_of (X:K.In h) (G:h.Ns S7 mg) (e:fq K (.no x)=fu w (.no x)):mg x=af:=by simp only[fq,fu,Ov.b.injEq,decide_eq_true_eq] at e;exact PySem.W.mg_none_of X G e
theorem D0 (h:intOf v=aa x):∃ t,v=.int x t:=by cases v<;>simp[intOf] at h;exact ⟨_,by rw[h]⟩
theorem tH (h:strOf v=aa x):∃ t,v=.str x t:=by cases v<;>simp[strOf] at h;exact ⟨_,by rw[h]⟩
theorem mH (X:K.In h) (G:h.Ns S7 mg) (e:fq K (.int x n)=fu w (.int x n)):pU P w K mg x (.p (.int n)):=by
 simp only[fq,fu,Ov.int.injEq] at e;split at e
 ·rename_i v hv;obtain ⟨t,rfl⟩:=D0 e;exact DW X G hv
 exact BT.mO e
theorem tK:∀ {xs:List az}{vs:List aA},xs.all PyData.strOk=ah → vs.map strOf=xs.map aa → fV xs vs
 | [],[],_,_=>.nil
 | [],_::_,_,h=>by simp at h
 | _::_,[],_,h=>by simp at h
 | x::xs,v::vs,k,h=>by simp only[Tw,VJ] at h;simp only[Wl,SM] at k;obtain ⟨t,rfl⟩:=tH h.1;exact .cons k.1 (tK k.2 h.2)
theorem zw:∀ {kvs:List (az×Int)}{es:List VF},es.map (λe=>(e.hash,strOf e.key,intOf e.val))=kvs.map (λq=>(PyData.keyHash w.params q.1,aa q.1,aa q.2)) → iO w kvs es
 | [],[],_=>.nil
 | [],_::_,h=>by simp at h
 | _::_,[],h=>by simp at h
 | (x,n)::kvs,⟨ha,k,v⟩::es,h=>by simp only[Tw,VJ,VH] at h;obtain ⟨⟨rfl,h2,h3⟩,hr⟩:=h;obtain ⟨t,rfl⟩:=tH h2;obtain ⟨u,rfl⟩:=D0 h3;exact .cons (zw hr)
theorem D3 (X:K.In h) (G:h.Ns S7 mg) (e:fq K (.tup x f xs)=fu w (.tup x f xs)) (hl:xs.length ≤ 1000) (hs:xs.all PyData.strOk=ah):pU P w K mg x (.p (.tup (xs.map BT.D.str))):=by simp only[fq,fu,Ov.seq.injEq] at e;obtain ⟨e1,e2,e3⟩:=e;obtain ⟨o,l,e4⟩:=Option.map_eq_some_iff.mp e2;rw[l] at e3;obtain ⟨cl,di,da,sl⟩:=o;simp only[shp,VH] at e4;obtain ⟨rfl,rfl,e5⟩:=e4;have:sl=#[]:=UU e5;subst this;simp only[Ue,wV] at e3;cases da<;>simp only[UZ,reduceCtorEq] at e3;exact DX X G (jR e1) l hl (tK hs e3)
theorem D4 (X:K.In h) (G:h.Ns S7 mg) {x:az}{f:S6}{kvs:List (az×Int)} (e:fq K (.dct x f kvs)=fu w (.dct x f kvs)) (hf:(f==UV)=ai) (nd:(kvs.map (·.1)).Nodup):pU P w K mg x (.k (.t (kvs.map λq=>(q.1,BT.D.int q.2)))):=by simp only[fq,fu,Ov.dct.injEq] at e;obtain ⟨e1,e2,e3⟩:=e;obtain ⟨o,l,e4⟩:=Option.map_eq_some_iff.mp e2;rw[l] at e3;obtain ⟨cl,di,da,sl⟩:=o;simp only[shp,VH] at e4;obtain ⟨rfl,rfl,e5⟩:=e4;have:sl=#[]:=UU e5;subst this;simp only[Ue,G0] at e3;cases da<;>simp only[UZ,reduceCtorEq] at e3;exact AC X G (jR e1) l hf (zw e3) nd
theorem D5 (X:K.In h) (G:h.Ns S7 mg) {x s:az} (e:fq K (.str x s)=fu w (.str x s)) (k:PyData.strOk s=ah):pU P w K mg x (.p (.str s)):=by
 simp only[fq,fu,Ov.seq.injEq,true_and] at e;split at e
 ·rename_i v hv;simp only[UZ,VJ,and_true] at e;obtain ⟨t,rfl⟩:=tH e;exact DY X G hv k
 exact BT.mO e
theorem jx {f:S6}{xs:List az} (e:fq K (.stp f xs)=fu w (.stp f xs)) (hl:xs.length ≤ 1000) (hs:xs.all PyData.strOk=ah) (m:List S6) (H:Hp):RD K m H (.ref f) (.tup (xs.map BT.D.str)):=by simp only[fq,fu,Ov.seq.injEq,true_and] at e;obtain ⟨e2,e3⟩:=e;obtain ⟨o,l,e4⟩:=Option.map_eq_some_iff.mp e2;rw[l] at e3;obtain ⟨cl,di,da,sl⟩:=o;simp only[shp,VH] at e4;obtain ⟨rfl,rfl,e5⟩:=e4;have:sl=#[]:=UU e5;subst this;simp only[Ue,wV] at e3;cases da<;>simp only[UZ,reduceCtorEq] at e3;exact GX l hl (tK hs e3) m H
theorem KW {v:aA}{a:S6} (h:wW v=aa (a:Int)):v=.ref a:=by cases v<;>simp[wW] at h;rw[Int.ofNat_inj.mp h]
theorem zy:∀ {kvs:List (az×S6)}{es:List VF},es.map (λe=>(e.hash,strOf e.key,wW e.val))=kvs.map (λq=>(PyData.keyHash w.params q.1,aa q.1,aa (q.2:Int))) → iP w kvs es
 | [],[],_=>.nil
 | [],_::_,h=>by simp at h
 | _::_,[],h=>by simp at h
 | (x,a)::kvs,⟨ha,k,v⟩::es,h=>by simp only[Tw,VJ,VH] at h;obtain ⟨⟨rfl,h2,h3⟩,hr⟩:=h;obtain ⟨t,rfl⟩:=tH h2;rw[KW h3];exact .cons (zy hr)
theorem D6 (X:K.In h) (G:h.Ns S7 mg) {x:az}{f:S6} (kvs:List (az×S6×List az)) (e:fq K (.dtp x f (kvs.map λq=>(q.1,q.2.1)))=fu w (.dtp x f (kvs.map λq=>(q.1,q.2.1)))) (hf:(f==UV)=ai) (nd:(kvs.map (·.1)).Nodup) (rd:∀ q∈kvs,∀ m H,RD K m H (.ref q.2.1) (.tup (q.2.2.map BT.D.str))):pU P w K mg x (.k (.t (kvs.map λq=>(q.1,BT.D.tup (q.2.2.map BT.D.str))))):=by simp only[fq,fu,Ov.dct.injEq] at e;obtain ⟨e1,e2,e3⟩:=e;obtain ⟨o,l,e4⟩:=Option.map_eq_some_iff.mp e2;rw[l] at e3;obtain ⟨cl,di,da,sl⟩:=o;simp only[shp,VH] at e4;obtain ⟨rfl,rfl,e5⟩:=e4;have:sl=#[]:=UU e5;subst this;simp only[Ue,G1] at e3;cases da<;>simp only[UZ,reduceCtorEq] at e3;exact wN X G (jR e1) l hf (zy e3) nd rd
end
theorem AD {α:Type}{us:List α}{n:Nat} (h:us.length=n+1):∃ a r,us=a::r ∧ r.length=n:=by
 cases us with
 | nil=>simp at h| cons a r=>exact ⟨a,r,rfl,by simpa using h⟩
theorem len0 {α:Type}{us:List α} (h:us.length=0):us=[]:=VL h
theorem Of {α:Type}{us:List α} (h:us.length=1):∃ a0,us=[a0]:=by obtain ⟨a0,r,rfl,g⟩:=AD h;exact ⟨a0,by rw[len0 g]⟩
theorem KY {α:Type}{us:List α} (h:us.length=2):∃ a0 a1,us=[a0,a1]:=by obtain ⟨a0,r,rfl,g⟩:=AD h;obtain ⟨a1,rfl⟩:=Of g;exact ⟨a0,a1,rfl⟩
theorem KZ {α:Type}{us:List α} (h:us.length=3):∃ a0 a1 a2,us=[a0,a1,a2]:=by obtain ⟨a0,r,rfl,g⟩:=AD h;obtain ⟨a1,a2,rfl⟩:=KY g;exact ⟨a0,a1,a2,rfl⟩
theorem K0 {α:Type}{us:List α} (h:us.length=4):∃ a0 a1 a2 a3,us=[a0,a1,a2,a3]:=by obtain ⟨a0,r,rfl,g⟩:=AD h;obtain ⟨a1,a2,a3,rfl⟩:=KZ g;exact ⟨a0,a1,a2,a3,rfl⟩
theorem Og {α:Type}{us:List α} (h:us.length=5):∃ a0 a1 a2 a3 a4,us=[a0,a1,a2,a3,a4]:=by obtain ⟨a0,r,rfl,g⟩:=AD h;obtain ⟨a1,a2,a3,a4,rfl⟩:=K0 g;exact ⟨a0,a1,a2,a3,a4,rfl⟩
theorem Rf {α:Type}{us:List α} (h:us.length=6):∃ a0 a1 a2 a3 a4 a5,us=[a0,a1,a2,a3,a4,a5]:=by obtain ⟨a0,r,rfl,g⟩:=AD h;obtain ⟨a1,a2,a3,a4,a5,rfl⟩:=Og g;exact ⟨a0,a1,a2,a3,a4,a5,rfl⟩
noncomputable abbrev BdT (x qual:az) (st:Xj) (fn:BT.Fn):Prop:=∀ (kV doc pm:aA) (an:Option S6) (cdv ct:aA) (us:List aA),us.length=fn.ps.length → bindArgs (UO x qual (f7 st) (dz st) (cU st) .none kV doc pm an cdv ct) ⟨us,[]⟩=pure (fn.ps.zip us)
structure CkB (x qual:az) (s:Xj) (f:BT.Fn):Prop where
 ck:CSs (cU s) f.ns f.body (dz s):=by repeat' (first|rfl|constructor|decide +kernel)
 sc:eV f.ns f.ps (cU s):=by constructor<;>first|rfl|decide +kernel
 bd:BdT x qual s f:=by intro _ _ _ _ _ _ us hl;first|(obtain ⟨a0,a1,rfl⟩:=KY hl;rfl)|(obtain ⟨a0,rfl⟩:=Of hl;rfl)|(obtain ⟨a0,a1,a2,rfl⟩:=KZ hl;rfl)|(obtain ⟨a0,a1,a2,a3,rfl⟩:=K0 hl;rfl)|(obtain rfl:=len0 hl;rfl)|(obtain ⟨a0,a1,a2,a3,a4,rfl⟩:=Og hl;rfl)|(obtain ⟨a0,a1,a2,a3,a4,a5,rfl⟩:=Rf hl;rfl)
theorem ce {p:Prop} (h:p:=by repeat' (first|rfl|constructor|decide +kernel)):p:=h
theorem dk {p:Prop} (h:p:=by decide +kernel):p:=h
theorem hn {w:Tz}{qs:List Qy} (hq:∀ q∈qs,fq K q=fu w q) (i:Nat) {a:Qy} (h:qs[i]?=aa a):fq K a=fu w a:=hq _ (nth i h)
def D7 (K:SA) (mg:az → Option aA) (p:BT.FK×BT.Fn):Prop:=(∀ x,p.1=.f x → Def K mg x p.2) ∧ (∀ c m,p.1=.m c m → JY K mg c m p.2) ∧ ∀ L,p.1=.l L → False
theorem dd (d:Def K mg x fn):D7 K mg (.f x,fn):=⟨λy e=>by cases e;exact d,λc m e=>(by cases e),λL e=>by cases e⟩
theorem cX {α:Type}{Q:α → Prop}{a:α}{l:List α} (h:Q a) (t:∀ p∈l,Q p):∀ p∈a::l,Q p:=List.forall_mem_cons.mpr ⟨h,t⟩
theorem vm {α:Type}{Q:α → Prop}:∀ p∈([]:List α),Q p:=λ_ h=>absurd h TR
section
variable {K:SA}
theorem dd0 (X:K.In h) (G:h.Ns S7 mg) (e:fq K (.fn x f st)=fu w (.fn x f st)) (c:CkB x x st fn) (tg:zu fn.ns=ah:=by decide +kernel):D7 K mg (.f x,fn) :=
 dd (KU X G e c.sc c.bd c.ck λ_ _ _=>pV tg)
end
structure K1 (K:SA) (tl:List (az×S6×S6)):Prop where
 all:∀ z∈BT.iK,(∃ c P,(z,c,P)∈tl ∧ UN K z=aa (c,P)) ∨ UN K z=af
 hd:∀ q∈tl,W6 K q.2.1 q.2.2=ah
theorem eS (e:fq K (.no x)=fu w (.no x)):UN K x=af:=by simp only[fq,fu,Ov.b.injEq,decide_eq_true_eq] at e;unfold UN;rw[e]
theorem wQ (e:K.lookup b=aa o):b∈K.map (·.1):=List.mem_map.mpr ⟨(b,o),PySem.W.mem_of_lookupK e,rfl⟩
theorem AE 
 (KX:K.In s₁.heap) (hns:s₁.heap.Ns S7 mg) (hb:s₁.heap.Ns Vy mb) (hbb:∀ x:az,x≠"__name__" → mb x=VR x) (hlim:s₁.heap.NoLimit) (hg:s₁.gens=#[])
 (ha:s₁.heap.get? a=aa { cls:=.type "list",data:=.seq vs.toArray }) (hi:IntsAre vs ns) (hl:ns.length ≤ ak) (hr:f9 k Zb)
 (hT:K1 K tl) (hTs:∀ p∈tl,s₁.heap.get? p.2.2=aa (Wz #[])) (hTk:∀ p∈tl,K.lookup p.2.2=af)
 (F:∀ base:au,gH P w K mg base CX0 k fa fd [x] sp) (hbind:∀ (s:SL) (u:aA),K.In s.heap → BindsTo s fd ⟨[u],[]⟩ [(x,u)])
 (hsp:∀ H:Hp,TB K H → LL K H a (ns.map V.int) → sp [.ref a] H (λv _=>v=.bl ah) λ_ _ _=>False) :
 ao (Ti P w) Zb (.call (.ref fa) ⟨[.ref a],[]⟩) (λr s'=>r=.ok (.ret (.bool ah)) ∧ OldK s₁.heap s'.heap ∧ s'.os=s₁.os ∧ Xi s'.gens) s₁:=by
 have rv:=qu hi;have lenV:=hi.length;have tne:∀ p∈tl,p.2.2≠a:=λp hp z=>by have:=hTs p hp;rw[z,ha] at this;cases this
 let so:HO:=.frz { cls:=.type "list",data:=.seq vs.toArray } (.lst (ns.map V.int))
 let H:Hp:=λb=>if ∃ p∈tl,p.2.2=b then aa (.tbl #[]) else if b=a ∧ K.lookup a=af then aa so else af
 have Ht:∀ p∈tl,H p.2.2=aa (.tbl #[]):=λp hp=>if_pos ⟨p,hp,rfl⟩;have Hcase:∀ b u,H b=aa u → (∃ p∈tl,p.2.2=b ∧ u=.tbl #[]) ∨ (b=a ∧ K.lookup a=af ∧ u=so):=λb u e=>by
  by_cases c1:∃ p∈tl,p.2.2=b
  ·have e':aa (HO.tbl #[])=aa u:=(if_pos c1).symm.trans e;obtain ⟨p,hp,h2⟩:=c1;exact .inl ⟨p,hp,h2,(S9 e').symm⟩
  ·have e':(if b=a ∧ K.lookup a=af then aa so else af)=aa u:=(if_neg c1).symm.trans e
   by_cases c2:b=a ∧ K.lookup a=af
   ·rw[if_pos c2] at e';exact .inr ⟨c2.1,c2.2,(S9 e').symm⟩
   rw[if_neg c2] at e';exact BT.mO e'
 have noA:∀ {b:S6}{o:aq}{es:Array VF}{ep:Nat},s₁.heap.get? b=aa o → o.data=.dict es ep → H b=af:=λ{b o es ep} e d=>by
  cases q:H b with
  | none=>rfl
  | some u =>
   rcases Hcase b u q with ⟨p,hp,h2,_⟩|⟨h2,_⟩
   ·have z:=hTs p hp;rw[h2,e] at z;cases z;cases d
   ·rw[h2,ha] at e;cases e;have d':Data.seq vs.toArray _=Data.dict es ep:=d;cases d'
 have nsK:∀ {b:S6}{m:az → Option aA},s₁.heap.Ns b m → (tN s₁.heap H).Ns b m:=λ{b m} ⟨o,es,ep,e,d,r⟩=>⟨o,es,ep,tO e (noA e d),d,r⟩;have hKb:K.In (tN s₁.heap H):=λb o e=>tO (KX b o e) (by
  cases q:H b with
  | none=>rfl
  | some u =>
   rcases Hcase b u q with ⟨p,hp,h2,_⟩|⟨h2,h3,_⟩
   rw[← h2,hTk p hp] at e;exact BT.mO e
   ·rw[h2,h3] at e;exact BT.mO e)
 have hM:Mod K mg (tN s₁.heap H):=⟨hKb,nsK hns,⟨mb,nsK hb,hbb⟩,let ⟨mc,h1,h2⟩:=hlim;⟨mc,nsK h1,h2⟩⟩;have hok:HOk P w H s₁.heap:=λb u e=>by
  rcases Hcase b u e with ⟨p,hp,h2,rfl⟩|⟨h2,_,rfl⟩
  subst h2;exact hTs p hp;subst h2;exact ⟨ha,by rw[SJ];exact hl,vs,_,rv,ha⟩
 have e0:zJ P w K mg (tN s₁.heap H) Zb [] s₁ H:=⟨rfl,hM,λb o e=>El e,Nat.le_of_eq (zE _ _),trivial,λb hb=>absurd (show b∈([]:List S6) from hb) (by simp),hok,.of_eq hg⟩;have tb:TB K H:=λz hz c Pt e=>by
  rcases hT.all z hz with ⟨c3,P3,m3,e3⟩|e3
  ·rw[e] at e3;cases e3;exact ⟨#[],Ht _ m3,trivial,λpos v q=>by cases q⟩
  rw[e] at e3;cases e3
 have hS:LL K H a (ns.map V.int):=by
  cases hk:K.lookup a with
  | some o =>
   have e:=KX a o hk;rw[ha] at e;cases e;exact .inr ⟨vs,_,hk,by rw[lenV];exact hl,rv⟩
  | none =>
   refine .inl (.inr ⟨{ cls:=.type "list",data:=.seq vs.toArray },?_⟩);have e1:H a=(if a=a ∧ K.lookup a=af then aa so else af):=if_neg λ⟨p,hp,z⟩=>tne p hp z;rw[e1,if_pos ⟨rfl,hk⟩]
 refine Yb ((F _).run Zb [] s₁ H ⟨[.ref a],[]⟩ [.ref a] [.ref a] _ _ hr e0 (hbind s₁ (.ref a) KX) (.cons rfl .nil) (hsp H tb hS)) λr s' h=>?_;cases r with
 | error e=>exact U9 h
 | ok fl =>
  cases fl with
  | ret u =>
   obtain ⟨v,H',os,bare,un,hok',r',q⟩:=h;have q':v=.bl ah:=q;subst q';obtain rfl:u=Wy ah:=r';have kp:∀ b o,s₁.heap.get? b=aa o → (s'.heap.get? b=aa o) ∨ ∃ p∈tl,p.2.2=b ∧ ∃ more,s'.heap.get? b=aa (Wz (#[]++more)):=λb o e=>by
    cases q:H b with
    | none=>exact .inl (un.keep b o e q (by intro z;exact absurd (show b∈([]:List S6) from z) (by simp)) (by simp))
    | some u =>
     rcases Hcase b u q with ⟨p,hp,h2,rfl⟩|⟨h2,h3,rfl⟩
     ·obtain ⟨more,z⟩:=un.tbls b _ q;exact .inr ⟨p,hp,h2,more,hok' b _ z⟩
     ·have z2:=un.frzs b _ _ q;obtain ⟨e1,_⟩:=hok b _ q;obtain ⟨e2,_⟩:=hok' b _ z2;rw[e] at e1;cases e1;exact .inl e2
   refine ⟨rfl,⟨λb o e=>?_,λb o e=>?_⟩,os,bare⟩
   ·rcases kp b o e with z|⟨p,hp,rfl,more,z⟩
    exact .inl z
    ·have e2:=hTs p hp;rw[e] at e2;cases e2;have tA:=(VP KX (hT.hd p hp)).tab e;exact .inr (.inl ⟨tA.isCodeTable,rfl,#[],more,rfl,z⟩)
   ·rcases kp b o e with z|⟨p,hp,rfl,more,z⟩
    exact ⟨o,z⟩;exact ⟨_,z⟩
  | _=>exact U9 h
noncomputable def wR:List az:=["NoMoment","NoRun","NoThing","NoText"]
theorem D8 (h:ur c=ah):c∈wR:=by have:=List.contains_iff_mem.mp h;simp only[Uh,TR,or_false] at this;simp only[wR,Uh,TR,or_false];rcases this with h|h|h|h<;>simp[h]
theorem D9 (h:ur cn=ah):BT.nI c cn=(cn==c):=by
 have:=List.contains_iff_mem.mp h;simp only[Uh,TR,or_false] at this;unfold BT.nI;have h1:(cn==("TapeError":az))=ai:=by rcases this with rfl | rfl | rfl | rfl<;>decide
 have h2:(cn==("ValueError":az))=ai:=by rcases this with rfl | rfl | rfl | rfl<;>decide
 rw[h1,h2,Yw,Yw]
section
variable {K:SA}{D:S6}
theorem gm (e:Ej K c C=ah):CN K c C ∧ lU K C:=by unfold Ej at e;obtain ⟨e1,e2⟩:=Bool.and_eq_true_iff.mp e;exact ⟨of_decide_eq_true (p:=TL K S7 c=aa (aa (.ref C))) e1,⟨e2⟩⟩
theorem n6 (X:K.In h) (G:h.Ns S7 mg) {x:az}{f:S6}{fn:BT.Fn} (e:fq K (.fn x f st)=fu w (.fn x f st))
 (k:CkB x x st fn) {b:BT.S}{rn:List az} (ck:iH (cU st) fn.ns rn b (dz st))
 (tg:∀ fd,TL K S7 x=aa (aa (.ref f)) → (∃ oc od sl,K.lookup f=aa ⟨oc,od,.func fd,sl⟩) → jz K x fd fn):CM rn K mg x ⟨fn.ps,fn.ns,b⟩:=by
 simp only[fq,fu,Ov.fn.injEq] at e;obtain ⟨fd,F,kV,doc,pm,an,cdv,ct,rfl⟩:=wO e.2;refine ⟨f,_,st,Ua X G (jR e.1),F,k.sc,F.binds k.bd,ck,tg _ (jR e.1) ?_⟩;obtain ⟨oc,od,kV,doc,pm,an,cdv,ct,osl,e1,lk,_⟩:=F.ex;exact ⟨oc,od,osl,lk⟩
end
theorem Ea {l:PySem.W.OpenLaw}{n k:Nat}{q:Td}{loose:List az}{XP:(az → Option aA) → au → Prop}{d:DefRec}{as:List S6}{qs:List Qy}{ts:List S6}{tl:List (az×S6×S6)}{T:BT.FK → Option BT.Fn}{G:az → Option BT.W}{fn:BT.Fn}{x tn:az}{told:List BT.W → BT.HH → Option (BT.W×BT.HH)}
 (hn:l.most=aa n) (hn2:n ≤ ak) (hdf:d.params.defaults=[]) (hr:f9 (2*k+1+1) Zb) (hps:fn.ps=[x]) (hT:T (.f d.name)=aa fn) (hts:ts=tl.map (·.2.2)) (hto:tl.all (λp=>!as.contains p.2.2)=ah)
 (FT:∀ (w:Tz) (K:SA),(∀ q∈qs,fq K q=fu w q) → K1 K tl)
 (F:∀ (P:Td) (w:Tz) (mg:az → Option aA) (K:SA) (h:au),K.In h → h.Ns S7 mg → (∀ q∈qs,fq K q=fu w q) → Txt P w K mg T G)
 (FX:∀ (P:Td) (w:Tz) (mg:az → Option aA) (K:SA) (h:au),K.In h → h.Ns S7 mg → (∀ q∈qs,fq K q=fu w q) → ∃ fa fd ps,mg tn=aa (.ref fa) ∧ TM K (.ref fa)=ah ∧ Binds K fd ps [] ∧ ∀ base,gH P w K mg base CX0 (2*k) fa fd ps (spF P w K told))
 (hrun:∀ ns:List Int,ns.length ≤ n → ∃ h',uK (lW tn told (BT.runN T G k)) G fn [.p (.lst (BT.dh ns))] []=aa (.p (.bl ah),h')) :
 PySem.W.WalkO q loose XP (sees as qs ts).says l.row.toRowW d [] (λf vs=>Zd f vs):=by
 refine Att.tV hn hdf λw s₀ s₁ mg mb fa o pm cd doc a vs ns Gr Y ho hd hcd hmg hobj hints hlen hg=>?_;obtain ⟨K,k0,k1,k2,k3⟩:=Y;have KX:=GY k1;have X:=F l.prog w mg K s₁.heap KX Gr.T.g k2;obtain ⟨fa',fd',ps',t1,t2,t3,t4⟩:=FX l.prog w mg K s₁.heap KX Gr.T.g k2;obtain ⟨f,fd,st,h1,h2,h3,h4,h5,h6⟩:=(X.defs _ fn hT).ex;rw[hmg] at h1;cases h1;refine AE (sp:=spF l.prog w K (uK (lW tn told (BT.runN T G k)) G fn)) (x:=x) (k:=2*k+1+1) (fd:=fd) (tl:=tl) KX Gr.T.g Gr.T.b Gr.T.builtins Gr.T.nolimit hg hobj hints (SZ hlen hn2) hr (FT w K k2) (λp hp=>k3 _ (by rw[hts];exact VV hp)) (λp hp=>?_) (λbase=>?_) (λs u hK=>?_) (λH tb hS=>DZ tb hS (hrun ns hlen))
 ·cases e:K.lookup p.2.2 with
  | none=>rfl
  | some o =>
   have m:=wQ e;rw[k0] at m;have:=List.all_eq_true.mp hto p hp;rw[List.contains_iff_mem.mpr m] at this;exact BT.dS this
 ·have:=CP (base:=base) X k h2 h3 h5 h6 t1 t2 t3 (t4 base);rw[hps] at this;exact this
 ·have:=h4 s [u] hK (by rw[hps];rfl);rw[hps] at this;exact this
section
variable {P:Td}{w:Tz}{K:SA}{h:au}{mg:az → Option aA}{D:S6}{xs:List (az×S6)}
theorem Eb {rn:List az} (e:fq K (.exc D xs)=fu w (.exc D xs)) (hx:xs.map (·.1)=rn):(∀ c,rn.contains c=ah → ∃ C,CN K c C ∧ lU K C ∧ pq K C D=ah) ∧ lU K D ∧ CN K "TapeError" D:=by simp only[fq,fu,Ov.b.injEq] at e;unfold HS at e;obtain ⟨e1,e2⟩:=Bool.and_eq_true_iff.mp e;have e3:=List.all_eq_true.mp e2;refine ⟨λc hc=>?_,(gm e1).2,(gm e1).1⟩;have:c∈rn:=List.contains_iff_mem.mp hc;rw[← hx] at this;obtain ⟨p,hp,rfl⟩:=List.mem_map.mp this;have q:=e3 _ hp;unfold Ek at q;simp only[SM,decide_eq_true_eq] at q;obtain ⟨⟨⟨⟨⟨⟨⟨⟨⟨⟨⟨q1,q2⟩,q3⟩,q4⟩,q5⟩,q6⟩,q7⟩,q8⟩,q9⟩,q10⟩,q11⟩,q12⟩:=q;exact ⟨p.2,(gm q1).1,(gm q1).2,q2⟩
theorem Ec {rn:List az}{TX:BT.FK → Option BT.Fn} (X:K.In h) (Gh:h.Ns S7 mg) (e:fq K (.exc D xs)=fu w (.exc D xs)) (hx:xs.map (·.1)=rn) (df:∀ x fn,TX (.f x)=aa fn → CM rn K mg x fn) (me:∀ c m fn,TX (.m c m)=aa fn → yq rn K c m fn) (lm:∀ L fn,TX (.l L)=aa fn → False:=by intro L fn e;cases e):Ak rn K mg TX :=
 ⟨df,me,λc hc=>by obtain ⟨C,h1,h3,_⟩:=(Eb e hx).1 c hc;exact ⟨C,h1,Ua X Gh h1,h3⟩,lm⟩
end
section
variable {P:Td}{w:Tz}{K:SA}{h:au}{mg:az → Option aA}{D:S6}{xs:List (az×S6)}
theorem Ed (e:fq K (.exc D xs)=fu w (.exc D xs)) (hx:xs.map (·.1)=(["NoMoment","NoThing","NoText"]:List az)):(∃ C,CN K "NoText" C ∧ XT K "NoText" C ∧ lU K C ∧ pq K C D=ah) ∧ lU K D ∧ CN K "TapeError" D:=by
 simp only[fq,fu,Ov.b.injEq] at e;unfold HS at e;obtain ⟨e1,e2⟩:=Bool.and_eq_true_iff.mp e;have e3:=List.all_eq_true.mp e2;have at_:∀ {c:az},c∈(["NoMoment","NoThing","NoText"]:List az) → ∃ C,(c,C)∈xs:=λ{c} hc=>by rw[← hx] at hc;obtain ⟨p,hp,rfl⟩:=List.mem_map.mp hc;exact ⟨p.2,hp⟩
 refine ⟨?_,(gm e1).2,(gm e1).1⟩;obtain ⟨C,hm⟩:=at_ (c:="NoText") (by simp);have q:=e3 _ hm;unfold Ek at q;simp only[SM,decide_eq_true_eq] at q;obtain ⟨⟨⟨⟨⟨⟨⟨⟨⟨⟨⟨q1,q2⟩,q3⟩,q4⟩,q5⟩,q6⟩,q7⟩,q8⟩,q9⟩,q10⟩,q11⟩,q12⟩:=q;refine ⟨C,(gm q1).1,⟨q3,q4,q5,q6,q7,q8,q9,q10,λcn hcn hu=>?_,q11⟩,(gm q1).2,q2⟩;have hin:cn∈(["NoMoment","NoThing","NoText"]:List az):=by
  have:=D8 hcn;simp only[wR,Uh,TR,or_false] at this;rcases this with h|h|h|h
  simp[h];rw[h] at hu;exact BT.dS hu;simp[h];simp[h]
 obtain ⟨D',hm'⟩:=at_ hin;have z:=List.all_eq_true.mp q12 _ hm';have z2:=e3 _ hm';unfold Ek at z2;simp only[SM] at z2;refine ⟨D',(gm z2.1.1.1.1.1.1.1.1.1.1.1).1,?_⟩;rw[D9 hcn];exact of_decide_eq_true z
noncomputable def zB:List Xj → List Xj
 | .Try b _ _ _ _::_=>b| _=>[]
theorem AF (X:K.In h) (Gh:h.Ns S7 mg) (XT:Txt P w K mg T G) (YT:Ak rn K mg TX) (e:fq K (.exc D xs)=fu w (.exc D xs)) (hx:xs.map (·.1)=(["NoMoment","NoThing","NoText"]:List az))
 {rest:List Xj} (et:fq K (.fn tn f st)=fu w (.fn tn f st))
 (hB:dz st=.Try (zB (dz st)) [.ExceptHandler (aa (.Name "TapeError" p1)) (aa n) (b0::hb) hp] [] [] pos::rest)
 (h6:iH (cU st) fn.ns [] fn.body (zB (dz st))) (h7:CSs (cU st) fn.ns hbt (b0::hb)) (hi:fn.ns[i]?=aa n) (hln:(cU st).names.lookup n=aa .local)
 (hgD:d8 (cU st) "TapeError"=ah)
 (h5:CSs (cU st) fn.ns fn.body (zB (dz st)):=by repeat' (first|rfl|constructor|decide +kernel)) (s3:eV fn.ns fn.ps (cU st):=by constructor<;>first|rfl|decide +kernel)
 (hb2:BdT tn tn st fn:=by intro _ _ _ _ _ _ us hl;first|(obtain ⟨a0,a1,rfl⟩:=KY hl;rfl)|(obtain ⟨a0,a1,a2,rfl⟩:=KZ hl;rfl)|(obtain ⟨a0,a1,a2,a3,rfl⟩:=K0 hl;rfl))
 (tg:zu fn.ns=ah:=by decide +kernel) (okn:d7 n=ah:=by decide +kernel) (hu:gq fn.ns=ai:=by decide +kernel) :
 ∃ fa fd ps,mg tn=aa (.ref fa) ∧ TM K (.ref fa)=ah ∧ Binds K fd ps [] ∧ ∀ base,gH P w K mg base CX0 (2*(k+1)) fa fd ps (spF P w K (lX (BT.runN T G k) (BT.fz T TX G k) (BT.dk T) G fn hbt i "NoText")):=by
 obtain ⟨⟨C,c1,c2,c3,c4⟩,z2,z3⟩:=Ed e hx;simp only[fq,fu,Ov.fn.injEq] at et;obtain ⟨fd,F,kV,doc,pm,an,cdv,ct,rfl⟩:=wO et.2;refine ⟨f,_,fn.ps,Ua X Gh (jR et.1),F.kp,F.binds hb2,λbase=>?_⟩;exact CU XT YT c1 c2 c3 c4 F s3 hB h5 h6 h7 hu (vj tg) hi hln okn hgD (by decide) (Ua X Gh z3) z2
end
end BG
end
section
namespace BL
open PySem PySem.Spec PyProof.Rows L2 BS BF BG
theorem Rg:CkB "is_whole" "is_whole" (top 12) BT.fH:={}
theorem Rh:CkB "is_worth" "is_worth" (top 13) BT.gA:={}
theorem Ri:CkB "is_name" "is_name" (top 14) BT.iz:={}
theorem Rj:CkB "is_place" "is_place" (top 15) BT.gB:={}
theorem Rk:CkB "first_word" "first_word" (top 16) BT.fy:={}
theorem Rl:CkB "inner_sums" "inner_sums" (top 17) BT.dH:={}
theorem Rm:CkB "has_sum_form" "has_sum_form" (top 18) BT.cV:={}
theorem Rn:CkB "is_sum" "is_sum" (top 19) BT.jM:={}
theorem Ro:CkB "fits" "fits" (top 20) BT.k6:={}
theorem Rp:CkB "is_row" "is_row" (top 21) BT.jN:={}
theorem Rq:CkB "is_program" "is_program" (top 22) BT.gi:={}
theorem Rr:CkB "written_word" "written_word" (top 26) BT.eH:={}
theorem Rt:CkB "written_sum" "written_sum" (top 27) BT.gF:={}
theorem Ru:CkB "written_row" "written_row" (top 28) BT.gG:={}
theorem Rv:CkB "written" "written" (top 29) BT.ko:={}
theorem Rx:CkB "is_figures" "is_figures" (top 30) BT.fM:={}
theorem Ry:CkB "number_or_word" "number_or_word" (top 31) BT.dX:={}
theorem Rz:CkB "leaf_of" "leaf_of" (top 32) BT.gC:={}
theorem Oh:CkB "sum_of" "sum_of" (top 33) BT.i6:={}
theorem RB:CkB "sum_end" "sum_end" (top 34) BT.i7:={}
theorem Oi:CkB "row_of" "row_of" (top 35) BT.i8:={}
theorem Oj:CkB "read_sum" "read_sum" (top 36) BT.iA:={}
theorem Ol:CkB "read" "read" (top 37) BT.pH:={}
theorem RC:CkB "_law_cell" "_law_cell" (top 39) BT.gO:={}
theorem RE:CkB "_law_drawn" "_law_drawn" (top 40) BT.gW:={}
theorem RG:CkB "_law_sum" "_law_sum" (top 41) BT.fX:={}
theorem RI:CkB "_law_row" "_law_row" (top 42) BT.jn:={}
theorem RJ:CkB "_law_program" "_law_program" (top 43) BT.fG:={}
theorem RK:CkB "_law_asked" "_law_asked" (top 44) BT.jo:={}
theorem RL:CkB "_law_sum_at" "_law_sum_at" (top 46) BT.fT:={}
theorem RM:CkB "_law_row_of" "_law_row_of" (top 47) BT.fU:={}
theorem RN:CkB "_law_due" "_law_due" (top 48) BT.DT:={}
theorem RO:CkB "law" "law" (top 49) BT.kF:={}
noncomputable def tab:List (BT.FK×BT.Fn):=[(.f "is_whole",BT.fH),(.f "is_worth",BT.gA),(.f "is_name",BT.iz),(.f "is_place",BT.gB),(.f "first_word",BT.fy),(.f "inner_sums",BT.dH),(.f "has_sum_form",BT.cV),(.f "is_sum",BT.jM),(.f "fits",BT.k6),(.f "is_row",BT.jN),(.f "is_program",BT.gi),(.f "written_word",BT.eH),(.f "written_sum",BT.gF),(.f "written_row",BT.gG),(.f "written",BT.ko),(.f "is_figures",BT.fM),(.f "number_or_word",BT.dX),(.f "leaf_of",BT.gC),(.f "sum_of",BT.i6),(.f "sum_end",BT.i7),(.f "row_of",BT.i8),(.f "read_sum",BT.iA),(.f "read",BT.pH),(.f "_law_cell",BT.gO),(.f "_law_drawn",BT.gW),(.f "_law_sum",BT.fX),(.f "_law_row",BT.jn),(.f "_law_program",BT.fG),(.f "_law_asked",BT.jo),(.f "_law_sum_at",BT.fT),(.f "_law_row_of",BT.fU),(.f "_law_due",BT.DT),(.f "law",BT.kF)]
noncomputable def glo:List (az×BT.W):=[("WORTH_COUNT",.p (.int 10007)),("MOST_PARTS",.p (.int 15)),("MOST_ROWS",.p (.int 20)),("MOST_FIGURES",.p (.int 5)),("LETTERS",.p (.tup ((["a","b","c","d","e","f"]:List az).map BT.D.str))),("FIGURES",.p (.str "0123456789")),("ROW_FORMS",.k (.t (([("set",67,["name","sum"]),("put",68,["sum","sum"]),("ask",69,["name"]),("say",70,["sum"]),("jump",71,["place"]),("unless",72,["sum","place"]),("call",73,["place"]),("back",74,[]),("stop",75,[])]:List (az×S6×List az)).map λq=>(q.1,BT.D.tup (q.2.2.map BT.D.str))))),("INNER_COUNTS",.k (.t (([("num",0),("name",0),("cell",1),("add",2),("sub",2),("mul",2),("less",2)]:List (az×Int)).map λq=>(q.1,BT.D.int q.2))))]
noncomputable abbrev T:BT.FK → Option BT.Fn:=look tab
noncomputable abbrev G:az → Option BT.W:=look glo
noncomputable def GZ:List (BT.FK×BT.Fn):=[(.f "sum_of",BT.fO),(.f "row_of",BT.jb),(.f "read_sum",BT.iN),(.f "read",BT.nZ)]
noncomputable abbrev TX:BT.FK → Option BT.Fn:=look GZ
theorem prg:BT.P80 T G:=⟨rfl,rfl,rfl,rfl,rfl,rfl,rfl,rfl,rfl,rfl,rfl,rfl,rfl,rfl,rfl,rfl,rfl,rfl,rfl,rfl,rfl,rfl,rfl,rfl,rfl,rfl,rfl,rfl,rfl,rfl,rfl⟩
theorem run (ns:List Int) (h:ns.length ≤ 1000):∃ h',uK (lW "_law_told" (BT.lB T TX G 75) (BT.runN T G 76)) G BT.kF [.p (.lst (BT.dh ns))] []=aa (.p (.bl ah),h') :=
 BT.AB (T:=T) (TX:=TX) (G:=G) prg ⟨rfl,rfl,rfl,rfl⟩ ⟨rfl,rfl,rfl⟩ ⟨⟨rfl,rfl,rfl,rfl,rfl⟩,rfl⟩ 2 67 (F:=lW "_law_told" (BT.lB T TX G 75) (BT.runN T G 76)) ⟨λy hy=>yr hy⟩ uJ ns h
theorem Om (w:Tz) (K:SA) (hq:∀ q∈qys,fq K q=fu w q):K1 K tl:=by
 refine ⟨λz hz=>?_,λp hp=>?_⟩
 ·simp only[BT.iK,Uh,TR,or_false] at hz;rcases hz with rfl|rfl|rfl|rfl|rfl|rfl|rfl|rfl|rfl|rfl|rfl|rfl|rfl|rfl|rfl
  exact .inr (eS (w:=w) (hn hq 71 rfl));exact .inr (eS (w:=w) (hn hq 72 rfl));exact .inr (eS (w:=w) (hn hq 73 rfl));exact .inr (eS (w:=w) (hn hq 74 rfl));exact .inr (eS (w:=w) (hn hq 75 rfl));exact .inr (eS (w:=w) (hn hq 76 rfl));exact .inr (eS (w:=w) (hn hq 77 rfl));exact .inr (eS (w:=w) (hn hq 78 rfl));exact .inr (eS (w:=w) (hn hq 79 rfl));exact .inr (eS (w:=w) (hn hq 80 rfl));exact .inr (eS (w:=w) (hn hq 81 rfl));exact .inr (eS (w:=w) (hn hq 82 rfl));exact .inr (eS (w:=w) (hn hq 83 rfl));exact .inr (eS (w:=w) (hn hq 84 rfl));exact .inr (eS (w:=w) (hn hq 85 rfl))
 simp[tl] at hp
theorem txt (P:Td) (w:Tz) (mg:az → Option aA) (K:SA) (h:au) (X:K.In h) (Gh:h.Ns S7 mg) (hq:∀ q∈qys,fq K q=fu w q):Txt P w K mg T G:=by have tbf:=Om w K hq;have all:∀ p∈tab,D7 K mg p:=cX (dd0 X Gh (hn hq 0 rfl) Rg) <| cX (dd0 X Gh (hn hq 1 rfl) Rh) <| cX (dd0 X Gh (hn hq 2 rfl) Ri) <| cX (dd0 X Gh (hn hq 3 rfl) Rj) <| cX (dd0 X Gh (hn hq 4 rfl) Rk) <| cX (dd0 X Gh (hn hq 5 rfl) Rl) <| cX (dd0 X Gh (hn hq 6 rfl) Rm) <| cX (dd0 X Gh (hn hq 7 rfl) Rn) <| cX (dd0 X Gh (hn hq 8 rfl) Ro) <| cX (dd0 X Gh (hn hq 9 rfl) Rp) <| cX (dd0 X Gh (hn hq 10 rfl) Rq) <| cX (dd0 X Gh (hn hq 11 rfl) Rr) <| cX (dd0 X Gh (hn hq 12 rfl) Rt) <| cX (dd0 X Gh (hn hq 13 rfl) Ru) <| cX (dd0 X Gh (hn hq 14 rfl) Rv) <| cX (dd0 X Gh (hn hq 15 rfl) Rx) <| cX (dd0 X Gh (hn hq 16 rfl) Ry) <| cX (dd0 X Gh (hn hq 17 rfl) Rz) <| cX (dd0 X Gh (hn hq 18 rfl) Oh) <| cX (dd0 X Gh (hn hq 19 rfl) RB) <| cX (dd0 X Gh (hn hq 20 rfl) Oi) <| cX (dd0 X Gh (hn hq 21 rfl) Oj) <| cX (dd0 X Gh (hn hq 22 rfl) Ol) <| cX (dd0 X Gh (hn hq 23 rfl) RC) <| cX (dd0 X Gh (hn hq 24 rfl) RE) <| cX (dd0 X Gh (hn hq 25 rfl) RG) <| cX (dd0 X Gh (hn hq 26 rfl) RI) <| cX (dd0 X Gh (hn hq 27 rfl) RJ) <| cX (dd0 X Gh (hn hq 28 rfl) RK) <| cX (dd0 X Gh (hn hq 29 rfl) RL) <| cX (dd0 X Gh (hn hq 30 rfl) RM) <| cX (dd0 X Gh (hn hq 31 rfl) RN) <| cX (dd0 X Gh (hn hq 32 rfl) RO) <| vm;refine ⟨λx fn e=>?_,λc m fn e=>?_,λL fn e=>?_,λx z e=>?_,?_⟩;exact iE (Q:=λk fn=>∀ x,k=.f x → Def K mg x fn) (l:=tab) (λp hp=>(all p hp).1) e x rfl;exact iE (Q:=λk fn=>∀ c m,k=.m c m → JY K mg c m fn) (l:=tab) (λp hp=>(all p hp).2.1) e c m rfl;exact iE (Q:=λk fn=>∀ L,k=.l L → False) (l:=tab) (λp hp=>(all p hp).2.2) e L rfl;exact iE (Q:=λx z=>pU P w K mg x z) (l:=glo) (cX (mH X Gh (hn hq 33 rfl)) <| cX (mH X Gh (hn hq 34 rfl)) <| cX (mH X Gh (hn hq 35 rfl)) <| cX (mH X Gh (hn hq 36 rfl)) <| cX (D3 X Gh (hn hq 37 rfl) (by decide) (by decide +kernel)) <| cX (D5 X Gh (hn hq 39 rfl) (by decide +kernel)) <| cX (D6 X Gh [("set",67,["name","sum"]),("put",68,["sum","sum"]),("ask",69,["name"]),("say",70,["sum"]),("jump",71,["place"]),("unless",72,["sum","place"]),("call",73,["place"]),("back",74,[]),("stop",75,[])] (hn hq 40 rfl) (by decide) (by decide +kernel) (cX (jx (hn hq 41 rfl) (by decide) (by decide +kernel)) <| cX (jx (hn hq 42 rfl) (by decide) (by decide +kernel)) <| cX (jx (hn hq 43 rfl) (by decide) (by decide +kernel)) <| cX (jx (hn hq 44 rfl) (by decide) (by decide +kernel)) <| cX (jx (hn hq 45 rfl) (by decide) (by decide +kernel)) <| cX (jx (hn hq 46 rfl) (by decide) (by decide +kernel)) <| cX (jx (hn hq 47 rfl) (by decide) (by decide +kernel)) <| cX (jx (hn hq 48 rfl) (by decide) (by decide +kernel)) <| cX (jx (hn hq 49 rfl) (by decide) (by decide +kernel)) <| vm)) <| cX (D4 X Gh (hn hq 38 rfl) (by decide) (by decide +kernel)) <| vm) e;exact cX (none_of X Gh (hn hq 50 rfl)) <| cX (none_of X Gh (hn hq 51 rfl)) <| cX (none_of X Gh (hn hq 52 rfl)) <| cX (none_of X Gh (hn hq 53 rfl)) <| cX (none_of X Gh (hn hq 54 rfl)) <| cX (none_of X Gh (hn hq 55 rfl)) <| cX (none_of X Gh (hn hq 56 rfl)) <| cX (none_of X Gh (hn hq 57 rfl)) <| cX (none_of X Gh (hn hq 58 rfl)) <| cX (none_of X Gh (hn hq 59 rfl)) <| cX (none_of X Gh (hn hq 60 rfl)) <| cX (none_of X Gh (hn hq 61 rfl)) <| cX (none_of X Gh (hn hq 62 rfl)) <| cX (none_of X Gh (hn hq 63 rfl)) <| cX (none_of X Gh (hn hq 64 rfl)) <| cX (none_of X Gh (hn hq 65 rfl)) <| cX (none_of X Gh (hn hq 66 rfl)) <| cX (none_of X Gh (hn hq 67 rfl)) <| cX (none_of X Gh (hn hq 68 rfl)) <| cX (none_of X Gh (hn hq 69 rfl)) <| cX (none_of X Gh (hn hq 70 rfl)) <| vm
noncomputable abbrev rn:List az:=(["NoMoment","NoThing","NoText"]:List az)
theorem cxT:iH (cU (top 45)) BT.lA.ns [] BT.lA.body (zB (dz (top 45))):=.one (.ret (.ite rfl ce (.call rfl (by decide +kernel) ce (.cons rfl ce (.no rfl) .nil)) (.call rfl (by decide +kernel) ce (.cons rfl ce (.no rfl) .nil))))
theorem RP:iH (cU (top 33)) BT.fO.ns rn BT.fO.body (dz (top 33)):=.cons ce (.set rfl) (.one (.forb rfl rfl ce ce rfl rfl ce (.cons ce (.set rfl) (.cons ce (.ife rfl ce (.one (.rai rfl rfl rfl (by decide +kernel) (by decide +kernel) ce)) .nil) (.cons ce (.set rfl) (.one (.ex rfl (.app rfl rfl (by decide) ce (.cons rfl ce (.ite rfl ce (.bin (.no rfl)) (.call rfl (by decide +kernel) ce (.cons rfl ce (.no rfl) .nil))) .nil)))))))))
theorem RQ:iH (cU (top 35)) BT.jb.ns rn BT.jb.body (dz (top 35)):=.cons ce (.set rfl) (.cons ce (.setx rfl (.lst (.cons rfl ce (.idx (.no rfl)) .nil))) (.cons ce (.set rfl) (.one (.forb rfl rfl ce ce rfl rfl ce (.cons ce (.set rfl) (.cons ce (.ife rfl ce (.one (.rai rfl rfl rfl (by decide +kernel) (by decide +kernel) ce)) .nil) (.cons ce (.setx rfl (.ite rfl ce (.call rfl (by decide +kernel) ce (.cons rfl ce (.no rfl) (.cons rfl ce (.no rfl) .nil))) (.bin (.no rfl)))) (.one (.ex rfl (.app rfl rfl (by decide) ce (.cons rfl ce (.ite rfl ce (.call rfl (by decide +kernel) ce (.cons rfl ce (.no rfl) .nil)) (.call rfl (by decide +kernel) ce (.cons rfl ce (.idx (.no rfl)) .nil))) .nil)))))))))))
theorem RT:iH (cU (top 36)) BT.iN.ns rn BT.iN.body (dz (top 36)):=.cons ce (.setx rfl (.call rfl (by decide +kernel) ce (.cons rfl ce (.no rfl) .nil))) (.one (.ife rfl ce (.one (.rai rfl rfl rfl (by decide +kernel) (by decide +kernel) ce)) .nil))
theorem RU:iH (cU (top 37)) BT.nZ.ns rn BT.nZ.body (dz (top 37)):=.cons ce (.setcx rfl (by decide) rfl (by first|rfl|decide +kernel) (by first|rfl|decide +kernel) (by first|rfl|decide +kernel) rfl ce ce (.call rfl (by decide +kernel) ce (.cons rfl ce (.no rfl) .nil))) (.one (.ife rfl ce (.one (.rai rfl rfl rfl (by decide +kernel) (by decide +kernel) ce)) .nil))
theorem txX (w:Tz) (mg:az → Option aA) (K:SA) (h:au) (X:K.In h) (Gh:h.Ns S7 mg) (hq:∀ q∈qys,fq K q=fu w q):Ak rn K mg TX:=by have all:∀ p∈GZ,(∀ x,p.1=.f x → CM rn K mg x p.2) ∧ ∀ c m,p.1=.m c m → yq rn K c m p.2:=cX ⟨λx e=>(by cases e;exact n6 X Gh (hn hq 18 rfl) Oh RP (λ_ _ _=>pV dk)),λc m e=>(by cases e)⟩ <| cX ⟨λx e=>(by cases e;exact n6 X Gh (hn hq 20 rfl) Oi RQ (λ_ _ _=>pV dk)),λc m e=>(by cases e)⟩ <| cX ⟨λx e=>(by cases e;exact n6 X Gh (hn hq 21 rfl) Oj RT (λ_ _ _=>pV dk)),λc m e=>(by cases e)⟩ <| cX ⟨λx e=>(by cases e;exact n6 X Gh (hn hq 22 rfl) Ol RU (λ_ _ _=>pV dk)),λc m e=>(by cases e)⟩ <| vm;refine Ec X Gh (hn hq 87 rfl) rfl (λx fn e=>?_) (λc m fn e=>?_);exact iE (Q:=λk fn=>∀ x,k=.f x → CM rn K mg x fn) (l:=GZ) (λp hp=>(all p hp).1) e x rfl;exact iE (Q:=λk fn=>∀ c m,k=.m c m → yq rn K c m fn) (l:=GZ) (λp hp=>(all p hp).2) e c m rfl
theorem tld (P:Td) (w:Tz) (mg:az → Option aA) (K:SA) (h:au) (X:K.In h) (Gh:h.Ns S7 mg) (hq:∀ q∈qys,fq K q=fu w q) :
 ∃ fa fd ps,mg "_law_told"=aa (.ref fa) ∧ TM K (.ref fa)=ah ∧ Binds K fd ps [] ∧ ∀ base,gH P w K mg base CX0 (2*76) fa fd ps (spF P w K (BT.lB T TX G 75)) :=
 AF (i:=2) (hbt:=BT.GQ) X Gh (txt P w mg K h X Gh hq) (txX w mg K h X Gh hq) (hn hq 87 rfl) rfl (hn hq 86 rfl) rfl cxT ce rfl rfl rfl
noncomputable abbrev lw:DefRec:=⟨"law",f7 (top 49),dz (top 49),cU (top 49),Ph (top 49)⟩
theorem df:PySem.W.defOf qg "law"=aa (lw,[]):=by kernel_rfl
theorem th:pg.theDef "law"=aa (lw.params,lw.body,lw.scope):=by kernel_rfl
theorem walk:PySem.W.WalkO qg loo (PySem.W.XL qg []) (sees adr qys tas).says PySem.Challenge.rw_backtape_k81_whole_read.row.toRowW lw [] (λf vs=>Zd f vs) :=
 Ea (l:=PySem.Challenge.rw_backtape_k81_whole_read) (n:=63) (k:=76) (x:="_law_script") (d:=lw) (T:=T) (G:=G) (ts:=tas) (fn:=BT.kF) rfl (by decide) rfl ⟨rfl,by decide,by decide⟩ rfl rfl (tl:=tl) rfl (by decide +kernel) Om txt tld λns hl=>run ns (by lia)
end BL
open PySem PySem.W PyProof.Rows
set_option maxRecDepth 100000 in
set_option maxHeartbeats 0 in
theorem PySem.Challenge.cw_backtape_k81_whole_read_holds : PySem.Challenge.rw_backtape_k81_whole_read.Holds := by
 w_on;refine PySem.W.holds_law (by decide +kernel) λsaid=>?_
 refine PySem.W.holds_open (q:=BL.qg) (loose:=BL.loo) (XP:=XL BL.qg []) (YP:=(BG.sees BL.adr BL.qys BL.tas).says) (d:=BL.lw) (kwd:=[]) BL.left (BG.sees BL.adr BL.qys BL.tas).of (BG.sees BL.adr BL.qys BL.tas).keeps (λs e=>xl_of s (Bool.and_eq_true_iff.mp e).1) XL.keeps BL.df BL.th (by kernel_rfl) (λs e=>recFacts_of (Bool.and_eq_true_iff.mp e).2) rfl (by first|assumption|decide +kernel) (by decide +kernel) ⟨rfl,rfl,rfl,rfl,rfl,by decide +kernel⟩ ?hw BL.walk
 (case hw=>w_witness2)
#print axioms PySem.Challenge.cw_backtape_k81_whole_read_holds
end
end

import PyProof.Rows.All
import Wide.All
import OpenK.AllK
import Wide.FinOn
import PyProof.EqAt
import PyProof.EqKinds
import PyProof.TupleCall
import Open.Tree
import Wide.Once
import KE.KLam
import KE.KNestM
import KE.KIsAll
import OpenK.KMore
import KE.KSortTup
import PyProof.Rows.SetFrom
import PyProof.IsiH_list
import PyProof.Rows.Exc
import KE.KDictOf
import PySem.Syntax
import PySem.Builtin.Str.Common
import PyProof.SliceList
import PyProof.StrCalls2
import KE.KIntText
import PyProof.NeData
import PyProof.ExcAttrAll.ValueError
import PyProof.ZipIter
import KE.KRevIter
import KE.KItemsList
import KE.KDictSum
import PyProof.DictWalks
import KE.KPairComp
import KE.KEqDict
import PyProof.StrBlock2
import PyProof.StrBlockL
import PyProof.ConsumeWalk
import PyProof.ListRange
import PyProof.EnumFor
import PyProof.EnumMake
import PyProof.EnumStmt
import PyProof.CompFree
import PyProof.PlainList
import PyProof.Draws
import PyProof.StrWalks
import PyProof.StrLawsTight
import Lean
import PySem.Challenge.RW_backtape_k70_whole_runs_and_reasons
set_option autoImplicit true
set_option Elab.async false
set_option linter.all false
set_option maxRecDepth 100000
set_option maxHeartbeats 8000000
set_option genSizeOf false
set_option compiler.extract_closed false
set_option bootstrap.genMatcherCode false
noncomputable section
def bJ:=@if_pos
def bK:=@if_neg
def bL:=@absurd
def bM:=@decide_eq_true_eq
def bN:=@decide_eq_false
def bO:=@decide_eq_true
def bP:=@of_decide_eq_true
def bQ:=@eq_of_beq
def bR:=@congrArg
def bS:=@beq_eq_false_iff_ne
open PySem renaming Value->aA,Addr->az,Str->ay,wpAny->av,wpAny_pure->au,Heap->aq,Obj->ao,codeAny->ak,sizeLine->aj
open Option renaming some->aa,none->af
open Bool renaming true->ah,false->ai
open PySem renaming wpAny_bind->Rz,Shared->RI,Expr->RN,model->R6,mainGlobals->R8,Program->Sb,wpAny_newObj_type->Su,starEach->Sv,sliceBounds->SA,wpAny_callSpecial?_slot->SG,World->SH,wpAny_holding->SQ,Stmt->S9,compareOp->Tf,wpAny_call_entry->Tg,wpAny_field->Tn,Scope->Tu,Around->TJ,wpAny_seqItems->TM,wpAny_truthy_bool->TR,binaryOp->T8,wpAny_setField->T9,wpAny_updateSeq->Uc,wpAny_setState_of->Ud,wpAny_mono->Ue,wpAny_Call_Name_kw->Ut,FuncData->Uv,wpAny_passesOwn->Uz,assignEach->UC,mem_of_lookup->UD,rawInt->UL,wpAny_isInstance->UM,wpAny_typeOf->UR,call_meets->US,builtinsNs->UT,wpAny_loadPart'->UV,backTo->UW,NameKind->UY,IsPair->U3,sysModules->U4,fits_of_scanBound->U5,scanBound->U9,builtinLookup_eq_fast->Va,pyNext->Vh,wpAny_rule->Vk,swapsWith->Vl,pickOrder->Vm,wpAny_setField_rec->Vt,bootBuiltins->Vu,sliceRange->VF,wpAny_attempt->VN,keywordEach->VO,holding->VP,attributeBase->VQ,wpAny_ite_split->V1,wpAny_execs_nil->V2,updateSeq->V3,typeLookup_type->V4,letOwnedTupleGo->V5,importedModules->V6,Keyword->Wb,Operator->Wc,firstArgMember->Wg,Expr->Wk,wpAny_setEntries_of->Wn,sizeLine_eq->Wo,Builtin->Ww,wpAny_standAt->WB,wpAny_pyIter_tuple->WC,storeSet->WD,ExceptHandler->WJ,DictEntry->WK,wpAny_call->WW,typeLookup->WX,getItem->WY,Stmt->W0,assign->Xb,IsPart->Xh,noFill_tuple_add->Xi,backToKw->Xo,wpAny_specialOf->Xx,wpAny_in_of->Xy,standAt->Xz,getMethod->XA,Result->XF,Within->XG,PassesOwn->XI,Arguments->XN,wpAny_binaryOp_repeat_ref->XW,setAddHashedIn->XX,bltViewBooted->XY,IsZip->X3,wpAny_getItem_list_slice->X7,seq_tuple_add->Yk,nums_intItems->Ym,evalPart_none->Yn,compEnvC->Yo,callerA->Yp,bindArgs->Yq,behindInMarks->Yr,ZipApart->Ys,call->Yu
open PySem.W renaming Frag->RB,findIn->Sk,nsIn->SN,emptyDict->Tv,keepIn->Tw,tabIn->TU,fnOf->TV,kitOne->TZ,instObj->T6,specialIn->Uj,hasDictIn->Uk,mg_of->UH,kia_one->UI,plainGet->UX,callWith_K->Vd,takesIn->Vv,methodCall_KW->Vw,isFn->Vx,tabObj->VG,lookIn->VH,codeIn->VI,plainGet_of->VR,callWith_K0->VS,mroIn->VW,plainOver->V8,methodObj->V9,codeHdIn->Wd,takerIn->Wp,readsIn->Wq,makesIn->Wr,byRow2->WG,absHeap->WZ,SharedT->W3,recOk->W4,cellsFrom_some->Xc,xlAt->Xj,envX->Xk,codeHd_of_K->XH,wideGood->X8,ksm_same->X9,handedIn->Yb,clsGoodW->Yc,openSeen->Yl,findCls->Yv
open PySem.Heap renaming get?_push_of_some->RC,lt_size->RL,get?_push_size->RM,get?_update_self->Sj,size_push->SE,get?_update_other->SR,SameBut->S7,ExtBut->WT
open List renaming getElem?_append_left->RE,size_toArray->RG,getElem?_eq_getElem->RJ,mem_cons_of_mem->RP,getElem?_eq_none->RT,mem_of_getElem?->RU,length_map->RX,length_cons->RY,mem_cons_self->RZ,getElem?_map->Sa,replicate->Sd,map_cons->Sf,getElem?_set_ne->Sg,length_append->Sh,getElem?_set_self->Sw,range->Sy,getElem?_append_right->SB,mem_append_right->SK,getD_eq_getElem?_getD->SL,length_nil->SO,filterMap_cons->SX,append_assoc->SZ,map_nil->S6,length_set->Td,append_nil->Tt,replicate_succ->TQ,lookup_cons->T3,singleton_append->T5,all_eq_true->Ug,map_map->Ul,length_singleton->Um,find?_cons->Uo,flatten_cons->Uu,mem_append_left->Ux,getElem?_of_mem->Uy,mem_or_eq_of_mem_set->UB,map_congr_left->UE,lookup->UF,getElem?_take_of_lt->UJ,nil_append->UN,getElem?_replicate->UO,length_replicate->UZ,map_append->Ve,getElem?_range->Vf,not_mem_nil->Vy,length_take->Vz,getElem_mem->VA,reverse_singleton->VC,range_succ_eq_map->VD,find?_cons_of_neg->VE,set_set->VJ,map_set->VL,forIn_cons->VM,nodup_nil->VX,getElem_map->Wy,getElem_inj->Wz,eq_nil_of_length_eq_zero->WA,of_mem_zip->WO,mem_append->WQ,length->WR,foldl_cons->WS,length_eraseIdx_of_lt->W9,getElem?_zip_eq_some->Xd,getElem?_eq_none_iff->Xe,forIn_nil->Xf,drop_eq_getElem_cons->Xg,foldl->Xm,sum_cons->Xp,mem_cons->Xq,head_eq_of_cons_eq->Xr,getElem?_cons_succ->Xs,take_of_length_le->XJ,getElem?_toArray->XS,range'->Yg,zip_cons_cons->Yy,contains_cons->Yz
open Bool renaming and_eq_true->RK,false_ne_true->Sn,or_eq_true->Uq,false_eq_true->UP,or_false->U8,not_eq_true'->Wl,or_eq_false_iff->X4
open Option.some renaming inj->RO,injEq->Vc
open Nat renaming le_refl->RQ,lt_or_ge->R0,lt_of_lt_of_le->Se,ne_of_lt->Si,le_trans->Sz,zero_le->SV,ne_of_gt->SY,lt_irrefl->Te,le_succ->TF,lt_succ_self->T4,le_of_lt->Ub,le_add_right->Uh,mul_comm->UK,eq_zero_or_pos->UQ,lt_trans->VU,add_lt_add_left->Wa,mul_div_cancel->We,mod_lt->Ws,lt_succ_of_lt->Wu,zero_add->Wx,not_lt_zero->W7,div_add_mod->W8,le_of_ble_eq_true->X0,div_le_div_right->Ye
open PySem.Str renaming ofString->RV,ofString_eq_toList->XR
open Array renaming length_toList->So,getElem?_eq_getElem->Sq,getElem?_eq_none->Tc,eq_empty_of_size_eq_zero->Wm,getElem?_append_left->WV,getElem?_extract->Xv,getElem?_toList->XM,getElem?_push->X6,forIn_toList->Yh,toList_push->YA
open PyProof.Rows renaming callWith_type1->Ss,slot_tuple_getitem->TX,firstMet->T7,IntsAre->Vp,callWith_builtin1->VT,plainGoodE->Wh,plainGoodD->Wi,expectedOf->Wj,drecsOf->WH,envOfC->XC,AllBare->XQ,tail_any->Yi,subscriptTail->Yj
open PySem.Builtin.SmallTypes renaming nextOf->Sx,ownedTupleIsFree->SI,ownedTupleHandOut->Vg
open PySem.Heap.SameBut renaming update->SC,refl->U7
open PySem.F renaming plain_extend_loop->SD,plainAttrs_list->Ua,entry_extend_loop->Uw,args_tuple_add_2->Vj,entry_tuple_add->Vo,slot_tuple_add->Vr,type_list_append->WM,slot_list_append->WN,plain_list_iadd->W5,slot_set_iter->Xl
open PySem.Value renaming ref->SJ,none->TL,type->Ur,int->Vb,bool->Vn,isStrOf->V7,isInt->WE,str->XD,isInt_shape->Yt
open Ne renaming symm->SM
open PySem.Builtin.List renaming listExtendWith->SS,listTooLong->Tz,listSameRef->Us,listLengthHint->UU,listItems->Wv
open Option renaming bind_some->SW,map_some->VB,getD_some->Yw,getD_none->Yx
open PySem.Obj renaming mapSeq->Ti,mapFields->TH
open Int renaming toNat_natCast->Tj
open PySem.Around renaming under_plainId->To,under->Xw
open PySem.NameKind renaming free->TN,cell->VV
open False renaming elim->TY
open PySem.Builtin.Slice renaming slicePlaces->Ui,sliceAdjust->U1,sliceApplied->V0
open PySem.Builtin.Tuple renaming tupleExact->Up,tupleTooMany->VY,tupleItemsOf->VZ
open PySem.Builtin.Str renaming occurrences->UA
open True renaming intro->UG
open List.cons renaming injEq->U0
open PySem.pickOrder renaming go->U6
open PySem.Calls renaming spliced_cons->Vi,spliced_nil->Vq,Name_function_global->WU,callWith_builtin->Xu
open ForInStep renaming yield->Vs
open PySem.Heap.IsSliceOf renaming new->WI
open Classical renaming axiomOfChoice->WL
open Prod.mk renaming injEq->W6
open List.Pairwise renaming nil->Xa
open Char renaming toNat->Xn
open PySem.Code renaming isFrame->XU
open PySem.PassesOwn renaming never->XZ
open PySem.AutoSeq1 renaming idx_int->X5
open PyProof.Rows.IntsAre renaming length->Yd
section
namespace L2
open PySem PySem.Spec PyProof.Rows
def fR(s:W0):XN:=match s with
 |.FunctionDef _ a _ _ _ _ _ _ _ _=>a|_=>{posonlyargs:=[],args:=[],vararg:=af,kwonlyargs:=[],kw_defaults:=[],kwarg:=af,defaults:=[]}
def dP(s:W0):List W0:=match s with
 |.FunctionDef _ _ b _ _ _ _ _ _ _=>b|_=>[]
def c6(s:W0):Tu:=match s with
 |.FunctionDef _ _ _ _ _ _ q _ _ _=>q|_=>{kind:=.function,names:=[],isGenerator:=ai,isCoroutine:=ai}
end L2
end
section
namespace BR
open PySem PySem.W PyProof.Rows
noncomputable def rS:List ao->BT->Nat->Option (BT×Nat)
 |[],T,n=>aa (T,n)
 |o::r,T,n=>match ((T.ins n o).get n).isSome with
  |true=>rS r (T.ins n o) (n+1)|false=>af
theorem pN(q:Life):∀{l:List ao}{T D:BT}{n B:Nat},rS l T n=aa (D,B)->(WZ D B q).objs.toList=(WZ T n q).objs.toList++l
 |[],T,D,n,B,h=>by cases h;simp
 |o::r,T,D,n,B,h=>by
  unfold rS at h;cases g:((T.ins n o).get n).isSome with
  |false=>rw[g]at h;cases h
  |true =>
   rw[g]at h;rw[pN q h,absHeap_ins g];show((WZ T n q).objs.push o).toList++r=_;simp
def toT(s:RI):Option W3:=match rS s.heap.objs.toList .nil 0 with
 |some (T,n)=>aa ⟨T,n,s.heap.life,s.gens,s.drawn,s.toks,s.os⟩|none=>af
def Dd(h:toT s=aa t):t.abs=s:=by
 unfold toT at h;cases e:rS s.heap.objs.toList .nil 0 with
 |none=>rw[e]at h;cases h
 |some r =>
  obtain⟨T,n⟩:=r;rw[e]at h;cases h;have:=pN s.heap.life e;obtain⟨⟨objs,life⟩,g,d,k,o⟩:=s;show Shared.mk (WZ T n life) g d k o=Shared.mk ⟨objs,life⟩ g d k o;have e2:(WZ T n life).objs.toList=objs.toList:=by rw[this];simp[WZ,BT.list]
  have B:(WZ T n life).objs=objs:=Array.toList_inj.mp e2;have q:WZ T n life=⟨objs,life⟩:=by show Heap.mk _ _=Heap.mk _ _;exact bR (Heap.mk · life) B
  rw[q]
noncomputable def mR(tb:String->Option Ww)(p:Sb)(w:SH)(n₀:Nat)(ann:Option aA):Nat->W3->Thread->Option W3
 |0,_,_=>af
 |n+1,s,t=>match through t with
  |true=>aa s
  |false=>match stepOk n₀ ann t with
   |false=>af
   |true=>match stepT (denote tb) p w s t with
    |some (s',t')=>mR tb p w n₀ ann n s' t'|none=>af
section
variable{tb:String->Option Ww}{p:Sb}{w:SH}{n₀:Nat}{ann:Option aA}
theorem pO:∀{n:Nat}{s s':W3}{t:Thread},mR tb p w n₀ ann n s t=aa s'->topRun tb p w n₀ ann n s.abs t=aa s'.abs
 |0,_,_,_,h=>by cases h
 |n+1,s,s',t,h=>by
  unfold mR at h;unfold topRun;cases L:through t with
  |true=>rw[L]at h;cases h;rfl
  |false =>
   rw[L]at h;cases J:stepOk n₀ ann t with
   |false=>rw[J]at h;cases h
   |true =>
    rw[J]at h;cases q:stepT (denote tb) p w s t with
    |none=>rw[q]at h;cases h|some r=>obtain⟨D,B⟩:=r;rw[q]at h;dsimp only;rw[stepT_spec q];exact pO h
end
def ng(tb:String->Option Ww)(p:Sb)(w:SH)(N:Nat)(s₀:RI):Option W3 :=
 match s₀.heap.isNs R8&&s₀.gens.size==0 with
 |true=>(toT s₀).bind λB=>(mR tb p w s₀.heap.objs.size (s₀.heap.nsMap R8 "__annotations__") N B (topStub p)).bind λq =>
  match staticsOk (V6 p.main.body) s₀.heap q.abs.heap&&namesBound p q.abs.heap&&gensDone q.abs&&laidKept s₀.heap q.abs.heap with
   |true=>aa q|false=>af
 |false=>af
def uu(h:ng tb p w N s₀=aa t):topFrom tb p w N s₀=aa t.abs:=by
 unfold ng at h;unfold topFrom;cases e:(s₀.heap.isNs R8&&s₀.gens.size==0)with
 |false=>rw[e]at h;cases h
 |true =>
  rw[e]at h;obtain⟨B,L,h⟩:=Option.bind_eq_some_iff.mp h;obtain⟨q,J,h⟩:=Option.bind_eq_some_iff.mp h;have D:=pO J;rw[Dd L]at D;dsimp only;rw[D];show(match _ with|true=>aa q.abs|false=>af)=_;cases e2:(staticsOk (V6 p.main.body) s₀.heap q.abs.heap&&namesBound p q.abs.heap&&gensDone q.abs&&laidKept s₀.heap q.abs.heap)with
  |false=>rw[e2]at h;cases h|true=>rw[e2]at h;cases h;rfl
def jS(tb:String->Option Ww)(p:Sb)(w:SH)(N:Nat):Option W3:=(fencedOpening tb p w N).bind (ng tb p w N)
def De{tb:String->Option Ww}{p:Sb}{w:SH}{N:Nat}{B:Type}{f:RI->B}{x:B}(h:(jS tb p w N).map (λt=>f t.abs)=aa x):(openEnds tb p w N).map f=aa x:=by obtain⟨t,D,e⟩:=Option.map_eq_some_iff.mp h;obtain⟨q,L,J⟩:=Option.bind_eq_some_iff.mp D;unfold openEnds;rw[L];show(topFrom tb p w N q).map f=aa x;rw[uu J];exact bR aa e
def zf{q J D B:Type}{o:Option q}{f:q->J×D}{g:q->B}{x:J}{y:D}{z:B}(h1:o.map (λt=>(f t).1)=aa x)(h2:o.map (λt=>(f t).2)=aa y)(L:o.map g=aa z):o.map (λt=>(f t,g t))=aa ((x,y),z):=by
 cases o with
 |none=>cases h2
 |some t =>
  have e1:(f t).1=x:=RO h1;have e2:(f t).2=y:=RO h2;have M:g t=z:=RO L;show aa (f t,g t)=_;rw[←e1,←e2,←M]
theorem good(q:Sb)(loose:List ay):openGood q loose=(Wj q,XY,ah,ah,PySem.pinGoodD (WH q),Wh q (PySem.W.looseW q loose),Wi q loose,X8 q,Yc q loose):=rfl
def LA(tb:String->Option Ww)(p q:Sb)(loose B:List ay)(J:RI->Bool)(D:Bool)(N:Nat)(w:SH):Prop :=
 (jS tb p w N).map (λt=>(Yl q loose B J D t.abs).1)=aa (Wj q)
def LB(tb:String->Option Ww)(p q:Sb)(loose B:List ay)(J:RI->Bool)(D:Bool)(N:Nat)(w:SH):Prop :=
 (jS tb p w N).map (λt=>(Yl q loose B J D t.abs).2)=aa (XY,ah,ah,PySem.pinGoodD (WH q),Wh q (PySem.W.looseW q loose),Wi q loose,X8 q,Yc q loose)
def LO(tb:String->Option Ww)(p:Sb)(N:Nat){q:Type}(B:RI->q)(D:SH->q)(w:SH):Prop:=(jS tb p w N).map (λt=>B t.abs)=aa (D w)
def Df{tb:String->Option Ww}{p q:Sb}{loose B:List ay}{J:RI->Bool}{D:Bool}{N:Nat}{M:Type}{L:RI->M}{O:SH->M}{w:SH}(h1:LA tb p q loose B J D N w)(h2:LB tb p q loose B J D N w)(U:LO tb p N L O w):
 (openEnds tb p w N).map (λs=>(Yl q loose B J D s,L s))=aa (openGood q loose,O w):=by
 rw[good];have h:=zf (f:=λt:W3=>Yl q loose B J D t.abs) (g:=λt:W3=>L t.abs) h1 h2 U;exact De (f:=λs=>(Yl q loose B J D s,L s)) h
end BR
end
section
namespace BG
open PySem PySem.Spec PySem.Calls PyProof.Rows L2
structure FS where
 name:ay
 qual:ay
 params:XN
 body:FuncBody
 scope:Tu
 globals:az
 closure:List (ay×az)
 defaults:aA
 builtins:az
 code:Bool
noncomputable def Dg(K:RB)(f:az):Option FS:=match K.lookup f with
 |some ⟨_,_,.func fd,_⟩=>aa ⟨fd.name,fd.qualname,fd.params,fd.body,fd.scope,fd.globals,fd.closure,fd.defaults,fd.builtins,VI K fd.code fd.qualname⟩|_=>af
noncomputable def vE(x qual:ay)(st:W0):FS:=⟨x,qual,fR st,.stmts (dP st),c6 st,R8,[],.none,UT,ah⟩
noncomputable def strOf:aA->Option ay
 |.str x _=>aa x|_=>af
noncomputable def intOf:aA->Option Int
 |.int i _=>aa i|_=>af
noncomputable def refOf:Option (Option aA)->Option az
 |some (aa (.ref a))=>aa a|_=>af
inductive Qy
 |fn(x:ay)(f:az)(st:W0)|int(x:ay)(n:Int)|aC(x:ay)(f:az)(xs:List ay)|dct(x:ay)(f:az)(kvs:List (ay×Int))|no(x:ay)|cls(c:ay)(C:az)|me(C:az)(m x qual:ay)(f:az)(st:W0)|mk(C:az)
 |tab(x:ay)(c P:az)|bm(b:az)|fv(x:ay)(f:az)|exc(D:az)(xs:List (ay×az))
 |str(x s:ay)|stp(f:az)(xs:List ay)|dtp(x:ay)(f:az)(kvs:List (ay×az))
inductive Ov
 |fn(a:Option az)(o:Option FS)|int(n:Option Int)|seq(a:Option az)(c:Option (aA×Option az×Nat))(xs:Option (List (Option ay)))|dct(a:Option az)(c:Option (aA×Option az×Nat))(xs:Option (List (Int×Option ay×Option Int)))|b(x:Bool)
noncomputable def shp(o:ao):aA×Option az×Nat:=(o.cls,o.dict,o.slots.size)
def zh(o:ao):Option (List (Option ay)):=match o.data with
 |.seq q _=>aa (q.toList.map strOf)|_=>af
def Gg(o:ao):Option (List (Int×Option ay×Option Int)):=match o.data with
 |.dict q _=>aa (q.toList.map λe=>(e.hash,strOf e.key,intOf e.val))|_=>af
noncomputable def KM:aA->Option Int
 |.ref a=>aa (a:Int)|_=>af
def KN(o:ao):Option (List (Int×Option ay×Option Int)):=match o.data with
 |.dict q _=>aa (q.toList.map λe=>(e.hash,strOf e.key,KM e.val))|_=>af
noncomputable def attrs:List ay:=["program","asked","gap","most","kept","farthest","front","now","origins","branches","tape","named"]
def KO(K:RB)(c:ay)(C:az):Bool:=decide (SN K R8 c=aa (aa (.ref C)))&&UX K C Str.empty&&Uk K C&&V8 K C&&decide (Sk K (.ref C) "__setattr__"=aa (aa (.builtin "object.__setattr__"))) &&
 (attrs.all λf=>decide (Sk K (.ref C) f=aa af))&&Wq K C (.type "type")
noncomputable def meB(K:RB)(C:az)(m:ay)(f:az):Bool:=decide (Sk K (.ref C) m=aa (aa (.ref f)))&&Vx K (.ref f)
noncomputable def mkB(K:RB)(C:az):Bool:=Wr K C&&Tw K (.ref C)
noncomputable def bmB(K:RB)(b:az):Bool:=decide (SN K R8 "__builtins__"=aa (aa (.ref b)))&&decide (b≠UT)&&(match K.lookup b with
 |some ⟨.type "module",aa d,.plain,_⟩=>d==UT
 | _=>ai)
noncomputable def OA(K:RB)(C D:az):Bool:=match K.lookup C with
 |some ⟨_,_,.cls cd,_⟩=>cd.mro.contains (.ref D)|_=>ai
noncomputable def KP(K:RB)(c:ay)(C:az):Bool:=decide (SN K R8 c=aa (aa (.ref C)))&&PySem.W.excIn K C [.type "ValueError",.type "Exception",.type "BaseException",.type "object"] "ValueError.__new__"
def OB(K:RB)(D:az)(xs:List (ay×az))(c:ay)(C:az):Bool:=KP K c C&&OA K C D&&decide (Sk K (.ref C) "__getattribute__"=aa (aa (.builtin "BaseException.__getattribute__")))&&decide (Sk K (.ref C) "__getattr__"=aa af) &&
 decide (VW K C (.type "BaseException")=aa ah)&&Uk K C&&decide (Sk K (.ref C) "__class__"=aa (aa (.builtin "object.__class__")))&&decide (Uj K (.builtin "object.__class__") "__get__"=aa (aa (.builtin "getset_descriptor.__get__"))) &&
 decide (Vv K (.builtin "object.__class__")=aa ah)&&decide (VW K C (.type "object")=aa ah)&&decide (TZ K (.ref C) (.type "ValueError")=aa ah)&&xs.all λq=>decide (TZ K (.ref C) (.ref q.2)=aa (q.1==c))
def OD(K:RB)(D:az)(xs:List (ay×az)):Bool:=KP K "TapeError" D&&xs.all λq=>OB K D xs q.1 q.2
def fG(K:RB):Qy->Ov
 |.fn x f _=>.fn (refOf (SN K R8 x)) (Dg K f)|.int x _=>.int (match SN K R8 x with|some (aa v)=>intOf v|_=>af)|.aC x f _=>.seq (refOf (SN K R8 x)) ((K.lookup f).map shp) ((K.lookup f).bind zh)|.dct x f _=>.dct (refOf (SN K R8 x)) ((K.lookup f).map shp) ((K.lookup f).bind Gg)|.no x=>.b (decide (SN K R8 x=aa af))|.cls c C=>.b (KO K c C)|.me C m _ _ f _=>.fn (if meB K C m f then aa f else af) (Dg K f)|.mk C=>.b (mkB K C)|.tab x c P=>.b (decide (TU K x=aa (c,P))&&Wd K c P)|.bm b=>.b (bmB K b)|.fv x f=>.b (decide (SN K R8 x=aa (aa (.ref f)))&&Tw K (.ref f))|.exc D q=>.b (OD K D q)|.str x _=>.seq af af (match SN K R8 x with|some (aa v)=>aa [strOf v]|_=>af)|.stp f _=>.seq af ((K.lookup f).map shp) ((K.lookup f).bind zh)|.dtp x f _=>.dct (refOf (SN K R8 x)) ((K.lookup f).map shp) ((K.lookup f).bind KN)
def fH(w:SH):Qy->Ov
 |.fn x f st=>.fn (aa f) (aa (vE x x st))|.int _ n=>.int (aa n)|.aC _ f J=>.seq (aa f) (aa (.type "tuple",af,0)) (aa (J.map aa))|.dct _ f B=>.dct (aa f) (aa (.type "dict",af,0)) (aa (B.map λq=>(PyData.keyHash w.params q.1,aa q.1,aa q.2)))|.no _=>.b ah|.cls _ _=>.b ah|.me _ _ x D f st=>.fn (aa f) (aa (vE x D st))|.mk _=>.b ah|.tab _ _ _=>.b ah|.bm _=>.b ah|.fv _ _=>.b ah|.exc _ _=>.b ah|.str _ s=>.seq af af (aa [aa s])|.stp f J=>.seq af (aa (.type "tuple",af,0)) (aa (J.map aa))|.dtp _ f B=>.dct (aa f) (aa (.type "dict",af,0)) (aa (B.map λq=>(PyData.keyHash w.params q.1,aa q.1,aa (q.2:Int))))
noncomputable def KOf(as:List az)(h:aq):RB:=as.map λa=>(a,(h.get? a).getD default)
def sees(as:List az)(B:List Qy)(ts:List az):PySem.W.Hook where
 α:=Bool×List Ov×List (Option ao)
 obs:=λs=>(as.all λa=>(s.heap.get? a).isSome,B.map (fG (KOf as s.heap)),ts.map s.heap.get?)
 val:=λw=>(ah,B.map (fH w),ts.map λ_=>aa (VG #[]))
 says:=λw h=>∃K:RB,K.map (·.1)=as/\(∀p∈K,h.get? p.1=aa p.2)/\(∀q∈B,fG K q=fH w q)/\∀P∈ts,h.get? P=aa (VG #[])
 of:=λw s e=>by have e1:=bR Prod.fst e;have e2:=bR (λp=>p.2.1) e;have V:=bR (λp=>p.2.2) e;refine⟨KOf as s.heap,by simp[KOf,Function.comp_def],λp D=>?_,λq L=>List.map_inj_left.mp e2 q L,λP J=>List.map_inj_left.mp V P J⟩;obtain⟨a,O,rfl⟩:=List.mem_map.mp D;have U:=List.all_eq_true.mp e1 a O;obtain⟨o,M⟩:=Option.isSome_iff_exists.mp U;show s.heap.get? a=aa ((s.heap.get? a).getD default);rw[M];rfl
 keeps:=λw h h' ⟨K,m,n,k,t⟩ hk=>⟨K,m,λp D=>hk _ _ (n p D),k,λP J=>hk _ _ (t P J)⟩
end BG
end
section
namespace BL
open PySem PySem.Spec PyProof.Rows L2 BG
noncomputable abbrev pg:Sb:=PySem.Challenge.pw_backtape_k70_whole_runs_and_reasons
def qg:Sb:=PySem.W.view pg [0,2,3,4,5,7,8,9,10,11,12,13,14,16,17,18,19,20,21,22,23,24,25,26,27,28,29,30,31,32,33,34,35,36,37,39,40,42,43,45,46,47,48,49,50,51,52,53,54]
noncomputable abbrev loo:List ay:=["INNER_COUNTS"]
def top(i:Nat):W0:=pg.main.body.getD i (.Pass ⟨0,0,0,0⟩)
noncomputable def KQ:W0->List W0
 |.ClassDef _ _ _ b _ _ _ _ _ _ _=>b|_=>[]
def ef(i j:Nat):W0:=(KQ (top i)).getD j (.Pass ⟨0,0,0,0⟩)
noncomputable def OE:W0->Pos
 |.FunctionDef _ _ _ _ _ _ _ _ _ p=>p|_=>⟨0,0,0,0⟩
noncomputable abbrev adr:List az:=[2,3,71,72,78,79,85,86,92,93,99,100,106,107,113,114,120,121,127,128,134,135,141,142,148,149,155,156,162,163,169,170,176,177,183,184,190,191,197,198,204,205,218,219,225,226,232,233,286,287,293,294,300,301,307,308,314,315,321,322,359,360,377,378,380,381,396,397,403,404,410,411,417,418,431,432,450,451,464,465,471,472,478,479,485,486,488,489,499,500,506,507,513,514,520,521,525,526,530,531,537,538,544,545,551,552,556,557]
def qys:List Qy:=[.fn "is_whole" 79 (top 11),
 .fn "is_name" 86 (top 12),
 .fn "is_cell" 93 (top 13),
 .fn "inner_sums" 100 (top 14),
 .fn "begun" 107 (top 23),
 .fn "check_thing" 114 (top 24),
 .fn "worth_in" 121 (top 25),
 .fn "laid_out" 128 (top 26),
 .fn "of_two" 135 (top 27),
 .fn "worth_of" 142 (top 28),
 .fn "reckoned" 149 (top 29),
 .fn "cell_by" 156 (top 30),
 .fn "is_over" 163 (top 31),
 .fn "place_behind" 170 (top 32),
 .fn "with_worth" 177 (top 33),
 .fn "with_name" 184 (top 34),
 .fn "with_thing" 191 (top 35),
 .fn "brought" 198 (top 36),
 .fn "stepped" 205 (top 37),
 .fn "_law_cell" 500 (top 45),
 .fn "_law_drawn" 507 (top 46),
 .fn "_law_sum" 514 (top 47),
 .fn "_law_row" 521 (top 48),
 .fn "_law_program" 526 (top 49),
 .fn "_law_asked" 531 (top 50),
 .fn "_law_thing" 538 (top 51),
 .fn "_law_of" 545 (top 52),
 .fn "_law_reads" 552 (top 53),
 .fn "law" 557 (top 54),
 .int "CELL_COUNT" 4,
 .int "WORTH_COUNT" 10007,
 .int "ROW" 0,
 .int "NAMES" 1,
 .int "CELLS" 2,
 .int "CALLS" 3,
 .int "ASKED" 4,
 .int "SAID" 5,
 .int "MOST_CALLS" 6,
 .int "MOST_MARKS" 8,
 .aC "LETTERS" 71 ["a","b","c","d","e","f"],
 .dct "INNER_COUNTS" 72 [("num",0),("name",0),("cell",1),("add",2),("sub",2),("mul",2),("less",2)],
 .no "len",
 .no "abs",
 .no "int",
 .no "list",
 .no "tuple",
 .no "isinstance",
 .no "str",
 .no "bool",
 .no "range",
 .no "reversed",
 .no "enumerate",
 .no "zip",
 .no "min",
 .no "max",
 .no "sorted",
 .no "sum",
 .no "all",
 .no "any",
 .no "set",
 .no "ValueError",
 .no "dict",
 .no "worths_of",
 .no "last_change",
 .no "next_change",
 .no "moments_so",
 .no "last_so",
 .no "next_so",
 .no "visits",
 .no "last_visit",
 .no "when_said",
 .no "next_within",
 .no "last_within",
 .no "first_other",
 .no "writer_of",
 .no "judged",
 .no "remade",
 .cls "Tape" 360,
 .mk 360,
 .cls "Branch" 381,
 .mk 381,
 .cls "Tree" 489,
 .mk 489,
 .me 360 "__init__" "__init__" "Tape.__init__" 219 (ef 40 0),
 .me 381 "at" "at" "Tape.at" 226 (ef 40 1),
 .me 381 "end" "end" "Tape.end" 233 (ef 40 2),
 .me 381 "behind" "behind" "Tape.behind" 287 (ef 40 10),
 .me 381 "is_last" "is_last" "Tape.is_last" 294 (ef 40 11),
 .me 381 "keep" "keep" "Tape.keep" 301 (ef 40 12),
 .me 381 "reach" "reach" "Tape.reach" 308 (ef 40 13),
 .me 381 "has" "has" "Tape.has" 315 (ef 40 14),
 .me 381 "check" "check" "Tape.check" 322 (ef 40 15),
 .me 381 "__init__" "__init__" "Branch.__init__" 378 (ef 42 0),
 .me 489 "__init__" "__init__" "Tree.__init__" 397 (ef 43 0),
 .me 489 "part" "part" "Tree.part" 404 (ef 43 1),
 .me 489 "at" "at" "Tree.at" 411 (ef 43 2),
 .me 489 "end" "end" "Tree.end" 418 (ef 43 3),
 .me 489 "path" "path" "Tree.path" 432 (ef 43 5),
 .me 489 "apart" "apart" "Tree.apart" 451 (ef 43 8),
 .me 489 "check_run" "check_run" "Tree.check_run" 465 (ef 43 10),
 .me 489 "first" "first" "Tree.first" 472 (ef 43 11),
 .me 489 "holder" "holder" "Tree.holder" 479 (ef 43 12),
 .me 489 "found" "found" "Tree.found" 486 (ef 43 13)]
noncomputable abbrev tl:List (ay×az×az):=[]
noncomputable abbrev tas:List az:=[]
abbrev LA:SH->Prop:=BR.LA treeTable pg qg loo (V6 pg.main.body) (λs=>Xj qg [] s&&W4 [] s) ah 7694
def la0(w:SH):LA (w.withFollow "special-get-raises" ai):=by unfold LA BR.LA;kernel_rfl
def la1(w:SH):LA (w.withFollow "special-get-raises" ah):=by unfold LA BR.LA;kernel_rfl
abbrev LB:SH->Prop:=BR.LB treeTable pg qg loo (V6 pg.main.body) (λs=>Xj qg [] s&&W4 [] s) ah 7694
def lb0(w:SH):LB (w.withFollow "special-get-raises" ai):=by unfold LB BR.LB;kernel_rfl
def lb1(w:SH):LB (w.withFollow "special-get-raises" ah):=by unfold LB BR.LB;kernel_rfl
abbrev LO:SH->Prop:=BR.LO treeTable pg 7694 (sees adr qys tas).obs (sees adr qys tas).val
def lo0(w:SH):LO (w.withFollow "special-get-raises" ai):=by unfold LO BR.LO;kernel_rfl
def lo1(w:SH):LO (w.withFollow "special-get-raises" ah):=by unfold LO BR.LO;kernel_rfl
def left:PySem.W.LeftO pg qg loo (λs=>Xj qg [] s&&W4 [] s) (sees adr qys tas).obs (sees adr qys tas).val 7694:=λw=>BR.Df (WG (P:=LA) "special-get-raises" la0 la1 w) (WG (P:=LB) "special-get-raises" lb0 lb1 w) (WG (P:=LO) "special-get-raises" lo0 lo1 w)
end BL
end
section
namespace L2
open PySem PySem.Spec PyProof.Rows
noncomputable abbrev Key:=Sum Int ay
noncomputable def ju:Key->aA->Bool
 |.inl k,v=>WE k v|.inr x,v=>V7 x v
noncomputable def KR(w:SH):Key->Int
 |.inl k=>hashInt k|.inr x=>hashStr w x
theorem dD:∀{k:Key}{v:aA},ju k v=ah->(∃i t,k=Sum.inl i/\v=Vb i t)\/(∃x t,k=Sum.inr x/\v=XD x t)
 |.inl i,v,h=>by obtain⟨t,e⟩:=Yt (k:=i) (v:=v) h;exact .inl ⟨i,t,rfl,e⟩
 |.inr x,v,h=>by obtain⟨t,e⟩:=Value.isStrOf_shape (x:=x) (v:=v) h;exact .inr ⟨x,t,rfl,e⟩
def xE(i:Int)(t:Tok):ju (.inl i) (.int i t)=ah:=by simp[ju,WE]
def xF(x:ay)(t:Tok):ju (.inr x) (.str x t)=ah:=by simp[ju,V7]
def GS(a b:Int):decide ((Sum.inl a:Key)=Sum.inl b)=(a==b):=by
 by_cases e:a=b
 subst e;simp
 ·have h:¬(Sum.inl a:Key)=Sum.inl b:=λq=>e (Sum.inl.inj q);rw[bN h];exact(beq_eq_false_iff_ne.mpr e).symm
def GT(a b:ay):decide ((Sum.inr a:Key)=Sum.inr b)=decide (a=b):=by
 by_cases e:a=b
 subst e;simp
 ·have h:¬(Sum.inr a:Key)=Sum.inr b:=λq=>e (Sum.inr.inj q);rw[bN h,bN e]
def GU(a:Int)(b:ay):decide ((Sum.inl a:Key)=Sum.inr b)=ai:=bN (λq=>nomatch q)
def GV(a:ay)(b:Int):decide ((Sum.inr a:Key)=Sum.inl b)=ai:=bN (λq=>nomatch q)
def dF(prog:Sb)(w:SH):PySem.KeyKind prog w Key where
 is:=ju
 hash:=KR w
 inj:=λv a b J B=>by
  rcases dD J with⟨i,t,rfl,rfl⟩|⟨x,t,rfl,rfl⟩
  ·rcases dD B with⟨j,u,rfl,e⟩|⟨y,u,rfl,e⟩
   ·injection e with e1 _;rw[e1]
   exact nomatch e
  ·rcases dD B with⟨j,u,rfl,e⟩|⟨y,u,rfl,e⟩
   exact nomatch e
   ·injection e with e1 _;rw[e1]
 byValue:=λk v h=>by rcases dD h with⟨i,t,rfl,rfl⟩|⟨x,t,rfl,rfl⟩<;>rfl
 pyHash:=λq h=>by
  rcases dD q with⟨i,t,rfl,rfl⟩|⟨x,t,rfl,rfl⟩
  exact wpAny_pyHash_int h;exact wpAny_pyHash_str h
 eqBool:=λD q h=>by
  rcases dD D with⟨i,t,rfl,rfl⟩|⟨x,t,rfl,rfl⟩
  ·rcases dD q with⟨j,u,rfl,rfl⟩|⟨y,u,rfl,rfl⟩
   rw[GS]at h;exact wpAny_eqBool_int h;rw[GU]at h;exact SeqAt.EqAt.int_str i t y u _ _ _ _ h
  ·rcases dD q with⟨j,u,rfl,rfl⟩|⟨y,u,rfl,rfl⟩
   rw[GV]at h;exact SeqAt.EqAt.str_int x t j u _ _ _ _ h;rw[GT]at h;exact wpAny_eqBool_str h
 «strs»:=λk x t v h=>by
  rcases dD h with⟨i,u,rfl,e⟩|⟨y,u,rfl,e⟩
  exact nomatch e
  ·injection e with e1 _
   subst e1;cases v<;>rfl
def rT(prog:Sb)(w:SH)(i:Int)(t:Tok):(dF prog w).is (.inl i) (.int i t)=ah:=xE i t
def iA(prog:Sb)(w:SH)(x:ay)(t:Tok):(dF prog w).is (.inr x) (.str x t)=ah:=xF x t
end L2
namespace L2
open PySem PySem.Spec PyProof.Rows
inductive V
 |aD|bl(b:Bool)|int(i:Int)|str(x:ay)|byt(b:Array UInt8)|flt(b:UInt64)|ref(a:az)|ty(n:String)
 deriving DecidableEq
noncomputable def RelV:V->aA->Prop
 |.aD,u=>u=TL|.bl b,u=>u=Vn b|.int i,u=>∃t,u=Vb i t|.str x,u=>∃t,u=XD x t|.byt b,u=>∃t,u=Value.bytes b t|.flt b,u=>∃t,u=Value.float b t|.ref a,u=>u=SJ a|.ty n,u=>u=Ur n
abbrev dg:List V->List aA->Prop:=Paired RelV
def dg.length(r:dg xs us):xs.length=us.length:=Paired.length r
theorem dg.get:∀{xs:List V}{us:List aA}{i:Nat}{x:V},dg xs us->xs[i]?=aa x->∃u,us[i]?=aa u/\RelV x u
 |_,_,_,_,.nil,e=>by simp at e
 |_,_,0,_,.cons r _,e=>by simp at e;subst e;exact⟨_,rfl,r⟩
 |_,_,i+1,x,.cons _ t,e=>by obtain⟨u,B,q⟩:=dg.get (i:=i) (x:=x) t (by simpa using e);exact⟨u,by simpa using B,q⟩
theorem dg.set(r:RelV x u):∀{xs:List V}{us:List aA}(i:Nat),dg xs us->dg (xs.set i x) (us.set i u)
 |_,_,_,.nil=>.nil|_,_,0,.cons _ t=>.cons r t|_,_,i+1,.cons q t=>.cons q (dg.set r i t)
theorem dg.append:∀{xs ys:List V}{us ws:List aA},dg xs us->dg ys ws->dg (xs++ys) (us++ws)
 |_,_,_,_,.nil,s=>s|_,_,_,_,.cons r t,s=>.cons r (dg.append t s)
theorem dg.take:∀{xs:List V}{us:List aA}(n:Nat),dg xs us->dg (xs.take n) (us.take n)
 |_,_,0,_=>.nil|_,_,_+1,.nil=>.nil|_,_,n+1,.cons r t=>.cons r (dg.take n t)
theorem dg.drop:∀{xs:List V}{us:List aA}(n:Nat),dg xs us->dg (xs.drop n) (us.drop n)
 |_,_,0,r=>r|_,_,_+1,.nil=>.nil|_,_,n+1,.cons _ t=>dg.drop n t
def nh:Option V->Option aA->Prop
 |some v,aa u=>RelV v u|none,af=>True|_,_=>False
def KV{κ:Type}:List (κ×V)->List (κ×aA)->Prop:=Paired λ(p:κ×V)(q:κ×aA)=>p.1=q.1/\RelV p.2 q.2
noncomputable def kV:Key->V
 |.inl i=>.int i|.inr x=>.str x
inductive HO
 |aB(xs:List V)
 |aC(xs:List V)
 |dK(kvs:List (Key×V))|dT(kvs:List (List Key×V))
 |set(S:Int->Bool)(n:Nat)
 |ins(C dx:az)(fs:List (ay×V))
 |own(x:az)
 |xd(fs:List (ay×V))
 |met(f x:az)
 |rng(lo hi:Int)
 |frz(o:ao)(u:HO)
 |tbl(ps:Array aA)
 |ext(q:aq->Prop)
noncomputable abbrev Hp:=az->Option HO
noncomputable def upd(H:Hp)(a:az)(o:HO):Hp:=λb=>if b=a then aa o else H b
def d9:upd H a o a=aa o:=by unfold upd;rw[bJ rfl]
def dB(h:b≠a):upd H a o b=H b:=by unfold upd;rw[bK h]
def dR{H:Hp}{a b:az}{o:HO}(h:H a=aa o)(h':H b=af):a≠b:=by intro e;subst e;rw[h]at h';cases h'
section
variable(P:Sb)(w:SH)
def gC(H:Hp)(h:aq)(a:az):HO->Prop
 |.aB J=>J.length<=aj/\∃(D:List aA) (n:Nat),dg J D/\h.get? a=aa {cls:=.type "list",data:=.seq D.toArray n}|.aC J=>J.length<=aj/\∃D:List aA,dg J D/\IsTup h a D.toArray|.dK B=>B.length<=aj/\(a==U4)=ai/\∃U,KV B U/\h.DictOf (dF P w) a U
 |.dT B=>B.length<=aj/\(a==U4)=ai/\∃J:List (List Key×az×aA),
  Paired (λ(p:List Key×V)(q:List Key×az×aA)=>p.1=q.1/\H q.2.1=aa (.aC (p.1.map kV))/\RelV p.2 q.2.2) B J ∧
  ∃o Z d,h.get? a=aa o/\o.ExactDict/\o.data=.dict Z d/\Z.toList=J.map (entryOfKey (tupleKind (dF P w)))/\(J.map (·.1)).Nodup
 |.set S n=>h.SetOf (intKind P w) a S n|.ins C M fs=>H M=aa (.own a)/\fs.length<=1000/\M≠a/\h.get? a=aa (T6 C M) ∧
  ∃L,h.Ns1 M L/\(∀f,nh (fs.lookup f) (L f))/\XG L (fs.map (·.1))
 |.own _=>∃o,h.get? a=aa o|.xd fs=>∃L,h.Ns1 a L/\∀f,nh (fs.lookup f) (L f)|.rng lo c=>∃t u v,h.get? a=aa {cls:=.type "range",data:=.fields #[.int lo t,.int c u,.int 1 v]}|.frz o u=>h.get? a=aa o/\gC H h a u|.tbl b=>h.get? a=aa {cls:=.none,data:=.fields b}|.met f x=>h.get? a=aa (V9 (.ref f) (.ref x))|.ext O=>O h/\(∃o,h.get? a=aa o)/\∀Y W:aq,O Y->(∀o,Y.get? a=aa o->W.get? a=aa o)->O W
def HOk(H:Hp)(h:aq):Prop:=∀a o,H a=aa o->gC P w H h a o
end
section
variable{P:Sb}{w:SH}{H H':Hp}{h h':aq}{a:az}{o:HO}
def gC.lt(x:gC P w H h a o):a<h.objs.size:=by
 cases o with
 |aB q=>obtain⟨_,_,_,_,e⟩:=x;exact RL e|aC q=>obtain⟨_,_,_,p⟩:=x;exact p.lt|set S n=>obtain⟨o,_,_,_,e,_⟩:=x;exact RL e|ins C L fs=>obtain⟨_,_,_,e,_⟩:=x;exact RL e|own y=>obtain⟨_,e⟩:=x;exact RL e|xd fs=>obtain⟨_,⟨_,_,_,e,_⟩,_⟩:=x;exact RL e|rng lo J=>obtain⟨_,_,_,e⟩:=x;exact RL e|frz ob u=>obtain⟨e,_⟩:=x;exact RL e|tbl D=>exact RL (show h.get? a=aa _ from x)|met f y=>exact RL (show h.get? a=aa _ from x)|ext B=>obtain⟨_,⟨_,e⟩,_⟩:=x;exact RL e|_=>obtain⟨_,_,_,_,o,_,_,e,_⟩:=x;exact RL e
theorem Paired.KS:∀{B:List α}{q:List β},Paired F B q->(∀a b,F a b->G a b)->Paired G B q
 |_,_,.nil,_=>.nil|_,_,.cons r t,f=>.cons (f _ _ r) (Paired.KS t f)
def gC.stay(x:gC P w H h a o)(k:∀b u,(b=a\/H b=aa (.own a))->h.get? b=aa u->h'.get? b=aa u)
(g:∀b,H b=aa (.own a)->H' b=aa (.own a))(Z:∀b xs,H b=aa (.aC xs)->H' b=aa (.aC xs)):gC P w H' h' a o:=by
 induction o with
 |aB xs=>obtain⟨z,J,n,r,e⟩:=x;exact⟨z,J,n,r,k _ _ (.inl rfl) e⟩|aC xs=>obtain⟨z,J,r,ob,e,c⟩:=x;exact⟨z,J,r,ob,k _ _ (.inl rfl) e,c⟩|dK O=>obtain⟨z,y,V,r,ob,B,D,e,c⟩:=x;exact⟨z,y,V,r,ob,B,D,k _ _ (.inl rfl) e,c⟩
 |dT O =>
  obtain⟨z,y,xs,r,ob,B,D,e,c⟩:=x;exact⟨z,y,xs,Paired.KS r λp q z=>⟨z.1,Z _ _ z.2.1,z.2.2⟩,ob,B,D,k _ _ (.inl rfl) e,c⟩
 |set S n=>obtain⟨ob,B,D,t,e,c⟩:=x;exact⟨ob,B,D,t,k _ _ (.inl rfl) e,c⟩
 |ins C l fs =>
  obtain⟨d,z,W,e,M,⟨L,B,D,e2,c⟩,r⟩:=x;exact⟨g _ d,z,W,k _ _ (.inl rfl) e,M,⟨L,B,D,k _ _ (.inr d) e2,c⟩,r⟩
 |own y=>obtain⟨ob,e⟩:=x;exact⟨ob,k _ _ (.inl rfl) e⟩|xd fs=>obtain⟨M,⟨L,B,D,e,c⟩,r⟩:=x;exact⟨M,⟨L,B,D,k _ _ (.inl rfl) e,c⟩,r⟩|rng lo j=>obtain⟨t,u,v,e⟩:=x;exact⟨t,u,v,k _ _ (.inl rfl) e⟩|frz ob u Y=>obtain⟨e,q⟩:=x;exact⟨k _ _ (.inl rfl) e,Y q⟩
 |tbl U =>
  have e:h.get? a=aa {cls:=.none,data:=.fields U}:=x;show h'.get? a=aa {cls:=.none,data:=.fields U};exact k a _ (.inl rfl) e
 |met f y =>
  have e:h.get? a=aa (V9 (.ref f) (.ref y)):=x;show h'.get? a=aa (V9 (.ref f) (.ref y));exact k a _ (.inl rfl) e
 |ext i=>obtain⟨p,⟨o,e⟩,st⟩:=x;exact⟨st _ _ p λo q=>k _ _ (.inl rfl) q,⟨o,k _ _ (.inl rfl) e⟩,st⟩
def HOk.lt(x:HOk P w H h)(e:H a=aa o):a<h.objs.size:=(x a o e).lt
def HOk.fresh(x:HOk P w H h)(e:h.objs.size<=a):H a=af:=by
 cases q:H a with
 |none=>rfl|some u=>exact bL (Se (x.lt q) e) (Te _)
def HOk.aH(x:HOk P w H h)(k:∀b u,h.get? b=aa u->h'.get? b=aa u):HOk P w H h':=λa o e =>
 (x a o e).stay (λb u _ q=>k b u q) (λ_ q=>q) λ_ _ q=>q
def HOk.laid(x:HOk P w H h)(k:∀b u,h.get? b=aa u->h'.get? b=aa u)(D:h.objs.size<=a)(new:gC P w (upd H a o) h' a o):HOk P w (upd H a o) h':=λb u e=>by
 have hn:=x.fresh D
 by_cases B:b=a
 subst B;rw[d9]at e;cases e;exact new
 ·rw[dB B]at e;exact(x b u e).stay (λc v _ q=>k c v q) (λc q=>by rw[dB (dR q hn)];exact q) λc J q=>by rw[dB (dR q hn)];exact q
end
def Rd(H:Hp)(a:az)(u:HO):Prop:=H a=aa u\/∃o,H a=aa (.frz o u)
def Rd.ok(r:Rd H a u)(x:HOk P w H h):gC P w H h a u:=by
 rcases r with r|⟨o,r⟩
 exact x a u r
 ·obtain⟨_,q⟩:=x a _ r;exact q
noncomputable def Mut:Option HO->Prop
 |some (.aB _)=>True|some (.dK _)=>True|some (.dT _)=>True|some (.set _ _)=>True|some (.ins _ _ _)=>True|some (.ext _)=>True|_=>False
section
variable{P:Sb}{w:SH}{H:Hp}{h h':aq}{x e:az}{o':HO}
def HOk.write(ok:HOk P w H h)(mu:Mut (H x))(W:e=x\/H e=aa (.own x))(k:∀b u,b≠e->h.get? b=aa u->h'.get? b=aa u)(U:∃u,h'.get? e=aa u)
(new:gC P w (upd H x o') h' x o'):HOk P w (upd H x o') h':=λb u q=>by
 have D:∀c y,H c=aa (.own y)->c≠x:=λc y r z=>by subst z;rw[r]at mu;exact mu
 have J:∀c L,H c=aa (.aC L)->c≠x:=λc L r z=>by subst z;rw[r]at mu;exact mu
 by_cases O:b=x
 subst O;rw[d9]at q;cases q;exact new
 ·rw[dB O]at q
  by_cases B:b=e
  ·have V:H b=aa (.own x):=by
    rcases W with z|z
    exact bL (B.trans z) O;rw[B];exact z
   rw[q]at V;cases V;obtain⟨v,Y⟩:=U;exact⟨v,by rw[B];exact Y⟩
  ·refine(ok b u q).stay (λc v M r=>k c v ?_ r) (λc r=>by rw[dB (D c b r)];exact r) λc L r=>by rw[dB (J c L r)];exact r
   rcases M with rfl|M
   exact B
   ·rintro rfl
    rcases W with z|z
    exact D c b M z;rw[M]at z;cases z;exact O rfl
end
structure Un(fs ex:List az)(H H':Hp)(h h':aq):Prop where
 keep:∀b o,h.get? b=aa o->H b=af->b∉fs->b∉ex->h'.get? b=aa o
 slot:∀b o,h.get? b=aa o->H b=af->b∈fs->b∉ex->∃sl,h'.get? b=aa {o with slots:=sl}
 free:∀b o,h.get? b=aa o->H b=af->b∉ex->H' b=af
 there:∀b o,h.get? b=aa o->b∉ex->∃o',h'.get? b=aa o'
 tups:∀b xs,H b=aa (.aC xs)->H' b=aa (.aC xs)
 frzs:∀b o u,H b=aa (.frz o u)->H' b=aa (.frz o u)
 tbls:∀b ps,H b=aa (.tbl ps)->∃more,H' b=aa (.tbl (ps++more))
section
variable{fs fs' ex ex':List az}{H H1 H2:Hp}{h h1 h2 h':aq}{a x e:az}{o:HO}
def Un.any(u:Un fs ex H H1 h h1)(q:h.get? b=aa ob)(n:H b=af)(B:b∉ex):∃J,h1.get? b=aa {ob with slots:=J}:=by
 by_cases D:b∈fs
 exact u.slot b ob q n D B;exact⟨ob.slots,u.keep b ob q n D B⟩
def Un.aH(k:∀b u,h.get? b=aa u->h'.get? b=aa u):Un fs ex H H h h' :=
 ⟨λb ob q _ _ _=>k b ob q,λb ob q _ _ _=>⟨ob.slots,k b ob q⟩,λ_ _ _ n _=>n,λb ob q _=>⟨ob,k b ob q⟩,λ_ _ q=>q,λ_ _ _ q=>q,λ_ B q=>⟨#[],by rw[q];simp⟩⟩
def Un.refl:Un fs ex H H h h:=Un.aH λ_ _ q=>q
theorem Un.laid(k:∀b u,h.get? b=aa u->h'.get? b=aa u)(D:h.objs.size<=a)(hn:H a=af):Un fs ex H (upd H a o) h h' where
 keep:=λb u q _ _ _=>k b u q
 slot:=λb u q _ _ _=>⟨u.slots,k b u q⟩
 free:=λb u q n _=>by rw[dB (Si (Se (RL q) D))];exact n
 there:=λb u q _=>⟨u,k b u q⟩
 tups:=λb B q=>by rw[dB (dR q hn)];exact q
 frzs:=λb u B q=>by rw[dB (dR q hn)];exact q
 tbls:=λb J q=>⟨#[],by rw[dB (dR q hn),q];simp⟩
def Un.write(mu:Mut (H x))(U:e=x\/H e=aa (.own x))(k:∀b u,b≠e->h.get? b=aa u->h'.get? b=aa u)(J:∃u,h'.get? e=aa u):Un fs ex H (upd H x o) h h':=by
 have L:∀b,H b=af->b≠x:=λb n z=>by subst z;rw[n]at mu;exact mu
 have M:∀b,H b=af->b≠e:=λb n z=>by
  subst z;rcases U with r|r
  exact L b n r;rw[n]at r;cases r
 have D:∀b u,H b=aa u->¬Mut (aa u)->b≠x:=λb u q nm z=>by subst z;rw[q]at mu;exact nm mu
 refine ⟨λb u q n _ _=>k b u (M b n) q,λb u q n _ _=>⟨u.slots,k b u (M b n) q⟩,λb u q n _=>by rw[dB (L b n)];exact n,λb u q _=>?_,
  λb O q=>by rw[dB (D b _ q λz=>z)];exact q,λb u O q=>by rw[dB (D b _ q λz=>z)];exact q,λb V q=>⟨#[],by rw[dB (D b _ q λz=>z),q];simp⟩⟩
 by_cases B:b=e
 subst B;exact J;exact⟨u,k b u B q⟩
end
noncomputable def trk(h:aq)(H:Hp):List az:=(Sy h.objs.size).filter λa=>(H a).isSome
def rV(h:aq)(H:Hp):aq:=PySem.W.hideAll h (trk h H)
def xG(h:aq)(H:Hp):(rV h H).objs.size=h.objs.size:=PySem.W.hideAll_size _ _
def rW(e:h.get? b=aa o)(n:H b=af):(rV h H).get? b=aa o :=
 PySem.W.hideAll_get _ e λB=>by have q:(H b).isSome=ah:=(List.mem_filter.mp B).2;rw[n]at q;simp at q
def Dh(e:(rV h H).get? b=aa o):h.get? b=aa o/\H b=af:=by
 have B:h.get? b=aa o:=PySem.W.of_hideAll (trk h H) e;refine⟨B,?_⟩;cases q:H b with
 |none=>rfl
 |some x =>
  have D:b∈trk h H:=List.mem_filter.mpr ⟨List.mem_range.mpr (RL B),by simp[q]⟩;have z:(rV h H).get? b=af:=PySem.W.hideAll_none (trk h H) D;rw[z]at e;cases e
noncomputable def Di(g h:aq)(L:az):List (az×ao):=(Sy h.objs.size).filterMap λa=>if a=L\/(g.get? a).isSome=ah then af else(h.get? a).map λo=>(a,o)
def rest(g h:aq)(L d:az):List (az×ao):=(Di g h L).filter λp=>decide (p.1≠d)
end L2
namespace L2
open PySem PySem.Spec PyProof.Rows
structure Mod(K:RB)(mg:ay->Option aA)(base:aq):Prop where
 kin:K.In base
 glob:base.Ns R8 mg
 blt:∃mb,base.Ns UT mb/\∀x:ay,x≠"__name__"->mb x=Vu x
 nolimit:base.NoLimit
structure Cx where
 prog:Sb
 w:SH
 K:RB
 mg:ay->Option aA
 base:aq
 A:TJ
 N:List ay
 s₀:RI
 H₀:Hp
 env:Env
 outer:List Env
 stack:List Env
 ex:List az
 fn:ay->Bool
 calm:Bool
 pn:List (az×ao)
 xe:aA->RI->Prop
noncomputable def frs(l:List Env):List az:=l.filterMap (·.frame)
noncomputable abbrev Cx.fs(X:Cx):List az:=frs X.outer
def Vis(sc:Tu)(x:ay):Prop:=sc.names.lookup x=aa .local\/sc.names.lookup x=aa .cell\/sc.names.lookup x=aa .free
def Loc(sc:Tu)(x:ay):Prop:=sc.names.lookup x=aa .local\/sc.names.lookup x=aa .cell
def Look(env:Env)(h:aq)(m:ay->Option aA)(x:ay)(u:aA):Prop :=
 (env.kindOf x=aa .local/\m x=aa u)\/((env.kindOf x=aa .cell\/env.kindOf x=aa .free)/\∃c,env.cells.lookup x=aa c/\h.IsCell c (aa u))
structure Cx.Ok(X:Cx):Prop where
 mod:Mod X.K X.mg X.base
 kind:X.env.scope.kind=.function
 glob:X.env.globals=R8
 blt:X.env.builtins=UT
 above:X.s₀.heap.objs.size<=X.env.locals
 inj:∀x y c,X.env.cells.lookup x=aa c->X.env.cells.lookup y=aa c->x=y
 has:∀x,(X.env.kindOf x=aa .cell\/X.env.kindOf x=aa .free)->∃c,X.env.cells.lookup x=aa c
 cab:∀x c,X.fn x=ah->X.env.cells.lookup x=aa c->X.s₀.heap.objs.size<=c
 hd:X.calm=ah->X.A.handled=af
 frames:X.A.frames=aa X.stack
 stk:X.stack=X.outer\/(X.stack=X.env::X.outer/\X.env.frame=aa X.env.locals)
 exf:∀b∈X.ex,b≠X.env.locals/\∀x c,X.env.cells.lookup x=aa c->c≠b
 bs:∀b o,X.base.get? b=aa o->X.s₀.heap.get? b=aa o/\X.H₀ b=af
 bsz:X.base.objs.size<=X.s₀.heap.objs.size
 noex:∀b o,X.base.get? b=aa o->b∉X.ex
 exfs:∀b∈X.ex,b∉X.fs
 kK:X.s₀.heap.FunFrames X.base X.outer
 frf:∀b∈X.fs,X.H₀ b=af
structure Inv(X:Cx)(zt:List (az×ao))(σ:List (Option V))(H:Hp)(s:RI):Prop where
 ok:X.Ok
 os:s.os=X.s₀.os
 bare:XQ s.gens
 base:Un X.fs X.ex X.H₀ H X.s₀.heap s.heap
 loc:∃m,s.heap.Ns X.env.locals m/\∀(i:Nat)(x:ay)(v:V),X.N[i]?=aa x->σ[i]?=aa (aa v)->Vis X.env.scope x->∃u,RelV v u/\Look X.env s.heap m x u
 cell:∀x c,X.env.cells.lookup x=aa c->∃v,s.heap.IsCell c v
 free:H X.env.locals=af
 freeC:∀x c,X.env.cells.lookup x=aa c->H c=af
 pin:∀p∈X.pn++zt,s.heap.get? p.1=aa p.2/\H p.1=af/\p.1≠X.env.locals/\p.1∉X.fs/\∀v,p.2.data≠.cell v
 aJ:HOk X.prog X.w H s.heap
 len:σ.length=X.N.length
section
variable{X:Cx}{zt:List (az×ao)}{σ:List (Option V)}{H H':Hp}{s:RI}{h':aq}
def Cx.Ok.OF(ok:X.Ok)(e:X.base.get? b=aa o):b∉X.fs:=λq=>by have:=(ok.kK.mem q).1;rw[e]at this;cases this
def Inv.bs(I:Inv X zt σ H s):∀b o,X.base.get? b=aa o->s.heap.get? b=aa o/\H b=af:=λb o e =>
 ⟨I.base.keep b o (I.ok.bs b o e).1 (I.ok.bs b o e).2 (I.ok.OF e) (I.ok.noex b o e),I.base.free b o (I.ok.bs b o e).1 (I.ok.bs b o e).2 (I.ok.noex b o e)⟩
def Inv.bk(I:Inv X zt σ H s):∀b o,X.base.get? b=aa o->s.heap.get? b=aa o:=λb o e=>(I.bs b o e).1
def Inv.mod(I:Inv X zt σ H s):Mod X.K X.mg X.base:=I.ok.mod
def Inv.kIn(I:Inv X zt σ H s):X.K.In s.heap:=I.ok.mod.kin.keeps I.bk
def Inv.lt(I:Inv X zt σ H s):X.env.locals<s.heap.objs.size:=let ⟨_,hn,_⟩:=I.loc;hn.lt
def Inv.sz(I:Inv X zt σ H s):X.s₀.heap.objs.size<=s.heap.objs.size:=Sz I.ok.above (Ub I.lt)
def Inv.OG(I:Inv X zt σ H s)(h:s.heap.objs.size<=a):a∉X.fs:=λB=>by obtain⟨_,o,q,_⟩:=I.ok.kK.mem B;exact bL (Se (RL q) (Sz I.sz h)) (Te _)
def Inv.cne(I:Inv X zt σ H s):∀x c,X.env.cells.lookup x=aa c->c≠X.env.locals:=λx c e z=>by obtain⟨v,o,D,hd⟩:=I.cell x c e;obtain⟨m,⟨J,L,M,q,B,_⟩,_⟩:=I.loc;rw[z,q]at D;cases D;rw[B]at hd;cases hd
def Inv.kK(I:Inv X zt σ H s):s.heap.FunFrames X.base X.outer:=by
 have all:∀(l:List Env),(∀b∈frs l,b∈X.fs)->X.s₀.heap.FunFrames X.base l->s.heap.FunFrames X.base l:=by
  intro l
  induction l with
  |nil=>intro _ _;trivial
  |cons Y r M =>
   intro J V;obtain⟨W,⟨L,o,q,hn,U,hd⟩,O⟩:=V;have D:L∈X.fs:=J L (by unfold frs;rw[SX,q];exact RZ);obtain⟨Z,e⟩:=I.base.slot L o U (I.ok.frf L D) D λz=>I.ok.exfs L z D;exact⟨W,⟨L,_,q,hn,e,hd⟩,M (λb B=>J b (by unfold frs;rw[SX,q];exact RP _ B)) O⟩
 exact all X.outer (λ_ B=>B) I.ok.kK
def Inv.stack(I:Inv X zt σ H s):s.heap.FunFrames X.base X.stack:=by
 rcases I.ok.stk with e|⟨e,hf⟩
 rw[e];exact I.kK
 ·rw[e];obtain⟨m,hn,_⟩:=I.loc;refine .cons (by rw[I.ok.kind];decide) hf hn ?_ I.kK;exact Heap.get?_none_of_le (Sz I.ok.bsz I.ok.above)
def Inv.qw(I:Inv X zt σ H s):∀b∈frs X.stack,b∈X.env.locals::X.fs:=λb q=>by
 rcases I.ok.stk with e|⟨e,hf⟩
 rw[e]at q;exact RP _ q
 ·rw[e]at q;unfold frs at q;rw[SX,hf]at q;exact q
def Inv.vF(I:Inv X zt σ H s):∀b∈frs X.stack,H b=af:=λb q=>by
 rcases List.mem_cons.mp (I.qw b q)with e|q
 rw[e];exact I.free
 ·obtain⟨_,o,B,_⟩:=I.ok.kK.mem q;exact I.base.free b o B (I.ok.frf b q) λz=>I.ok.exfs b z q
def Inv.step{g':Array GenState}{t':Nat}{d':Drawn}{ch:List az}(I:Inv X zt σ H s)
(J:∀b∈ch,(b∈X.ex\/X.s₀.heap.objs.size<=b)/\b≠X.env.locals/\(∀x c,X.env.cells.lookup x=aa c->c≠b)/\∀p∈X.pn++zt,p.1≠b)
(keep:∀b o,b≠X.env.locals->b∉X.fs->b∉ch->s.heap.get? b=aa o->H b=af->h'.get? b=aa o)
(slot:∀b o,b≠X.env.locals->b∈X.fs->b∉ch->s.heap.get? b=aa o->H b=af->∃Z,h'.get? b=aa {o with slots:=Z})(free:∀b o,b∉ch->s.heap.get? b=aa o->H b=af->H' b=af)
(there:∀b o,b∉ch->s.heap.get? b=aa o->∃o',h'.get? b=aa o')
(tups:∀b xs,H b=aa (.aC xs)->H' b=aa (.aC xs))(frzs:∀b o u,H b=aa (.frz o u)->H' b=aa (.frz o u))(tbls:∀b ps,H b=aa (.tbl ps)->∃W,H' b=aa (.tbl (ps++W)))
(ns:∀m,s.heap.Ns X.env.locals m->h'.Ns X.env.locals m)(E:HOk X.prog X.w H' h')(A:XQ g'):
 Inv X zt σ H' {s with heap:=h',gens:=g',drawn:=d',toks:=t'}:=by
 have V:∀b o,X.s₀.heap.get? b=aa o->b≠X.env.locals:=λb o e=>Si (Se (RL e) I.ok.above);have M:∀b o,X.s₀.heap.get? b=aa o->b∉X.ex->b∉ch:=λb o e B O=>by
  rcases (J b O).1 with z|z
  exact B z;exact bL (Se (RL e) z) (Te _)
 have L:∀x c,X.env.cells.lookup x=aa c->∀v,s.heap.IsCell c v->h'.IsCell c v:=λx c e v ⟨o,U,hd⟩=>by
  have D:c∉ch:=λz=>(J c z).2.2.1 x c e rfl
  by_cases h:c∈X.fs
  ·obtain⟨Z,q⟩:=slot c o (I.cne x c e) h D U (I.freeC x c e);exact⟨_,q,hd⟩
  exact⟨o,keep c o (I.cne x c e) h D U (I.freeC x c e),hd⟩
 refine⟨I.ok,I.os,A,⟨λb o e n O B=>?_,λb o e n O B=>?_,λb o e n B=>?_,λb o e B=>?_,λb xs e=>tups b xs (I.base.tups b xs e),λb o xs e=>frzs b o xs (I.base.frzs b o xs e),λb ps e=>?_⟩,?_,λx c e=>?_,?_,λx c e=>?_,λp g=>?_,E,I.len⟩;exact keep b o (V b o e) O (M b o e B) (I.base.keep b o e n O B) (I.base.free b o e n B)
 ·obtain⟨Z,e1⟩:=I.base.slot b o e n O B;obtain⟨Y,e2⟩:=slot b _ (V b o e) O (M b o e B) e1 (I.base.free b o e n B);exact⟨Y,e2⟩
 ·obtain⟨o',e1⟩:=I.base.there b o e B;exact free b o' (M b o e B) e1 (I.base.free b o e n B)
 ·obtain⟨o',e1⟩:=I.base.there b o e B;exact there b o' (M b o e B) e1
 ·obtain⟨t,e1⟩:=I.base.tbls b ps e;obtain⟨j,e2⟩:=tbls b _ e1;exact⟨t++j,by rw[e2,Array.append_assoc]⟩
 ·obtain⟨m,hn,y⟩:=I.loc;refine⟨m,ns m hn,λi x v e1 e2 C=>?_⟩;obtain⟨u,r,l⟩:=y i x v e1 e2 C;refine⟨u,r,?_⟩;rcases l with l|⟨k,c,e,z⟩
  exact .inl l;exact .inr ⟨k,c,e,L x c e _ z⟩
 ·obtain⟨v,z⟩:=I.cell x c e;exact⟨v,L x c e v z⟩
 ·obtain⟨m,⟨o,_,_,U,_⟩,_⟩:=I.loc;exact free _ o (λz=>(J _ z).2.1 rfl) U I.free
 ·obtain⟨v,o,U,hd⟩:=I.cell x c e;exact free c o (λz=>(J c z).2.2.1 x c e rfl) U (I.freeC x c e)
 ·obtain⟨e,n,f,a,d⟩:=I.pin p g;have D:p.1∉ch:=λz=>(J p.1 z).2.2.2 p g rfl;exact⟨keep p.1 p.2 f a D e n,free p.1 p.2 D e n,f,a,d⟩
def Inv.un(I:Inv X zt σ H s)(u:Un X.fs [] H H' s.heap h')(V:HOk X.prog X.w H' h'):Inv X zt σ H' {s with heap:=h',toks:=t'}:=by
 obtain⟨m,⟨o,a,c,L,r⟩,_⟩:=id I.loc;obtain⟨W,U⟩:=u.any L I.free (by simp);exact I.step (g':=s.gens) (d':=s.drawn) (ch:=[]) (λ_ z=>nomatch z) (λb o _ B _ e n=>u.keep b o e n B (by simp)) (λb o _ B _ e n=>u.slot b o e n B (by simp)) (λb o _ e n=>u.free b o e n (by simp)) (λb o _ e=>u.there b o e (by simp)) u.tups u.frzs u.tbls (λZ O=>by obtain⟨Y,D,J,q,M⟩:=O;rw[L]at q;cases q;exact⟨_,D,J,U,M⟩) V I.bare
def Inv.call(I:Inv X zt σ H s)(u:Un (frs X.stack) ch H H' s.heap h')(Z:HOk X.prog X.w H' h')(W:XQ g')
(D:∀b∈ch,(b∈X.ex\/X.s₀.heap.objs.size<=b)/\b≠X.env.locals/\(∀x c,X.env.cells.lookup x=aa c->c≠b)/\∀p∈X.pn++zt,p.1≠b):
 Inv X zt σ H' {s with heap:=h',gens:=g',drawn:=d',toks:=t'}:=by
 obtain⟨m,⟨o,g,h,O,r⟩,_⟩:=id I.loc;obtain⟨a,J⟩:=u.any O I.free λz=>(D _ z).2.1 rfl;exact I.step (ch:=ch) D (λb o J Y q e n=>u.keep b o e n (λz=>(List.mem_cons.mp (I.qw b z)).elim J Y) q) (λb o _ _ q e n=>u.any e n q) (λb o q e n=>u.free b o e n q) (λb o q e=>u.there b o e q) u.tups u.frzs u.tbls (λf V=>by obtain⟨d,L,M,B,U⟩:=V;rw[O]at B;cases B;exact⟨_,L,M,J,U⟩) Z W
def Inv.turned(I:Inv X zt σ H s)(k:∀b o,b≠it->s.heap.get? b=aa o->h'.get? b=aa o)(hn:H it=af)(J:it≠X.env.locals)
(h1:it∈X.ex\/X.s₀.heap.objs.size<=it)(h2:∀x c,X.env.cells.lookup x=aa c->c≠it)(U:∀p∈X.pn++zt,p.1≠it):Inv X zt σ H {s with heap:=h',toks:=t'}:=by
 have D:∀b u,H b=aa u->b≠it:=λb u e z=>by rw[z,hn]at e;cases e
 refine I.step (g':=s.gens) (d':=s.drawn) (ch:=[it]) (λb O=>?_) (λb o _ _ B e _=>k b o (λz=>B (by simp[z])) e) (λb o _ _ B e _=>⟨o.slots,k b o (λz=>B (by simp[z])) e⟩) (λ_ _ _ _ n=>n)
  (λb o B e=>⟨o,k b o (λz=>B (by simp[z])) e⟩) (λ_ _ e=>e) (λ_ _ _ e=>e) (λb Y e=>⟨#[],by rw[e];simp⟩) (λm M=>?_) (λb u e=>?_) I.bare
 ·have e:b=it:=by simpa using O
  subst e;exact⟨h1,J,h2,U⟩
 ·obtain⟨o,V,W,L,r⟩:=M;exact⟨o,V,W,k _ o (SM J) L,r⟩
 ·refine(I.aJ b u e).stay (λc v B q=>k c v ?_ q) (λ_ q=>q) λ_ _ q=>q;rcases B with z|z
  rw[z];exact D b u e;exact D c _ z
def Inv.tok(I:Inv X zt σ H s)(t:Nat):Inv X zt σ H {s with toks:=t}:=I.un (h':=s.heap) (t':=t) Un.refl I.aJ
def Inv.aH(I:Inv X zt σ H s)(k:∀b u,s.heap.get? b=aa u->h'.get? b=aa u):Inv X zt σ H {s with heap:=h',toks:=t'}:=I.un (Un.aH k) (I.aJ.aH k)
def Inv.laid(I:Inv X zt σ H s)(k:∀b u,s.heap.get? b=aa u->h'.get? b=aa u)(q:s.heap.objs.size<=a)(new:gC X.prog X.w (upd H a o) h' a o):
 Inv X zt σ (upd H a o) {s with heap:=h',toks:=t'}:=I.un (Un.laid k q (I.aJ.fresh q)) (I.aJ.laid k q new)
def Inv.write(I:Inv X zt σ H s)(mu:Mut (H x))(B:e=x\/H e=aa (.own x))(k:∀b u,b≠e->s.heap.get? b=aa u->h'.get? b=aa u)(q:∃u,h'.get? e=aa u)
(new:gC X.prog X.w (upd H x o) h' x o):Inv X zt σ (upd H x o) {s with heap:=h',toks:=t'}:=I.un (Un.write mu B k q) (I.aJ.write mu B k q new)
def Inv.mS(I:Inv X zt σ H s)(h:∀p∈pins',s.heap.get? p.1=aa p.2/\H p.1=af/\p.1≠X.env.locals/\p.1∉X.fs/\∀v,p.2.data≠.cell v):Inv X pins' σ H s :=
 ⟨I.ok,I.os,I.bare,I.base,I.loc,I.cell,I.free,I.freeC,λp q=>(List.mem_append.mp q).elim (λz=>I.pin p (Ux _ z)) (h p),I.aJ,I.len⟩
def rX{N:List ay}(q:N.Nodup){i j:Nat}{x:ay}(a:N[i]?=aa x)(b:N[j]?=aa x):i=j:=by obtain⟨D,e1⟩:=List.getElem?_eq_some_iff.mp a;obtain⟨B,e2⟩:=List.getElem?_eq_some_iff.mp b;exact(Wz q).mp (e1.trans e2.symm)
def pP{M:Model}{A:TJ}{E:aA->RI->Prop}{i:Nat}{x:ay}{v:V}{u:aA}{Q:Unit->RI->Prop}(I:Inv X zt σ H s)(hN:X.N.Nodup)(hi:X.N[i]?=aa x)(L:Loc X.env.scope x)(r:RelV v u)
(h:∀s',Inv X zt (σ.set i (aa v)) H s'->(∃a,S7 a s.heap s'.heap/\(a=X.env.locals\/X.env.cells.lookup x=aa a))->Q () s')(hf:X.fn x=ah\/X.env.scope.names.lookup x=aa .local:=by first|exact .inl rfl|exact .inr rfl|assumption):av M A (storeName X.env x u) Q E s:=by
 obtain⟨m,hn,hl⟩:=id I.loc;have t:(X.env.scope.kind==.class||(X.env.scope.kind==.module&&X.env.locals != X.env.globals))=ai:=by rw[I.ok.kind];rfl
 have U:i<σ.length:=by rw[I.len];exact(List.getElem?_eq_some_iff.mp hi).1
 have cne:=I.cne;have D:∀{a:az}{f:aq},(∃o,s.heap.get? a=aa o/\H a=af)->S7 a s.heap f->HOk X.prog X.w H f:=λ{a f} ha B b ob e=>by
  obtain⟨_,_,O⟩:=ha;refine(I.aJ b ob e).stay (λc G J q=>(B.2 c ?_).trans q) (λ_ q=>q) λ_ _ q=>q
  rintro rfl
  rcases J with rfl|J
  rw[O]at e;cases e;rw[O]at J;cases J
 rcases L with hk|hk
 ·refine wpAny_storeName_local hk hn (λf hn' B=>?_) t;obtain⟨oL,_,_,hoL,_⟩:=id hn;refine h _ ⟨I.ok,I.os,I.bare,⟨λb o e n Z L=>?_,λb o e n Z L=>?_,I.base.free,λb o e L=>?_,I.base.tups,I.base.frzs,I.base.tbls⟩,⟨_,hn',λj y R e1 e2 e3=>?_⟩,λy c e=>?_,I.free,I.freeC,λp hp=>?_,D ⟨oL,hoL,I.free⟩ B,by simpa using I.len⟩ ⟨_,B,.inl rfl⟩;exact(B.2 b (Si (Se (RL e) I.ok.above))).trans (I.base.keep b o e n Z L)
  ·obtain⟨T,e1⟩:=I.base.slot b o e n Z L;exact⟨T,(B.2 b (Si (Se (RL e) I.ok.above))).trans e1⟩
  ·obtain⟨o',e1⟩:=I.base.there b o e L;exact⟨o',(B.2 b (Si (Se (RL e) I.ok.above))).trans e1⟩
  ·by_cases W:j=i
   ·subst W;rw[hi]at e1;cases e1;rw[Sw U]at e2;cases e2;exact⟨u,r,.inl ⟨hk,by simp⟩⟩
   ·rw[Sg (SM W)]at e2;obtain⟨S,r',q⟩:=hl j y R e1 e2 e3;refine⟨S,r',?_⟩;rcases q with⟨k,e⟩|⟨k,c,e,z⟩
    ·refine .inl ⟨k,?_⟩;have:y≠x:=λe=>W (rX hN e1 (e ▸ hi));simp[this,e]
    exact .inr ⟨k,c,e,z.sameBut B (cne y c e)⟩
  ·obtain⟨G,z⟩:=I.cell y c e;exact⟨G,z.sameBut B (cne y c e)⟩
  ·obtain⟨e,n,K,nf,d⟩:=I.pin p hp;exact⟨(B.2 p.1 K).trans e,n,K,nf,d⟩
 ·have Y:X.fn x=ah:=by
   rcases hf with z|z
   exact z;rw[z]at hk;cases hk
  obtain⟨c,J⟩:=I.ok.has x (.inl hk);obtain⟨G,z⟩:=I.cell x c J;refine wpAny_storeName_cell I.ok.kind hk J z (λf F B=>?_);obtain⟨oc,l,g⟩:=id z;refine h {s with heap:=f} ⟨I.ok,I.os,I.bare,⟨λb o e n Z L=>?_,λb o e n Z L=>?_,I.base.free,λb o e L=>?_,I.base.tups,I.base.frzs,I.base.tbls⟩,⟨m,hn.sameBut B (SM (cne x c J)),λj y R e1 e2 e3=>?_⟩,λy P e=>?_,I.free,I.freeC,λp hp=>?_,D ⟨oc,l,I.freeC x c J⟩ B,by simpa using I.len⟩ ⟨c,B,.inr J⟩;exact(B.2 b (Si (Se (RL e) (I.ok.cab x c Y J)))).trans (I.base.keep b o e n Z L)
  ·obtain⟨T,e1⟩:=I.base.slot b o e n Z L;exact⟨T,(B.2 b (Si (Se (RL e) (I.ok.cab x c Y J)))).trans e1⟩
  ·obtain⟨o',e1⟩:=I.base.there b o e L;exact⟨o',(B.2 b (Si (Se (RL e) (I.ok.cab x c Y J)))).trans e1⟩
  ·by_cases W:j=i
   ·subst W;rw[hi]at e1;cases e1;rw[Sw U]at e2;cases e2;exact⟨u,r,.inr ⟨.inl hk,c,J,F⟩⟩
   ·rw[Sg (SM W)]at e2;obtain⟨S,r',q⟩:=hl j y R e1 e2 e3;refine⟨S,r',?_⟩;rcases q with q|⟨k,P,e,z'⟩
    exact .inl q
    ·refine .inr ⟨k,P,e,z'.sameBut B ?_⟩
     rintro rfl
     exact W (rX hN e1 (I.ok.inj _ _ _ e J ▸ hi))
  ·by_cases C:P=c
   subst C;exact⟨_,F⟩
   ·obtain⟨w2,z2⟩:=I.cell y P e;exact⟨w2,z2.sameBut B C⟩
  ·obtain⟨e,n,K,nf,d⟩:=I.pin p hp;refine⟨(B.2 p.1 ?_).trans e,n,K,nf,d⟩;intro q;rw[q,l]at e;have q':oc=p.2:=RO e;exact d G (by rw[←q'];exact g)
def nj{E:aA->RI->Prop}(I:Inv X zt σ H s)(D:X.N.Nodup)(hi:X.N[i]?=aa x)(q:Loc X.env.scope x)(r:RelV v u)
(h:∀s',Inv X zt (σ.set i (aa v)) H s'->Q () s')(B:X.fn x=ah\/X.env.scope.names.lookup x=aa .local:=by first|exact .inl rfl|exact .inr rfl|assumption):av M A (storeName X.env x u) Q E s :=
 pP I D hi q r (λs' J _=>h s' J) B
end
abbrev XK:=aA->Option az->Hp->Prop
noncomputable abbrev St:=List (Option V)
abbrev VK:=V->Hp->Prop
abbrev TE:=St->Hp->VK->Prop
abbrev TT:=St->Hp->(Bool->Hp->Prop)->Prop
abbrev TA:=St->Hp->(List V->Hp->Prop)->Prop
structure Ends where
 nx:St->Hp->Prop
 rt:VK
 bk:St->Hp->Prop:=λ_ _=>False
 ct:St->Hp->Prop:=λ_ _=>False
abbrev TS:=Ends->St->Hp->Prop
inductive EP(X:Cx)(zt:List (az×ao))(σ:St)(Q:VK)(u:aA)(s':RI):Prop
 |mk(v:V)(H':Hp)(I:Inv X zt σ H' s')(r:RelV v u)(q:Q v H'):EP X zt σ Q u s'
inductive TP(X:Cx)(zt:List (az×ao))(σ:St)(Q:Bool->Hp->Prop)(b:Bool)(s':RI):Prop
 |mk(H':Hp)(I:Inv X zt σ H' s')(q:Q b H'):TP X zt σ Q b s'
inductive AP(X:Cx)(zt:List (az×ao))(σ:St)(Q:List V->Hp->Prop)(us:List aA)(s':RI):Prop
 |mk(vs:List V)(H':Hp)(I:Inv X zt σ H' s')(r:dg vs us)(q:Q vs H'):AP X zt σ Q us s'
def SP(X:Cx)(zt:List (az×ao))(D:Ends)(f:Flow)(s':RI):Prop :=
 match f with
 |.next=>∃q B,Inv X zt q B s'/\D.nx q B|.brk=>∃q B,Inv X zt q B s'/\D.bk q B|.cont=>∃q B,Inv X zt q B s'/\D.ct q B|.ret u=>∃v q B,Inv X zt q B s'/\RelV v u/\D.rt v B
def PE(X:Cx)(e:Wk)(t:TE):Prop :=
 ∀(B:List (az×ao)) (s:RI) (q:St) (H:Hp) (Q:VK),Inv X B q H s->t q H Q->av (R6 X.prog X.w) X.A (eval e X.env) (EP X B q Q) X.xe s
def PT(X:Cx)(e:Wk)(t:TT):Prop :=
 ∀(B:List (az×ao)) (s:RI) (q:St) (H:Hp) (Q:Bool->Hp->Prop),Inv X B q H s->t q H Q->av (R6 X.prog X.w) X.A (isTrue e X.env (eval e X.env)) (TP X B q Q) X.xe s
def PW(X:Cx)(e:Wk)(t:TT):Prop :=
 ∀(q:Sem aA)(D:List (az×ao)) (s:RI) (B:St) (H:Hp) (Q:Bool->Hp->Prop),Inv X D B H s->t B H Q->av (R6 X.prog X.w) X.A (isTrue e X.env q) (TP X D B Q) X.xe s
def PW.pt(h:PW X e t):PT X e t:=h _
def PA(X:Cx)(es:List Wk)(t:TA):Prop :=
 ∀(B:Pos)(D:List (az×ao)) (s:RI) (q:St) (H:Hp) (Q:List V->Hp->Prop),Inv X D q H s->t q H Q->av (R6 X.prog X.w) X.A (spliced (UW B (Sv es X.env))) (AP X D q Q) X.xe s
def PS(X:Cx)(st:W0)(t:TS):Prop :=
 ∀(B:List (az×ao)) (s:RI) (q:St) (H:Hp) (D:Ends),Inv X B q H s->t D q H->av (R6 X.prog X.w) X.A (exec st X.env) (SP X B D) X.xe s
def PSs(X:Cx)(st:List W0)(t:TS):Prop :=
 ∀(B:List (az×ao)) (s:RI) (q:St) (H:Hp) (D:Ends),Inv X B q H s->t D q H->av (R6 X.prog X.w) X.A (execs st X.env) (SP X B D) X.xe s
def thn{q:Type}{t:Sem q}{Q B:q->RI->Prop}{E:aA->RI->Prop}(h:av M A t Q E s)(D:∀a s,Q a s->B a s):av M A t B E s:=Ue h D λ_ _ x=>x
end L2
namespace L2
open PySem PySem.Spec PyProof.Rows
section
variable{X:Cx}
def bin{a b:Wk}{ta tb:TE}(c:PE X a ta)(Z:PE X b tb){zt:List (az×ao)}{s:RI}{σ:St}{H:Hp}{R:V->V->Hp->Prop}(I:Inv X zt σ H s)(h:ta σ H λx H1=>tb σ H1 λy H2=>R x y H2)
{J:Type}{Q:J->RI->Prop}{f:aA->aA->Sem J}
(Y:∀v u s2 x y H2,Inv X zt σ H2 s2->RelV x v->RelV y u->R x y H2->av (R6 X.prog X.w) X.A (f v u) Q X.xe s2):
 av (R6 X.prog X.w) X.A (eval a X.env) (λv B=>av (R6 X.prog X.w) X.A (eval b X.env) (λu q=>av (R6 X.prog X.w) X.A (f v u) Q X.xe q) X.xe B) X.xe s:=by
 refine thn (c zt s σ H _ I h) λv L D=>?_;obtain⟨x,H1,e,O,W⟩:=D;refine thn (Z zt L σ H1 _ e W) λu s2 D=>?_;obtain⟨y,H2,d,M,U⟩:=D;exact Y v u s2 x y H2 d O M U
def OH(i:Nat):TE:=fun q H Q=>∃v,q[i]?=aa (aa v)/\Q v H
def tC(v:V):TE:=λ_ H Q=>Q v H
def GW(U:X.N[i]?=aa x)(L:Vis X.env.scope x)(hd:(x==("__debug__":ay))=ai:=by decide)(B:(x==("__classdict__":ay))=ai:=by decide):PE X (.Name x pos) (OH i):=by
 intro J s D H Q I h;obtain⟨v,e,h⟩:=h;obtain⟨m,hn,O⟩:=I.loc;obtain⟨u,r,l⟩:=O i x v U e L;have fin:EP X J D Q u s:=⟨v,H,I,r,h⟩;rcases l with⟨q,M⟩|⟨q,c,hc,hcell⟩
 exact wpAny_Name (wpAny_loadName_local I.ok.kind q hn M fin) hd
 ·rcases q with q|q
  exact wpAny_Name (wpAny_loadName_cell I.ok.kind q hc hcell fin) hd;exact wpAny_Name (wpAny_loadName_free I.ok.kind q hc hcell fin B) hd
def uv{i j pos}:PE X (.Constant (.int i) j pos) (tC (.int i)):=λ_ _ _ H _ I h=>wpAny_Constant_int ⟨.int i,H,I.tok _,⟨_,rfl⟩,h⟩
def KU{b j pos}:PE X (.Constant (.bool b) j pos) (tC (.bl b)):=λ_ _ _ H _ I h=>Constant_bool ⟨.bl b,H,I,rfl,h⟩
def GX{j pos}:PE X (.Constant .none j pos) (tC .aD):=λ_ _ _ H _ I h=>Constant_none ⟨.aD,H,I,rfl,h⟩
def GY{x j pos}:PE X (.Constant (.str x) j pos) (tC (.str x)):=λ_ _ _ H _ I h=>Calls.Constant_str ⟨.str x,H,I.tok _,⟨_,rfl⟩,h⟩
def Gl(X:Cx)(x:ay):Prop:=X.env.kindOf x=aa .globalImplicit
def kL{E:aA->RI->Prop}(I:Inv X zt σ H s)(B:Gl X x)(q:X.mg x=aa u)(h:Q u s)
(hd:(x==("__debug__":ay))=ai:=by decide):av (R6 X.prog X.w) X.A (eval (.Name x pos) X.env) Q E s :=
 WU I.ok.kind B (Calls.loadGlobal_global (by rw[I.ok.glob];exact I.mod.glob.keeps I.bk) q h) hd
def gH{E:aA->RI->Prop}(I:Inv X zt σ H s)(D:Gl X x)(B:X.mg x=af)(q:Vu x=aa u)(h:Q u s)
(hn:x≠"__name__":=by decide)(hd:(x==("__debug__":ay))=ai:=by decide):av (R6 X.prog X.w) X.A (eval (.Name x pos) X.env) Q E s:=by
 obtain⟨M,L,J⟩:=I.mod.blt;exact WU I.ok.kind D (Calls.loadGlobal_builtin (by rw[I.ok.glob];exact I.mod.glob.keeps I.bk) B (by rw[I.ok.blt];exact L.keeps I.bk) ((J x hn).trans q) h) hd
def qx(B:Gl X x)(q:X.mg x=aa u)(r:RelV v u)(hd:(x==("__debug__":ay))=ai:=by decide):PE X (.Name x pos) (tC v) :=
 λ_ _ _ H _ I h=>kL I B q ⟨v,H,I,r,h⟩ hd
def mT(D:Gl X x)(B:X.mg x=af)(q:Vu x=aa u)(r:RelV v u)(hn:x≠"__name__":=by decide)(hd:(x==("__debug__":ay))=ai:=by decide):PE X (.Name x pos) (tC v) :=
 λ_ _ _ H _ I h=>gH I D B q ⟨v,H,I,r,h⟩ hn hd
variable{a b:Wk}{ta tb:TE}{pos:Pos}
def tB(t:TE):TT:=fun q H Q=>t q H λx B=>∃c,x=.bl c/\Q c B
def GZ(h:PE X e t)(L:∀B,isTrue e X.env B=(do let v ←B;Xz e.pos;VP [v] (truthy v)):=by intro _;rfl):PT X e (tB t):=by intro J s D H Q I hw;refine isTrue_plain (thn (h J s D H _ I hw) λv s1 ⟨x,H1,I1,r1,q1⟩=>?_) (L _);obtain⟨d,rfl,q⟩:=q1;cases r1;exact TR ⟨H1,I1,q⟩
variable{tA tB':TT}{rest:List Wk}
def KW(t u:TT):TT:=fun q H Q=>t q H λc B=>if c=ah then u q B Q else Q ai B
def tOr(t u:TT):TT:=fun q H Q=>t q H λc B=>if c=ah then Q ah B else u q B Q
def KY(t:TT):TT:=fun q H Q=>t q H λc B=>Q (!c) B
def Dj(D:PT X a tA):PW X (.BoolOp .And [a] pos) tA:=by
 intro J B s q H Q I h;refine isTrue_and (thn (D B s q H Q I h) λc L e=>?_);cases c with
 |true=>exact isTrue_and_nil e|false=>exact e
def G0(D:PT X a tA):PW X (.BoolOp .Or [a] pos) tA:=by
 intro J B s q H Q I h;refine isTrue_or (thn (D B s q H Q I h) λc L e=>?_);cases c with
 |false=>exact isTrue_or_nil e|true=>exact e
def zj(W:PT X a tA)(V:PW X (.BoolOp .And (b::rest) pos) tB'):PW X (.BoolOp .And (a::b::rest) pos) (KW tA tB'):=by
 intro O B s q H Q I h;refine isTrue_and (thn (W B s q H _ I h) λc U M=>?_);obtain⟨L,J,D⟩:=M;cases c with
 |true=>exact V O B U q L Q J D|false=>exact⟨L,J,D⟩
def Gi(W:PT X a tA)(V:PW X (.BoolOp .Or (b::rest) pos) tB'):PW X (.BoolOp .Or (a::b::rest) pos) (tOr tA tB'):=by
 intro O B s q H Q I h;refine isTrue_or (thn (W B s q H _ I h) λc U M=>?_);obtain⟨L,J,D⟩:=M;cases c with
 |true=>exact⟨L,J,D⟩|false=>exact V O B U q L Q J D
def G1(L:PT X a tA):PT X (.UnaryOp .Not a pos) (KY tA):=by intro J s D H Q I h;exact isTrue_not (thn (L J s D H (λc B=>Q (!c) B) I h) λc O z=>by obtain⟨B,M,q⟩:=z;exact⟨B,M,q⟩)
def Gj(ta tb:TE):TE:=fun q H Q=>ta q H λx B=>∃c,x=.bl c/\if c=ah then tb q B Q else Q (.bl ai) B
def KZ(ta tb:TE):TE:=fun q H Q=>ta q H λx B=>∃c,x=.bl c/\if c=ah then Q (.bl ah) B else tb q B Q
def Gk(ta:TE):TE:=fun q H Q=>ta q H λx B=>∃c,x=.bl c/\Q (.bl (!c)) B
def zk{op}(h:PE X a t):PE X (.BoolOp op [a] pos) t:=λB s q H Q I hw=>BoolOp_one (h B s q H Q I hw)
def zl(W:PE X a ta)(V:PE X (.BoolOp .And (b::rest) pos) tb):PE X (.BoolOp .And (a::b::rest) pos) (Gj ta tb):=by
 intro D s B H Q I h;refine BoolOp_and (thn (W D s B H _ I h) λv O M=>?_);obtain⟨x,L,J,U,q⟩:=M;obtain⟨c,rfl,q⟩:=q;cases U;refine TR ?_;cases c with
 |true=>exact V D O B L Q J q|false=>exact⟨.bl ai,L,J,rfl,q⟩
def Gm(W:PE X a ta)(V:PE X (.BoolOp .Or (b::rest) pos) tb):PE X (.BoolOp .Or (a::b::rest) pos) (KZ ta tb):=by
 intro D s B H Q I h;refine BoolOp_or (thn (W D s B H _ I h) λv O M=>?_);obtain⟨x,L,J,U,q⟩:=M;obtain⟨c,rfl,q⟩:=q;cases U;refine TR ?_;cases c with
 |false=>exact V D O B L Q J q|true=>exact⟨.bl ah,L,J,rfl,q⟩
def G2(M:PE X a ta):PE X (.UnaryOp .Not a pos) (Gk ta):=by intro D s B H Q I h;refine UnaryOp_ (thn (M D s B H _ I h) λv V J=>?_);obtain⟨x,U,O,L,q⟩:=J;obtain⟨c,rfl,q⟩:=q;cases L;exact not_of (TR ⟨.bl (!c),U,O,rfl,q⟩)
def tIf(t:TT)(ta tb:TE):TE:=fun q H Q=>t q H λc B=>if c=ah then ta q B Q else tb q B Q
def zm(U:PT X c tA)(W:PE X a ta)(V:PE X b tb):PE X (.IfExp c a b pos) (tIf tA ta tb):=by
 intro B s q H Q I h;refine wpAny_IfExp (thn (U B s q H _ I h) λd D O=>?_);obtain⟨M,L,J⟩:=O;cases d with
 |true=>exact W B D q M Q L J|false=>exact V B D q M Q L J
end
end L2
namespace L2
open PySem PySem.Spec PyProof.Rows
def SqL(K:RB)(H:Hp)(a:az)(xs:List V):Prop :=
 Rd H a (.aB xs) ∨
  ∃(o:ao) (q:Array aA) (n:Nat),K.lookup a=aa o/\o.cls=.type "list"/\o.dict=af/\o.data=.seq q n/\q.size<=aj/\dg xs q.toList
def SqT(K:RB)(H:Hp)(a:az)(xs:List V):Prop :=
 Rd H a (.aC xs) ∨
  ∃(o:ao) (q:Array aA) (n:Nat),K.lookup a=aa o/\o.cls=.type "tuple"/\o.data=.seq q n/\q.size<=aj/\dg xs q.toList
noncomputable def OI:aA->Option V
 |.none=>aa .aD|.bool b=>aa (.bl b)|.int i _=>aa (.int i)|.str x _=>aa (.str x)|.bytes b _=>aa (.byt b)|.float b _=>aa (.flt b)|.ref a=>aa (.ref a)|.type n=>aa (.ty n)|_=>af
def RelV.abs(r:RelV x u):OI u=aa x:=by
 cases x with
 |aD=>cases r;rfl|bl _=>cases r;rfl|ref _=>cases r;rfl|ty _=>cases r;rfl|_=>obtain⟨t,rfl⟩:=r;rfl
def RelV.inj(r:RelV x u)(q:RelV y u):x=y:=RO (r.abs.symm.trans q.abs)
theorem dg.inj:∀{xs ys:List V}{us:List aA},dg xs us->dg ys us->xs=ys
 |_,_,_,.nil,.nil=>rfl
 |_,_,_,.cons r t,.cons r' t'=>by rw[r.inj r',dg.inj t t']
section
variable{X:Cx}{zt:List (az×ao)}{σ:St}{H:Hp}{s:RI}{a:az}{xs ys:List V}
def Inv.list(I:Inv X zt σ H s)(h:SqL X.K H a xs):∃q:List aA,dg xs q/\PlainL s.heap a q.toArray/\xs.length<=aj:=by
 rcases h with h|⟨o,q,n,hk,hc,hd,hs,hz,r⟩
 ·obtain⟨z,q,n,r,e⟩:=h.ok I.aJ;exact⟨q,r,⟨_,n,e,rfl,rfl,rfl⟩,z⟩
 ·refine⟨q.toList,r,⟨o,n,I.kIn a o hk,hc,hd,by simpa using hs⟩,?_⟩;have e:=r.length;simp only[So]at e;lia
def Inv.tuple(I:Inv X zt σ H s)(h:SqT X.K H a xs):∃q:List aA,dg xs q/\IsTup s.heap a q.toArray/\xs.length<=aj:=by
 rcases h with h|⟨o,q,n,hk,hc,hs,hz,r⟩
 ·obtain⟨z,q,r,p⟩:=h.ok I.aJ;exact⟨q,r,p,z⟩
 ·refine⟨q.toList,r,⟨o,I.kIn a o hk,hc,n,by simpa using hs⟩,?_⟩;have e:=r.length;simp only[So]at e;lia
def Inv.rY(I:Inv X zt σ H s)(h:SqL X.K H a xs)(h':SqL X.K H a ys):xs=ys:=by
 obtain⟨B,r,⟨o,n,e,_,_,d⟩,_⟩:=I.list h;obtain⟨q,L,⟨M,O,D,_,_,J⟩,_⟩:=I.list h';rw[e]at D;cases D;rw[d]at J
 injection J with d1 _
 have:B=q:=by simpa using bR Array.toList d1
 subst this;exact r.inj L
def Inv.xH(I:Inv X zt σ H s)(h:SqT X.K H a xs)(h':SqT X.K H a ys):xs=ys:=by
 obtain⟨B,r,⟨o,e,_,n,d⟩,_⟩:=I.tuple h;obtain⟨q,L,⟨M,D,_,O,J⟩,_⟩:=I.tuple h';rw[e]at D;cases D;rw[d]at J
 injection J with d1 _
 have:B=q:=by simpa using bR Array.toList d1
 subst this;exact r.inj L
end
noncomputable abbrev Cx.oY(X:Cx)(E:aA->RI->Prop):Cx:={X with xe:=E}
noncomputable abbrev Cx.nox(X:Cx):Cx:=X.oY λ_ _=>False
def Cx.Ok.oY{X:Cx}(ok:X.Ok)(E:aA->RI->Prop):(X.oY E).Ok :=
 ⟨ok.mod,ok.kind,ok.glob,ok.blt,ok.above,ok.inj,ok.has,ok.cab,ok.hd,ok.frames,ok.stk,ok.exf,ok.bs,ok.bsz,ok.noex,ok.exfs,ok.kK,ok.frf⟩
def Cx.Ok.jx{X:Cx}{E:aA->RI->Prop}(ok:(X.oY E).Ok):X.Ok :=
 ⟨ok.mod,ok.kind,ok.glob,ok.blt,ok.above,ok.inj,ok.has,ok.cab,ok.hd,ok.frames,ok.stk,ok.exf,ok.bs,ok.bsz,ok.noex,ok.exfs,ok.kK,ok.frf⟩
section
variable{X:Cx}{zt:List (az×ao)}{σ:St}{H:Hp}{s:RI}{E:aA->RI->Prop}
def Inv.oY(I:Inv X zt σ H s)(E:aA->RI->Prop):Inv (X.oY E) zt σ H s:=⟨I.ok.oY E,I.os,I.bare,I.base,I.loc,I.cell,I.free,I.freeC,I.pin,I.aJ,I.len⟩
def Inv.jx(I:Inv (X.oY E) zt σ H s):Inv X zt σ H s:=⟨I.ok.jx,I.os,I.bare,I.base,I.loc,I.cell,I.free,I.freeC,I.pin,I.aJ,I.len⟩
def SP.jx{D:Ends}(h:SP (X.oY E) zt D f s'):SP X zt D f s':=by
 cases f with
 |ret u=>obtain⟨v,B,J,I,r,q⟩:=h;exact⟨v,B,J,I.jx,r,q⟩|_=>obtain⟨B,J,I,q⟩:=h;exact⟨B,J,I.jx,q⟩
def PSs.nox{st:List W0}(h:PSs X.nox st t):PSs X st t:=λJ s B H D I hw =>
 Ue (h J s B H D (I.oY _) hw) (λ_ _ q=>q.jx) λ_ _ z=>TY z
end
section
variable{X:Cx}{st:W0}{rest:List W0}{t u:TS}{e:Wk}{te:TE}{pos:Pos}
def K0:TS:=λD q H=>D.nx q H
def K1(t u:TS):TS:=λD q H=>t {D with nx:=u D} q H
def Dl:PSs X [] K0:=λ_ _ q H _ I h=>V2 ⟨q,H,I,h⟩
def rZ(h1:PS X st t)(h2:PSs X rest u):PSs X (st::rest) (K1 t u):=by
 intro J s L H D I h;refine wpAny_execs_cons (thn (h1 J s L H {D with nx:=u D} I h) λf M q=>?_);cases f with
 |next =>
  obtain⟨B,U,O,q⟩:=q;exact h2 J M B U D O q
 |_=>exact q
def qy(h1:PS X st t):PSs X [st] t:=by
 intro J s B H D I h;refine wpAny_execs_cons (thn (h1 J s B H D I h) λf L q=>?_);cases f with
 |next=>exact V2 q|_=>exact q
def OJ:TS:=λD q H=>D.bk q H
def QW:TS:=λD q H=>D.ct q H
def Inv.quiet(I:Inv X zt σ H s):interactive X.env=ai:=by simp[interactive,I.ok.kind]
def K2(te:TE):TS:=λD q H=>te q H λ_ B=>D.nx q B
def Dm(L:PE X e te)(J:Vl e af pos.line X.env=pure ai:=by rfl):PS X (.Expr e pos) (K2 te):=by intro B s q H D I h;exact wpAny_Expr_any (thn (L B s q H _ I h) λv s1 ⟨x,H1,I1,r1,q1⟩=>⟨q,H1,I1,q1⟩) I.quiet J
def OL(te:TE):TS:=λD q H=>te q H D.rt
def zo(J:PE X e te):PS X (.Return (aa e) pos) (OL te):=by intro B s q H D I h;exact wpAny_Return_some (thn (J B s q H _ I h) λv s1 ⟨x,H1,I1,r1,q1⟩=>⟨x,q,H1,I1,r1,q1⟩)
def OM(c:TT)(t u:TS):TS:=λD q H=>c q H λb B=>if b=ah then t D q B else u D q B
def K3(V:PT X c tc)(Y:PSs X a t)(W:PSs X b u):PS X (.If c a b pos) (OM tc t u):=by
 intro B s q H D I h;refine wpAny_If (thn (V B s q H _ I h) λd J U=>?_);obtain⟨O,M,L⟩:=U;cases d with
 |true=>exact Y B J q O D M L|false=>exact W B J q O D M L
end
abbrev TG:=V->St->Hp->(St->Hp->Prop)->Prop
abbrev TGs:=List V->St->Hp->(St->Hp->Prop)->Prop
def PG(X:Cx)(target:Wk)(t:TG):Prop :=
 ∀(D:List (az×ao)) (s:RI) (B:St) (H:Hp) (v:V) (u:aA) (Q:St->Hp->Prop),Inv X D B H s->RelV v u->t v B H Q →
  av (R6 X.prog X.w) X.A (Xb target X.env u) (λ_ L=>∃q J,Inv X D q J L/\Q q J) X.xe s
def PGs(X:Cx)(ts:List Wk)(t:TGs):Prop :=
 ∀(D:List (az×ao)) (s:RI) (B:St) (H:Hp) (J:List V) (L:List aA) (Q:St->Hp->Prop),Inv X D B H s->dg J L->t J B H Q →
  av (R6 X.prog X.w) X.A (assignInOrder ((UC ts X.env).map (·.2)) L) (λ_ O=>∃q M,Inv X D q M O/\Q q M) X.xe s
abbrev K4:=V->V->V->Hp->(Hp->Prop)->Prop
def K5(X:Cx)(t:K4):Prop :=
 ∀(B:List (az×ao)) (s:RI) (q:St) (H:Hp) (o i v:V) (D J u:aA) (Q:Hp->Prop),Inv X B q H s->RelV o D->RelV i J->RelV v u->t o i v H Q →
  av (R6 X.prog X.w) X.A (setItem D J u) (λ_ M=>∃L,Inv X B q L M/\Q L) X.xe s
abbrev TIp:=V->V->Hp->VK->Prop
def PIp(X:Cx)(D:Wc)(t:TIp):Prop :=
 ∀(B:List (az×ao)) (s:RI) (q:St) (H:Hp) (x y:V) (v u:aA) (Q:VK),Inv X B q H s->RelV x v->RelV y u->t x y H Q →
  av (R6 X.prog X.w) X.A (inplaceOp D v u) (EP X B q Q) X.xe s
section
variable{X:Cx}{pos:Pos}
def vG(i:Nat):TG:=λv q H Q=>Q (q.set i (aa v)) H
def vH(D:X.N.Nodup)(hi:X.N[i]?=aa x)(q:Loc X.env.scope x)(B:X.fn x=ah\/X.env.scope.names.lookup x=aa .local:=by first|exact .inl rfl|exact .inr rfl|assumption):PG X (.Name x pos) (vG i):=by intro M s L H v u Q I r h;exact wpAny_assign_Name (nj I D hi q r (λO J=>⟨_,H,J,h⟩) B)
def K6:TGs:=λB q H Q=>B=[]/\Q q H
def K7(t:TG)(u:TGs):TGs:=λD B H Q=>∃v r,D=v::r/\t v B H fun q J=>u r q J Q
def Dn:PGs X [] K6:=by intro B s q H D J Q I r h;obtain⟨e,h⟩:=h;subst e;cases r;exact assignInOrder_nil ⟨q,H,I,h⟩
def zu(h1:PG X e t)(h2:PGs X es u)
(U:(UC (e::es) X.env).map (·.2)=Xb e X.env::(UC es X.env).map (·.2):=by rfl):PGs X (e::es) (K7 t u):=by
 intro B s D H Y a Q I r h;obtain⟨v,Z,e1,h⟩:=h;subst e1;cases r with
 |cons r M =>
  rw[U];refine assignInOrder_cons (thn (h1 B s D H _ _ _ I r h) λ_ L J=>?_);obtain⟨q,W,V,O⟩:=J;exact h2 B L q W _ _ Q V M O
def ON(K:RB)(n:Nat)(t:TGs):TG:=λv B H Q=>∃a q,v=.ref a/\SqT K H a q/\q.length=n/\t q B H Q
def G3(Y:X.calm=ah)(h:PGs X es t)
(hn:(UC es X.env).length=n:=by rfl)(q:(UC es X.env).findIdx? (·.1)=af:=by rfl):PG X (.Tuple es k pos) (ON X.K n t):=by
 intro D s B H v u Q I r hw;obtain⟨a,L,e1,V,W,hw⟩:=hw;subst e1;cases r;obtain⟨M,J,U,d⟩:=I.tuple V;refine assign_Tuple_tuple (I.ok.hd Y) U (by simp[hn,←W,J.length]) q λZ O=>?_;have c:Inv X D B H {s with heap:=Z}:=I.aH (t':=s.toks) λb o e=>O b o (Si (RL e)) e;exact h D _ B H L _ Q c (by simpa using J) hw
def K8(to B:TE)(t:K4):TG:=λv q H Q=>to q H λo L=>B q L λi J=>t o i v J λD=>Q q D
def G4(b:PE X o to)(hi:PE X i ti)(a:K5 X t)
(c:∀ v,Xb (.Subscript o i pos) X.env v=(do
  let q ←VP [v] (eval o X.env)
  let D ←VP [v,q] (eval i X.env)
  Xz pos
  VP [v,q,D] (setItem q D v)
  release [v,q,D] []):=by intro _;rfl):PG X (.Subscript o i pos) (K8 to ti t):=by
 intro L s J H v u Q I r h;rw[c];refine Rz (SQ (thn (b L s J H _ I h) λq O B=>?_));obtain⟨x,k,f,V,Z⟩:=B;refine Rz (SQ (thn (hi L O J k _ f Z) λD M B=>?_));obtain⟨y,j,e,U,Y⟩:=B;refine Rz (WB (Rz (SQ (thn (a L M J j x y v q D u _ e V U r Y) λ_ l B=>?_))));obtain⟨g,d,W⟩:=B;exact wpAny_release ⟨J,g,d,W⟩
def zw(te:TE)(g:TG):TS:=λD q H=>te q H λx B=>g x q B D.nx
def zx(O:PE X e te)(M:PG X tg g)(L:swapsWithSole [tg] e pos.line X.env=pure ai:=by rfl)(hw:swappedStores [tg] e X.env=pure af:=by rfl)
(h1:(UC [tg] X.env).map (·.2)=[Xb tg X.env]:=by rfl):PS X (.Assign [tg] e pos) (zw te g):=by
 intro J s B H D I h;refine wpAny_Assign_stores (thn (O J s B H _ I h) λv s1 ⟨x,H1,I1,r1,q1⟩=>?_) L hw;rw[h1];exact thn (M J s1 B H1 x v _ I1 r1 q1) λ_ U q=>q
def zy(U:X.N.Nodup)(hi:X.N[i]?=aa x)(J:Loc X.env.scope x)(O:PE X e te)(L:Vl e (aa (.Name x pos')) pos.line X.env=pure ai:=by rfl)(M:X.fn x=ah\/X.env.scope.names.lookup x=aa .local:=by first|exact .inl rfl|exact .inr rfl|assumption):
 PS X (.Assign [.Name x pos'] e pos) (zw te (vG i)):=by
 intro B s q H D I h;refine wpAny_Assign_Name (thn (O B s q H _ I h) λv s1 ⟨y,H1,I1,r1,q1⟩=>?_) L;exact nj I1 U hi J r1 (λW V=>⟨_,H1,V,q1⟩) M
def K9(i:Nat)(te:TE)(B:TIp):TS:=λD q H=>∃x,q[i]?=aa (aa x)/\te q H λy L=>B x y L λz J=>D.nx (q.set i (aa z)) J
def G5(p:X.N.Nodup)(hi:X.N[i]?=aa x)(U:Loc X.env.scope x)(o:PE X e te)(f:PIp X op ti)(n:X.fn x=ah\/X.env.scope.names.lookup x=aa .local:=by first|exact .inl rfl|exact .inr rfl|assumption):
 PS X (.AugAssign (.Name x pos') op e pos) (K9 i te ti):=by
 intro L s V H D I h;obtain⟨v,e1,h⟩:=h;obtain⟨m,hn,j⟩:=I.loc;have O:Vis X.env.scope x:=by rcases U with k|k;exact .inl k;exact .inr (.inl k)
 obtain⟨u,r,l⟩:=j i x v hi e1 O;refine wpAny_AugAssign_Name ?_;have W:av (R6 X.prog X.w) X.A (eval e X.env) (λw J=>av (R6 X.prog X.w) X.A (inplaceOp op u w) (λr B=>av (R6 X.prog X.w) X.A (storeName X.env x r) (λ_=>SP X L D .next) X.xe B) X.xe J) X.xe s:=by refine thn (o L s V H _ I h) λw Y M=>?_;obtain⟨y,G,E,a,d⟩:=M;refine thn (f L Y V G v y u w _ E r a d) λz Q M=>?_;obtain⟨K,F,C,Z,b⟩:=M;exact nj C p hi U Z (λP t=>⟨_,F,t,b⟩) n
 rcases l with⟨q,g⟩|⟨q,c,hc,hcell⟩
 exact wpAny_loadName_local I.ok.kind q hn g W
 ·rcases q with q|q
  exact wpAny_loadName_cell I.ok.kind q hc hcell W
  ·rcases U with k|k
   ·have:X.env.scope.names.lookup x=aa .free:=q;rw[k]at this;cases this
   ·have:X.env.scope.names.lookup x=aa .free:=q;rw[k]at this;cases this
end
section
variable{X:Cx}{pos:Pos}
def zA(c:TT)(tb:TS):TS:=λD q H=>∃W:Nat->St->Hp->Prop,(∃m,W m q H)/\∀m q H,W m q H →
 c q H λb L=>if b=ah then ∃N:St->Hp->Prop,(∀B M,N B M->∃J,J<m/\W J B M)/\tb {D with nx:=N,ct:=N,bk:=D.nx} q L else D.nx q L
def zB(d:XI (R6 X.prog X.w) X.A X.env X.xe)(t:PT X c tc)(u:PSs X body tb):PS X (.While c body [] pos) (zA tc tb):=by
 intro M s k H D I h;obtain⟨W,⟨r,m⟩,turn⟩:=h;refine wpAny_While (codeAny_whileLoop (λn p=>∃B j,Inv X M B j p/\W n B j) ?_ r ⟨k,H,I,m⟩)
 rintro n s1 ⟨σ1,H1,I1,w1⟩
 refine Uz d (thn (t M s1 σ1 H1 _ I1 (turn n σ1 H1 w1)) λb o l=>?_);obtain⟨i,g,L⟩:=l;cases b with
 |true =>
  obtain⟨N,e,L⟩:=L;rw[bJ rfl];refine Uz d (thn (u M o σ1 i _ g L) λf v U=>?_);cases f with
  |next =>
   obtain⟨q,J,a,V⟩:=U;obtain⟨Y,Z,O⟩:=e q J V;exact⟨Y,Z,q,J,a,O⟩
  |cont =>
   obtain⟨q,J,a,V⟩:=U;obtain⟨Y,Z,O⟩:=e q J V;exact⟨Y,Z,q,J,a,O⟩
  |_=>exact U
 |false =>
  rw[bK Sn];exact V2 ⟨σ1,i,g,L⟩
end
structure It where
 go:Nat->Hp->Prop
 yld:Nat->Hp->V->Hp->Prop
 stop:Nat->Hp->Prop
def oZ(X:Cx)(zt:List (az×ao))(H:Hp)(b:az):Prop :=
 H b=af/\b≠X.env.locals/\b∉X.fs/\(b∈X.ex\/X.s₀.heap.objs.size<=b)/\(∀x c,X.env.cells.lookup x=aa c->c≠b)/\∀p∈X.pn++zt,p.1≠b
def Inv.Do(I:Inv X zt σ H s)(B:s.heap.objs.size<=b)(hn:H' b=af):oZ X zt H' b:=by
 refine⟨hn,SY (Se I.lt B),I.OG B,.inr (Sz I.sz B),λx c e z=>?_,λp D z=>?_⟩
 ·obtain⟨v,q⟩:=I.cell x c e;exact bL (Se q.lt (by rw[z];exact B)) (Te _)
 exact bL (Se (RL (I.pin p D).1) (by rw[z];exact B)) (Te _)
structure Turn(P:Sb)(w:SH)(K:RB)(tg:Wk)(J:It)(fp:List az)(it:az)(tn:Nat->aq->Prop):Prop where
 mem:it∈fp
 obj:∀i h,tn i h->∀b∈fp,∃o,h.get? b=aa o/\∀v,o.data≠.cell v
 keep:∀i h h',tn i h->(∀b∈fp,∀o,h.get? b=aa o->h'.get? b=aa o)->tn i h'
 item:∀(X:Cx),X.prog=P->X.w=w->X.K=K->X.calm=ah->∀(i:Nat)(zt:List (az×ao)) (s:RI) (σ:St) (H:Hp) (E:aA->RI->Prop),Inv X zt σ H s->(∀b∈fp,oZ X zt H b)->tn i s.heap->J.go i H →
  av (R6 P w) X.A (Vh (.ref it)) (λr s1=>∃ u,r=aa u ∧
   av (R6 P w) X.A (V5 tg (.ref it) u) (λ_ s2=>∃ x H',Inv X zt σ H' s2/\RelV x u/\J.yld i H x H'/\tn (i+1) s2.heap/\∀ b∈fp,H' b=af) E s1) E s
 done:∀(X:Cx),X.prog=P->X.w=w->X.K=K->X.calm=ah->∀(i:Nat)(zt:List (az×ao)) (s:RI) (σ:St) (H:Hp) (E:aA->RI->Prop),Inv X zt σ H s->(∀b∈fp,oZ X zt H b)->tn i s.heap->J.stop i H →
  av (R6 P w) X.A (Vh (.ref it)) (λr s1=>r=af/\Inv X zt σ H s1) E s
 self:∀(A:TJ)(i:Nat)(s:RI)(Q:aA->RI->Prop) (E:aA->RI->Prop),tn i s.heap->Q (.ref it) s->av (R6 P w) A (pyIter (.ref it)) Q E s
abbrev TI:=St->Hp->(It->Hp->Prop)->Prop
def PIE(X:Cx)(zt:List (az×ao))(σ:St)(tg:Wk)(R:It->Hp->Prop)(q:aA)(s2:RI):Prop :=
 ∃(L:az) (M:List az) (D:Nat->aq->Prop) (J:It) (B:Hp),q=.ref L/\Inv X zt σ B s2/\Turn X.prog X.w X.K tg J M L D/\D 0 s2.heap/\(∀b∈M,oZ X zt B b)/\R J B
def PI(X:Cx)(tg iter:Wk)(D:TI):Prop :=
 ∀(B:List (az×ao)) (s:RI) (q:St) (H:Hp) (R:It->Hp->Prop),Inv X B q H s->D q H R →
  av (R6 X.prog X.w) X.A (eval iter X.env) (λv J=>av (R6 X.prog X.w) X.A (pyIter v) (PIE X B q tg R) X.xe J) X.xe s
def vI{E:aA->RI->Prop}(B:s.heap.get? it=aa o)(D:o.cls=.type n)(hd:o.data=.fields vs)
(hn:["enumerate","zip","dict_itemiterator","dict_reverseitemiterator","odict_iterator","itertools.zip_longest","itertools.pairwise"].contains n=ai)(q:Q () s):av M A (V5 tg (.ref it) u) Q E s:=by
 unfold V5;cases tg<;>first
  |exact au q
  | (cases u<;>first
   |exact au q
   | (refine Rz (wpAny_load B ?_)
      rw[D,hd];show av M A (if (["enumerate","zip","dict_itemiterator","dict_reverseitemiterator","odict_iterator","itertools.zip_longest","itertools.pairwise"].contains n&&vs[0]?==aa (UL _))=ah then _ else _) Q E s;rw[bK (by intro h;rw[hn,Bool.false_and] at h;cases h)];exact au q))
noncomputable def Itl(K:RB)(a:az):It :=
 ⟨λi H=>∃q x,SqL K H a q/\q[i]?=aa x,λi H x B=>B=H/\∀q,SqL K H a q->q[i]?=aa x,λi H=>∃q,SqL K H a q/\q.length<=i⟩
noncomputable def Itt(K:RB)(a:az):It :=
 ⟨λi H=>∃q x,SqT K H a q/\q[i]?=aa x,λi H x B=>B=H/\∀q,SqT K H a q->q[i]?=aa x,λi H=>∃q,SqT K H a q/\q.length<=i⟩
noncomputable def Itr(lo:Int)(n:Nat):It:=⟨λi _=>i<n,λi H x q=>q=H/\x=.int (lo+i),λi _=>n<=i⟩
theorem xJ{K:RB}(a q:az):Turn P w K tg (Itl K a) [q] q (λi h=>h.IsListIter q a i) where
 mem:=by simp
 obj:=λi h st b B=>by
  have e:b=q:=by simpa using B
  subst e;obtain⟨o,e,c,d⟩:=st;exact⟨o,e,λv z=>by rw[d]at z;cases z⟩
 keep:=λi h M st k=>st.at λo e=>k q (by simp) o e
 item:=by intro X Y hw Z t i r s n H E I L st W;subst Y hw Z;obtain⟨y,x,J,V⟩:=W;obtain⟨U,O,p,F⟩:=I.list J;obtain⟨u,N,C⟩:=O.get V;obtain⟨m,l,Q,j,g,f⟩:=L q (by simp);refine wpAny_pyNext_list_item st p.isList (x:=u) (by simpa using N) λM D A=>?_;have S:Inv X r n H {s with heap:=M}:=I.turned (t':=s.toks) (λb o B e=>(A.2 b B).trans e) m l j g f;obtain⟨o,e,c,d⟩:=id D;exact⟨u,rfl,vI (s:={s with heap:=M}) e c d (by decide) ⟨x,H,S,C,⟨rfl,λT G=>by rw[I.rY G J];exact V⟩,D,λb B=>(L b B).1⟩⟩
 done:=by intro X Y hw Z t i r s n H E I L st W;subst Y hw Z;obtain⟨y,J,V⟩:=W;obtain⟨U,O,p,F⟩:=I.list J;obtain⟨m,l,Q,j,g,f⟩:=L q (by simp);have hl:=O.length;exact wpAny_pyNext_list_end (I.ok.hd t) st p.isList (by simp;lia) λM R=>⟨rfl,I.turned (t':=s.toks) (λb o B e=>R b o B e) m l j g f⟩
 self:=λ_ _ _ _ _ st h=>wpAny_pyIter_listiter st h
theorem uw{K:RB}(a B:az):Turn P w K tg (Itt K a) [B] B (λi h=>h.IsTupleIter B a i) where
 mem:=by simp
 obj:=λi h st b D=>by
  have e:b=B:=by simpa using D
  subst e;obtain⟨o,e,c,d⟩:=st;exact⟨o,e,λv z=>by rw[d]at z;cases z⟩
 keep:=λi h O st k=>st.at λo e=>k B (by simp) o e
 item:=by intro X Y hw Z t i r s n H E I M st W;subst Y hw Z;obtain⟨y,x,L,V⟩:=W;obtain⟨q,U,p,F⟩:=I.tuple L;obtain⟨u,N,C⟩:=U.get V;obtain⟨m,l,Q,j,g,f⟩:=M B (by simp);refine wpAny_pyNext_tuple_item st (show s.heap.IsTuple a q.toArray from p) (x:=u) (by simpa using N) λO J A=>?_;have S:Inv X r n H {s with heap:=O}:=I.turned (t':=s.toks) (λb o D e=>(A.2 b D).trans e) m l j g f;obtain⟨o,e,c,d⟩:=id J;exact⟨u,rfl,vI (s:={s with heap:=O}) e c d (by decide) ⟨x,H,S,C,⟨rfl,λT G=>by rw[I.xH G L];exact V⟩,J,λb D=>(M b D).1⟩⟩
 done:=by intro X Y hw Z t i r s n H E I M st W;subst Y hw Z;obtain⟨y,L,V⟩:=W;obtain⟨q,U,p,F⟩:=I.tuple L;obtain⟨m,l,Q,j,g,f⟩:=M B (by simp);have hl:=U.length;exact wpAny_pyNext_tuple_end (I.ok.hd t) st (show s.heap.IsTuple a q.toArray from p) (by simp;lia) λO R=>⟨rfl,I.turned (t':=s.toks) (λb o D e=>R b o D e) m l j g f⟩
 self:=λ_ _ _ _ _ st h=>wpAny_pyIter_tupleiter st h
theorem ux{K:RB}(q:az)(lo:Int)(n:Nat):Turn P w K tg (Itr lo n) [q] q (λi h=>IsRangeIter h q (lo+(i:Nat)*1) ((n:Int)-(i:Nat)) 1) where
 mem:=by simp
 obj:=λi h st b B=>by
  have e:b=q:=by simpa using B
  subst e;exact⟨_,st,λv z=>by have l:Data.fields _=Data.cell v:=z;cases l⟩
 keep:=λi h L st k=>k q (by simp) _ st
 item:=by intro X U hw V O i g s f H E I J st M;subst U hw V;obtain⟨d,c,r,a,Z,Y⟩:=J q (by simp);have W:=Walks.range (prog:=X.prog) (w:=X.w) (I.ok.hd O) q lo 1 n;refine W.item i s _ _ M st λv L j p D m=>?_;obtain⟨t,rfl⟩:=p;have x:Inv X g f H {s with heap:=L,toks:=j}:=I.turned (λb o B e=>m b o (by simpa using B) e) d c a Z Y;refine⟨_,rfl,vI (s:={s with heap:=L,toks:=j}) (n:="range_iterator") D rfl rfl (by decide) ⟨.int (lo+i),H,x,⟨t,?_⟩,⟨rfl,rfl⟩,D,λb B=>(J b B).1⟩⟩;rw[Int.mul_one]
 done:=by intro X U hw V O i g s f H E I J st M;subst U hw V;obtain⟨d,c,r,a,Z,Y⟩:=J q (by simp);exact wpAny_pyNext_range_end (I.ok.hd O) st (by have:n<=i:=M;lia) λL u=>⟨rfl,I.turned (t':=s.toks) (λb o B e=>u b o B e) d c a Z Y⟩
 self:=λ_ _ _ _ _ st h=>wpAny_pyIter_rangeiter st h
end L2
namespace L2
open PySem PySem.Spec PyProof.Rows
section
variable{X:Cx}{tg:Wk}
def La(K:RB)(tl:TE):TI:=fun B H R=>tl B H λx q=>∃a,x=.ref a/\(∃D,SqL K q a D)/\R (Itl K a) q
def OO(K:RB)(tl:TE):TI:=fun B H R=>tl B H λx q=>∃a,x=.ref a/\(∃D,SqT K q a D)/\R (Itt K a) q
def vJ(Y:PE X l tl):PI X tg l (La X.K tl):=by
 intro L s J H R I h;refine thn (Y L s J H _ I h) λv B M=>?_;obtain⟨x,c,D,O,U⟩:=M;obtain⟨a,e,⟨d,W⟩,q⟩:=U;subst e;cases O;obtain⟨V,f,p,g⟩:=D.list W;refine wpAny_pyIter_list p.isList ?_;refine⟨B.heap.objs.size,[B.heap.objs.size],_,_,c,rfl,D.aH (t':=B.toks) λb o e=>RC _ e,xJ a _,⟨_,RM _ rfl,rfl,rfl⟩,λb Z=>?_,q⟩;have e:b=B.heap.objs.size:=by simpa using Z
 subst e;exact D.Do (RQ _) (D.aJ.fresh (RQ _))
def G6(Y:PE X l tl):PI X tg l (OO X.K tl):=by
 intro M s L H R I h;refine thn (Y M s L H _ I h) λv B O=>?_;obtain⟨x,c,D,U,V⟩:=O;obtain⟨a,e,⟨d,W⟩,q⟩:=V;subst e;cases U;obtain⟨J,f,p,g⟩:=D.tuple W;refine WC (show B.heap.IsTuple a J.toArray from p) ?_;refine⟨B.heap.objs.size,[B.heap.objs.size],_,_,c,rfl,D.aH (t':=B.toks) λb o e=>RC _ e,uw a _,⟨_,RM _ rfl,rfl,rfl⟩,λb Z=>?_,q⟩;have e:b=B.heap.objs.size:=by simpa using Z
 subst e;exact D.Do (RQ _) (D.aJ.fresh (RQ _))
def r6{E:aA->RI->Prop}{lo:Int}(I:Inv X zt σ H s)(h1:-(2^62)<=lo)(h2:lo<2^62)(L:-(2^62)<=hi)(J:hi<2^62)
(q:R (Itr lo (hi-lo).toNat) H):av (R6 X.prog X.w) X.A (pyIter (.ref s.heap.objs.size)) (PIE X zt σ tg R) E {s with heap:=s.heap.push {cls:=.type "range",data:=.fields #[.int lo t,.int hi u,.int 1 v]},toks:=tk}:=by
 refine wpAny_pyIter_range (IsRange.new ..) (small_one h1 h2 L J) ?_;have B:Inv X zt σ H { s with heap:=s.heap.push { cls:=.type "range",data:=.fields #[.int lo t,.int hi u,.int 1 v] },toks:=tk }:=I.aH λb o e=>RC _ e;refine ⟨(s.heap.push { cls:=.type "range",data:=.fields #[.int lo t,.int hi u,.int 1 v] }).objs.size,[(s.heap.push { cls:=.type "range",data:=.fields #[.int lo t,.int hi u,.int 1 v] }).objs.size],_,_,H,rfl,
  B.aH (t':=tk) λb o e=>RC _ e,ux _ lo (hi - lo).toNat,?_,λb D=>?_,q⟩
 ·have e1:lo+((0:Nat):Int)*1=lo:=by simp
  have e2:(((hi-lo).toNat:Nat):Int)-((0:Nat):Int)=Builtin.Range.rangeSize lo hi 1:=by rw[rangeSize_one];split<;>lia
  show IsRangeIter _ _ (lo+((0:Nat):Int)*1) ((((hi-lo).toNat:Nat):Int)-((0:Nat):Int)) 1;rw[e1,e2];exact RM _ rfl
 ·have e:b=(s.heap.push {cls:=.type "range",data:=.fields #[.int lo t,.int hi u,.int 1 v]}).objs.size:=by simpa using D
  subst e;exact B.Do (RQ _) (B.aJ.fresh (RQ _))
def Lb(ta:TA):TI:=fun q H R=>ta q H λB D=>∃j:Int,B=[.int j]/\-(2^62)<=j/\j<2^62/\R (Itr 0 j.toNat) D
def Lc(ta:TA):TI:=fun q H R=>ta q H λB D=>∃i j:Int,B=[.int i,.int j]/\(-(2^62)<=i/\i<2^62/\-(2^62)<=j/\j<2^62)/\R (Itr i (j-i).toNat) D
def xK(V:Gl X "range")(U:X.mg "range"=af)(W:PA X [a] ta)(O:Sv [a] X.env=[(ai,eval a X.env)]:=by rfl):PI X tg (.Call (.Name "range" p) [a] [] pos) (Lb ta):=by
 intro J s D H R I h;refine Call_ (gH I V U boot_range (Ss (thn (W pos J s D H _ I h) λus s1 ⟨vs,H1,I1,r1,B⟩=>?_) O rfl));obtain⟨j,e,B,M,q⟩:=B;subst e;cases r1 with
 |cons r L =>
  cases L;obtain⟨t,rfl⟩:=r;exact call_range_1 (r6 I1 (by lia) (by lia) B M (by simpa using q))
def xM(c:Gl X "range")(Z:X.mg "range"=af)(d:PA X [a,b] ta)(Y:Sv [a,b] X.env=[(ai,eval a X.env),(ai,eval b X.env)]:=by rfl)(B:Sv [b] X.env=[(ai,eval b X.env)]:=by rfl):
 PI X tg (.Call (.Name "range" p) [a,b] [] pos) (Lc ta):=by
 intro M s L H R I h;refine Call_ (gH I c Z boot_range (Ss (thn (d pos M s L H _ I h) λus s1 ⟨vs,H1,I1,r1,J⟩=>?_) (by rw[Y,B]) (by rw[B];rfl)));obtain⟨i,j,e,⟨J,W,V,U⟩,q⟩:=J;subst e;cases r1 with
 |cons r D =>
  cases D with
  |cons O D =>
   cases D;obtain⟨t,rfl⟩:=r;obtain⟨f,rfl⟩:=O;exact call_range_2 (r6 I1 J W V U q)
def Ld(U:TI)(g:TG)(tb:TS):TS:=λD q H=>U q H λJ Y=>∃W:Nat->Nat->St->Hp->Prop,(∃m,W 0 m q Y)/\∀i m q H,W i m q H →
 (J.stop i H/\D.nx q H)\/(J.go i H/\∃N:St->Hp->Prop,(∀B L,N B L->∃O,O<m/\W (i+1) O B L)/\∀x L,J.yld i H x L->g x q L fun M V=>tb {D with nx:=N,ct:=N,bk:=D.nx} M V)
noncomputable def lM(fp:List az)(h:aq):List (az×ao):=fp.filterMap λb=>(h.get? b).map λo=>(b,o)
def i7(q:b∈fp)(e:h.get? b=aa o):(b,o)∈lM fp h:=List.mem_filterMap.mpr ⟨b,q,by rw[e];rfl⟩
def xN(B:p∈lM fp h):p.1∈fp/\h.get? p.1=aa p.2:=by
 obtain⟨b,D,e⟩:=List.mem_filterMap.mp B;cases q:h.get? b with
 |none=>rw[q]at e;cases e
 |some o =>
  rw[q]at e;have J:(b,o)=p:=RO e;subst J;exact⟨D,q⟩
def Inv.pinned(I:Inv X zt σ H s)(L:∀b∈fp,oZ X zt H b)(J:∀b∈fp,∃o,s.heap.get? b=aa o/\∀v,o.data≠.cell v):Inv X (zt++lM fp s.heap) σ H s :=
 I.mS λp D=>(List.mem_append.mp D).elim (λz=>I.pin p (SK _ z)) λz=>by obtain⟨q,e⟩:=xN z;obtain⟨U,O,M,_⟩:=L p.1 q;obtain⟨o,B,d⟩:=J p.1 q;rw[e]at B;cases B;exact⟨e,U,O,M,d⟩
def Inv.kM(I:Inv X (zt++pl) σ H s):Inv X zt σ H s:=I.mS λp q=>I.pin p (SK _ (Ux _ q))
def G7{G:TI}(j:XI (R6 X.prog X.w) X.A X.env X.xe)(R:X.calm=ah)(hi:PI X tg iter G)(hg:PG X tg g)(M:PSs X body tb)
(hs:∀x,foldedSetIterable iter X.env x=pure x:=by intro _;rfl):PS X (.For tg iter body [] pos) (Ld G g tb):=by
 intro Y s F H D I h;refine wpAny_For (thn (hi Y s F H _ I h) λv s1 h1=>thn h1 λitv s2 h2=>?_) hs;obtain⟨it,k,K,J,H2,e,I2,T,p,S,W,⟨m0,w0⟩,turn⟩:=h2;subst e;have L:∀{U:Hp},(∀b∈k,U b=af)->∀b∈k,oZ X Y U b:=λhn b M=>⟨hn b M,(S b M).2⟩;refine codeAny_forLoop_any (λn Q=>∃i B U,Inv X Y B U Q/\K i Q.heap/\(∀b∈k,U b=af)/\W i n B U) ?_ m0 ⟨0,F,H2,I2,p,λb M=>(S b M).1,w0⟩
 rintro n s3 ⟨i,σ3,H3,I3,st3,fr3,w3⟩
 rcases turn i n σ3 H3 w3 with⟨stop,qn⟩|⟨go,N,hN,step⟩
 ·refine Uz j (thn (T.done X rfl rfl rfl R i Y s3 σ3 H3 X.xe I3 (L fr3) st3 stop) λr s4 Z=>?_);obtain⟨z,I4⟩:=Z;subst z;exact V2 ⟨σ3,H3,I4,qn⟩
 ·refine Uz j (thn (T.item X rfl rfl rfl R i Y s3 σ3 H3 X.xe I3 (L fr3) st3 go) λr s4 Z=>?_);obtain⟨u,z,h4⟩:=Z;subst z;refine Uz j (thn h4 λ_ P Z=>?_);obtain⟨x,H5,I5,r5,y5,a,C⟩:=Z;have E:=I5.pinned (L C) (T.obj _ _ a);refine Uz j (thn (hg _ P σ3 H5 x u _ E r5 (step x H5 y5)) λ_ s6 Z=>?_);obtain⟨l,H6,I6,q6⟩:=Z;refine Uz j (thn (M _ s6 l H6 _ I6 q6) λf t c=>?_);have again:∀{q:St}{O:Hp},Inv X (Y++lM k P.heap) q O t->N q O->∃m,m<n/\∃i B U,Inv X Y B U t/\K i t.heap/\(∀b∈k,U b=af)/\W i m B U:=λ{q O} V y=>by obtain⟨m',hm,w7⟩:=hN q O y;refine⟨m',hm,i+1,q,O,V.kM,T.keep _ _ _ a λb M o e=>(V.pin (b,o) (SK _ (SK _ (i7 M e)))).1,λb M=>?_,w7⟩;obtain⟨o,e,d⟩:=T.obj _ _ a b M;exact(V.pin (b,o) (SK _ (SK _ (i7 M e)))).2.1
  cases f with
  |brk=>obtain⟨q,O,V,c⟩:=c;exact⟨q,O,V.kM,c⟩|ret v=>obtain⟨x7,q,O,V,r7,c⟩:=c;exact⟨x7,q,O,V.kM,r7,c⟩|_=>obtain⟨q,O,V,y⟩:=c;exact again V y
end
end L2
namespace L2
open PySem PySem.Spec PyProof.Rows
abbrev R2:=V->V->Hp->VK->Prop
def OpR(X:Cx)(f:aA->aA->Sem aA)(r:R2):Prop :=
 ∀(B:List (az×ao)) (s:RI) (q:St) (H:Hp) (x y:V) (v u:aA) (Q:VK),Inv X B q H s->RelV x v->RelV y u->r x y H Q →
  av (R6 X.prog X.w) X.A (f v u) (EP X B q Q) X.xe s
def UnR(X:Cx)(f:aA->Sem aA)(r:V->Hp->VK->Prop):Prop :=
 ∀(B:List (az×ao)) (s:RI) (q:St) (H:Hp) (x:V) (v:aA) (Q:VK),Inv X B q H s->RelV x v->r x H Q →
  av (R6 X.prog X.w) X.A (f v) (EP X B q Q) X.xe s
def eV(X:Cx)(f:aA)(r:List V->Hp->VK->Prop):Prop :=
 ∀(B:List (az×ao)) (s:RI) (q:St) (H:Hp) (D:List V) (J:List aA) (Q:VK),Inv X B q H s->dg D J->r D H Q →
  av (R6 X.prog X.w) X.A (call f J) (EP X B q Q) X.xe s
def tOp(r:R2)(ta tb:TE):TE:=fun q H Q=>ta q H λx D=>tb q D λy B=>r x y B Q
def tUn(r:V->Hp->VK->Prop)(ta:TE):TE:=fun q H Q=>ta q H λx B=>r x B Q
def rI(C:Int->Int->Prop)(g:Int->Int->V):R2:=λx y H Q=>∃i j,x=.int i/\y=.int j/\C i j/\Q (g i j) H
def rI0(g:Int->Int->V):R2:=λx y H Q=>∃i j,x=.int i/\y=.int j/\Q (g i j) H
def rU(g:Int->V):V->Hp->VK->Prop:=λx H Q=>∃i,x=.int i/\Q (g i) H
section
variable{X:Cx}{a b c:Wk}{ta tb tc:TE}{pos:Pos}
def G8(Z:PE X a ta)(Y:PE X b tb){zt:List (az×ao)}{s:RI}{σ:St}{H:Hp}{R:V->V->Hp->Prop}(I:Inv X zt σ H s)
(h:ta σ H λx H1=>tb σ H1 λy H2=>R x y H2){Q:aA->RI->Prop}{f:aA->aA->Sem aA}
(W:∀v u s2 x y H2,Inv X zt σ H2 s2->RelV x v->RelV y u->R x y H2->av (R6 X.prog X.w) X.A (f v u) Q X.xe s2):
 av (R6 X.prog X.w) X.A (eval a X.env) (λv B=>av (R6 X.prog X.w) X.A (eval b X.env) (λu q=>av (R6 X.prog X.w) X.A (f v u) Q X.xe q) X.xe B) X.xe s:=by
 refine thn (Z zt s σ H _ I h) λv J D=>?_;obtain⟨x,H1,d,M,U⟩:=D;refine thn (Y zt J σ H1 _ d U) λu s2 D=>?_;obtain⟨y,H2,c,L,O⟩:=D;exact W v u s2 x y H2 c M L O
def Lf{B:Wc}{r:R2}(U:OpR X (T8 B) r)(W:PE X a ta)(V:PE X b tb):PE X (.BinOp a B b pos) (tOp r ta tb):=by intro J s D H Q I h;exact wpAny_BinOp (G8 W V I h λv u L x y Z Y O M q=>U J L D Z x y v u Q Y O M q)
def Gn(D:UnR X (unaryOp op) r)(J:PE X a ta):PE X (.UnaryOp op a pos) (tUn r ta):=by intro B s q H Q I h;exact UnaryOp_ (thn (J B s q H _ I h) λv s1 ⟨x,H1,I1,r1,q1⟩=>D B s1 q H1 x v Q I1 r1 q1)
def opI{f:aA->aA->Sem aA}{C:Int->Int->Prop}{g:Int->Int->Int}
(rule:∀(i j:Int)(t u:Tok)(s:RI)(Q:aA->RI->Prop) (E:aA->RI->Prop),C i j->Q (.int (g i j) s.toks) {s with toks:=s.toks+1}->av (R6 X.prog X.w) X.A (f (.int i t) (.int j u)) Q E s):
 OpR X f (rI C λi j=>.int (g i j)):=by
 intro O s M H x y v u Q I J D h;obtain⟨i,j,rfl,rfl,L,q⟩:=h;obtain⟨t,rfl⟩:=J;obtain⟨B,rfl⟩:=D;exact rule i j t B s _ _ L ⟨.int (g i j),H,I.tok _,⟨_,rfl⟩,q⟩
def Lg{f:aA->aA->Sem aA}{g:Int->Int->Int}
(rule:∀(i j:Int)(t u:Tok)(s:RI)(Q:aA->RI->Prop) (E:aA->RI->Prop),Q (.int (g i j) s.toks) {s with toks:=s.toks+1}->av (R6 X.prog X.w) X.A (f (.int i t) (.int j u)) Q E s):
 OpR X f (rI0 λi j=>.int (g i j)):=by
 intro M s L H x y v u Q I J D h;obtain⟨i,j,rfl,rfl,q⟩:=h;obtain⟨t,rfl⟩:=J;obtain⟨B,rfl⟩:=D;exact rule i j t B s _ _ ⟨.int (g i j),H,I.tok _,⟨_,rfl⟩,q⟩
def Dp{f:aA->aA->Sem aA}{g:Int->Int->Bool}
(rule:∀(i j:Int)(t u:Tok)(s:RI)(Q:aA->RI->Prop) (E:aA->RI->Prop),Q (.bool (g i j)) s->av (R6 X.prog X.w) X.A (f (.int i t) (.int j u)) Q E s):
 OpR X f (rI0 λi j=>.bl (g i j)):=by
 intro M s L H x y v u Q I J D h;obtain⟨i,j,rfl,rfl,q⟩:=h;obtain⟨t,rfl⟩:=J;obtain⟨B,rfl⟩:=D;exact rule i j t B s _ _ ⟨.bl (g i j),H,I,rfl,q⟩
def OP(i j:Int):Prop:=0<j/\j<1073741824
def Dq(i j:Int):Prop:=(-(2^64)<i/\i<2^64)\/(-(2^64)<j/\j<2^64)
def Dq.ok(h:Dq i j):IntMulOk i j:=by
 rcases h with⟨B,q⟩|⟨B,q⟩
 exact .of_left (intBits_le_64 B q);exact .of_right (intBits_le_64 B q)
def G9:OpR X (T8 .Add) (rI0 λi j=>.int (i+j)):=Lg λ_ _ _ _ _ _ _ q=>add_int q
def Hf:OpR X (T8 .Sub) (rI0 λi j=>.int (i-j)):=Lg λ_ _ _ _ _ _ _ q=>sub_int q
def Hg:OpR X (T8 .Mult) (rI Dq λi j=>.int (i*j)):=opI λ_ _ _ _ _ _ _ B q=>mul_int q B.ok
def Dr:OpR X (T8 .FloorDiv) (rI OP λi j=>.int (i/j)):=opI λi j _ _ _ _ _ B q=>by have J:(0:Int)<j:=B.1;have D:j<1073741824:=B.2;exact floordiv_int (by lia) (by rw[Int.fdiv_eq_ediv_of_nonneg i (by lia)];exact q) (.inl (PyProof.noPylong_small (by lia)))
def Hh:OpR X (T8 .Mod) (rI (λ_ j=>0<j) λi j=>.int (i%j)):=opI λi j _ _ _ _ _ B q=>by have D:(0:Int)<j:=B;exact mod_int' (by lia) (by rw[Int.fmod_eq_emod_of_nonneg i (by lia)];exact q)
def unI{f:aA->Sem aA}{g:Int->Int}
(rule:∀(i:Int)(t:Tok)(s:RI)(Q:aA->RI->Prop) (E:aA->RI->Prop),Q (.int (g i) s.toks) {s with toks:=s.toks+1}->av (R6 X.prog X.w) X.A (f (.int i t)) Q E s):
 UnR X f (rU λi=>.int (g i)):=by
 intro J s D H x v Q I B h;obtain⟨i,rfl,q⟩:=h;obtain⟨t,rfl⟩:=B;exact rule i t s _ _ ⟨.int (g i),H,I.tok _,⟨_,rfl⟩,q⟩
def zC:UnR X (unaryOp .USub) (rU λi=>.int (-i)):=unI λ_ _ _ _ _ q=>neg_int q
end
section
variable{X:Cx}{a b c:Wk}{ta tb tc:TE}{pos:Pos}
def zD(I:Inv X zt σ H s)(q:Q (.bl k) H)(e:k=k'):EP X zt σ Q (.bool k') s:=by subst e;exact⟨.bl k,H,I,rfl,q⟩
def Lh:OpR X (Tf .Lt) (rI0 λi j=>.bl (decide (i<j))):=Dp λ_ _ _ _ _ _ _ q=>lt_int q
def Li:OpR X (Tf .LtE) (rI0 λi j=>.bl (decide (i<=j))):=Dp λ_ _ _ _ _ _ _ q=>le_int q
def Lj:OpR X (Tf .Gt) (rI0 λi j=>.bl (decide (j<i))):=Dp λ_ _ _ _ _ _ _ q=>gt_int q
def Lk:OpR X (Tf .GtE) (rI0 λi j=>.bl (decide (j<=i))):=Dp λ_ _ _ _ _ _ _ q=>ge_int q
def Hi:OpR X (Tf .Is) (λx y H Q=>y=.aD/\Q (.bl (decide (x=.aD))) H):=by
 intro L s J H x y v u Q I B D h;obtain⟨rfl,q⟩:=h;cases D;refine is_none_gen (zD I q ?_);cases x<;>first
  |(cases B;rfl)
  |(obtain⟨t,rfl⟩:=B;rfl)
def Ds:OpR X (Tf .IsNot) (λx y H Q=>y=.aD/\Q (.bl (!decide (x=.aD))) H):=by
 intro L s J H x y v u Q I B D h;obtain⟨rfl,q⟩:=h;cases D;refine isnot_none_gen (zD I q ?_);cases x<;>first
  |(cases B;rfl)
  |(obtain⟨t,rfl⟩:=B;rfl)
def Dt{B:CmpOp}{r:R2}(U:OpR X (Tf B) r)(Y:PE X a ta)(W:PE X b tb)(V:Yr B b=ai):PE X (.Compare a [B] [b] pos) (tOp r ta tb):=by intro J s D H Q I h;exact wpAny_Compare1 (G8 Y W I h λv u L x y c Z O M q=>U J L D c x y v u Q Z O M q) V
def zE(t:TE):TT:=fun q H Q=>t q H λx B=>∃k,x=.bl k/\Q k B
def Du(D:OpR X (Tf op) r)(M:PE X a ta)(L:PE X b tb)(J:Yr op b=ai):PT X (.Compare a [op] [b] pos) (zE (tOp r ta tb)):=by
 intro B s q H Q I h;refine wpAny_isTrue_Compare1 (thn (M B s q H _ I h) λv s1 ⟨x,H1,I1,r1,q1⟩=>thn (L B s1 q H1 _ I1 q1) λu s2 ⟨y,H2,I2,r2,q2⟩ =>
  thn (D B s2 q H2 x y v u _ I2 r1 r2 q2) λc s3 ⟨z,H3,I3,r3,k,e,q3⟩=>?_) J
 subst e;cases r3;exact TR ⟨H3,I3,q3⟩
def uy(r J:R2)(ta tb tc:TE):TE:=fun q H Q=>ta q H λx O=>tb q O λy M=>r x y M λz B=>∃k,z=.bl k ∧
 (if k=ah then tc q B λD L=>J y D L Q else Q (.bl ai) B)
def zF(J:OpR X (Tf op) r)(D:OpR X (Tf op') r')(U:PE X a ta)(O:PE X b tb)(M:PE X c tc)
(L:lastMarks [op,op'] [b,c]=ai:=by with_unfolding_all rfl):PE X (.Compare a [op,op'] [b,c] pos) (uy r r' ta tb tc):=by
 intro B s q H Q I h;refine Compare_chain (thn (U B s q H _ I h) λv s1 ⟨x,H1,I1,r1,q1⟩=>chain_link (thn (O B s1 q H1 _ I1 q1) λu s2 ⟨y,H2,I2,r2,q2⟩ =>
  thn (J B s2 q H2 x y v u _ I2 r1 r2 q2) λd s3 ⟨z,H3,I3,r3,k,e,q3⟩=>?_)) L
 subst e;cases r3;refine TR ?_;cases k with
 |false=>exact ite_ff ⟨.bl ai,H3,I3,rfl,q3⟩|true=>exact ite_tt (chain_last (thn (M B s3 q H3 _ I3 q3) λw' s4 ⟨z',H4,I4,r4,q4⟩=>D B s4 q H4 y z' u w' Q I4 r2 r4 q4))
def zG(U:OpR X (Tf op) r)(D:OpR X (Tf op') r')(Z:PE X a ta)(Y:PE X b tb)(W:PE X c tc)
(V:lastMarks [op,op'] [b,c]=ai:=by with_unfolding_all rfl):PT X (.Compare a [op,op'] [b,c] pos) (zE (uy r r' ta tb tc)):=by
 intro B s q H Q I h;refine isTrue_chain (thn (Z B s q H _ I h) λv s1 ⟨x,H1,I1,r1,q1⟩=>test_link (thn (Y B s1 q H1 _ I1 q1) λu s2 ⟨y,H2,I2,r2,q2⟩ =>
  thn (U B s2 q H2 x y v u _ I2 r1 r2 q2) λd s3 ⟨z,H3,I3,r3,k,e,q3⟩=>?_)) V
 subst e;cases r3;refine TR ?_;cases k with
 |false =>
  obtain⟨m,f,O⟩:=q3;cases f;exact ite_ff ⟨H3,I3,O⟩
 |true =>
  refine ite_tt (test_last (thn (W B s3 q H3 _ I3 q3) λw' s4 ⟨z',H4,I4,r4,q4⟩=>thn (D B s4 q H4 y z' u w' _ I4 r2 r4 q4) λn l J=>?_));obtain⟨j,i,g,L,k2,e2,M⟩:=J;subst e2;cases L;exact TR ⟨i,g,M⟩
def lN:(aj:Nat)<2^63:=by rw[Wo];decide
def uz:OpR X (T8 .Add) (λx y H Q=>∃i j,x=.str i/\y=.str j/\i.length+j.length<=aj/\Q (.str (i++j)) H):=by intro O s M H x y v u Q I J D h;obtain⟨i,j,rfl,rfl,L,q⟩:=h;obtain⟨t,rfl⟩:=J;obtain⟨B,rfl⟩:=D;exact add_str (λB U=>⟨.str (i++j),H,I.tok _,⟨_,rfl⟩,q⟩) L
def vals1(r:dg [x] us):∃u,us=[u]/\RelV x u:=by
 cases r with
 |cons B q=>cases q;exact⟨_,rfl,B⟩
def vals2(r:dg [x,y] us):∃u q,us=[u,q]/\RelV x u/\RelV y q:=by
 cases r with
 |cons L J =>
  cases J with
  |cons D B=>cases B;exact⟨_,_,rfl,L,D⟩
def xO(D:X.calm=ah):eV X (.builtin "max") (λxs H Q=>∃i j,xs=[.int i,.int j]/\Q (.int (if j>i then j else i)) H):=by
 intro L s J H xs O Q I r h;obtain⟨i,j,rfl,q⟩:=h;obtain⟨u,M,rfl,⟨t,rfl⟩,⟨V,rfl⟩⟩:=vals2 r;refine max_two_ints (I.ok.hd D) λW U k=>⟨_,H,I.aH k,?_,q⟩
 by_cases B:j>i
 rw[bJ B,bJ B];exact⟨_,rfl⟩;rw[bK B,bK B];exact⟨_,rfl⟩
def xP(D:X.calm=ah):eV X (.builtin "min") (λxs H Q=>∃i j,xs=[.int i,.int j]/\Q (.int (if j<i then j else i)) H):=by
 intro L s J H xs O Q I r h;obtain⟨i,j,rfl,q⟩:=h;obtain⟨u,M,rfl,⟨t,rfl⟩,⟨V,rfl⟩⟩:=vals2 r;refine min_two_ints (I.ok.hd D) λW U k=>⟨_,H,I.aH k,?_,q⟩
 by_cases B:j<i
 rw[bJ B,bJ B];exact⟨_,rfl⟩;rw[bK B,bK B];exact⟨_,rfl⟩
def pQ:eV X (.type "int") (λxs H Q=>(∃i,xs=[.int i]/\Q (.int i) H)\/∃k,xs=[.bl k]/\Q (.int (if k then 1 else 0)) H):=by
 intro J s D H xs L Q I r h;rcases h with⟨i,rfl,q⟩|⟨k,rfl,q⟩
 ·obtain⟨u,rfl,t,rfl⟩:=vals1 r;exact call_int_int ⟨.int i,H,I,⟨_,rfl⟩,q⟩
 ·obtain⟨u,rfl,B⟩:=vals1 r;cases B;exact call_int_bool ⟨.int (if k then 1 else 0),H,I.tok _,⟨_,rfl⟩,q⟩
end
end L2
namespace L2
open PySem PySem.Spec PyProof.Rows
structure uA(h:aq)(x dx C:az)(mA:ay->Option aA):Prop where
 obj:h.get? x=aa (T6 C dx)
 ns:h.Ns1 dx mA
 ne:dx≠x
def xQ{h:aq}{dx:az}{mA:ay->Option aA}(n:h.Ns1 dx mA):∃D,h.get? dx=aa D/\∀name,VH name D=aa (mA name):=by
 obtain⟨o,J,W,M,hd,U,_,O⟩:=n;refine⟨o,M,λname=>?_⟩;have e:=O name;unfold nsFind findBy at e;rw[←Array.find?_toList]at e;unfold VH;rw[hd];dsimp only;split
 ·rename_i y q;rw[q]at e;exact bR aa e
 ·rename_i q;rw[q]at e;have a:J.toList.any (·.refKey)=ai:=by rw[List.any_eq_false];intro y L;obtain⟨z,t,B⟩:=U y (Array.mem_toList_iff.mp L);simp[DictEntry.refKey,B]
  have V:¬J.toList.any (·.refKey)=ah:=by rw[a];exact Sn
  rw[bK V];exact bR aa e
def uA.look(I:uA h x dx C mA):∃q,PySem.W.InstAt h x (T6 C dx) C (aa q)/\∀name,VH name q=aa (mA name) :=
 let ⟨q,ho,hl⟩:=xQ I.ns
 ⟨q,⟨I.obj,rfl,rfl,ho⟩,hl⟩
section
variable{prog:Sb}{w:SH}{A:TJ}{E:aA->RI->Prop}{s:RI}{K:RB}{x dx C f:az}{mA:ay->Option aA}{name:ay}{v:aA}
def get_map(X:K.In s.heap)(I:uA s.heap x dx C mA)(M:UX K C name=ah)(L:Uk K C=ah)
(O:Sk K (.ref C) name=aa af)(B:mA name=aa v)(q:Yb v=ah)(h:Q v {s with toks:=s.toks+1}):
 av (R6 prog w) A (getAttr (.ref x) name expr) Q E s:=by
 obtain⟨U,J,D⟩:=I.look;exact PySem.W.get_value X J (VR M).1 (PySem.W.findObj_own L O rfl (by rw[D,B])) q h
def zH(X:K.In s.heap)(I:uA s.heap x dx C mA)(q:UX K C name=ah)
(O:Sk K (.ref C) name=aa (aa (.ref f)))(L:Vx K (.ref f)=ah)(D:mA name=af)(h:Q (.ref f,[.ref x]) s):
 av (R6 prog w) A (XA (.ref x) name pl) Q E s:=by
 obtain⟨B,J,M⟩:=I.look;exact PySem.W.method_fn X J (VR q).1 (VR q).2 O (beq_iff_eq.mp L) (by show(VH name B).map (·.isSome)=aa ai;rw[M,D];rfl) h
def Dv(X:K.In s.heap)(I:uA s.heap x dx C mA)
(Y:Sk K (.ref C) "__setattr__"=aa (aa (.builtin "object.__setattr__")))(Z:V8 K C=ah)(V:Wp K C name=aa af)(c:Uk K C=ah)
(hw:XG mA ns)(hsz:ns.length<=aj)
(h:∀h',uA h' x dx C (λy=>if y=name then aa v else mA y)->S7 dx s.heap h'->Q () {s with heap:=h',toks:=s.toks+2}):
 av (R6 prog w) A (setAttr (.ref x) name v) Q E s:=by
 obtain⟨g,J,j⟩:=I.look;refine PySem.W.set_plain X J Y (PySem.W.osa_open (s:={s with toks:=s.toks+1}) (r:=af) X J Z V λb=>?_);obtain⟨k,d,M⟩:=PySem.W.any_some c;have U:s.heap.get? x=aa ⟨.ref C,aa dx,.plain,#[]⟩:=I.obj;refine Rz (au (Rz (Rz (wpAny_loadPart U (Rz (PySem.W.Looks.here (s:={s with toks:=s.toks+1}) (PySem.W.looks_clsIn X d) ?_))))));rw[M];refine au (a:=aa dx) (Rz (au (Rz ?_)));refine wpAny_nsSet1 (s:={s with toks:=s.toks+1}) I.ns λh' B q=>?_;obtain⟨i,e,f,D,L,O⟩:=B.count (PySem.Within.cons name v hw);refine Rz (wpAny_lookBehind D (by rw[L];exact pastItsLine_dict (Sz O (by rw[RY];lia))) ?_);exact au (h _ ⟨(q.2 _ (SM I.ne)).trans I.obj,B,I.ne⟩ q)
def zI(X:K.In s.heap)(B:Wr K C=ah)
(hi:Sk K (.ref C) "__init__"=aa (aa (.ref f)))(D:PySem.W.typeIn K (.ref f)=aa (.type "function"))
(h:ak (R6 prog w) (A.under (.builtin "type.__call__" ⟨.ref C::vs,kw⟩)) (.call (.ref f) ⟨.ref (s.heap.objs.size+1)::vs,kw⟩) (PySem.W.InitBack (s.heap.objs.size+1) R)
  { s with heap:=(s.heap.push Tv).push (T6 C s.heap.objs.size) }):
 ak (R6 prog w) A (.call (.ref C) ⟨vs,kw⟩) R s:=by
 obtain⟨J,g,d,t,os⟩:=s;exact PySem.W.make_core (PySem.W.makes_of X B) (PySem.W.looks_findIn X hi) (λq=>PySem.W.bind_fn X q D) (.inl rfl) h
end
noncomputable def eB(f:ay)(v:V):List (ay×V)->List (ay×V)
 |[]=>[(f,v)]
 |(g,x)::r=>if g=f then(g,v)::r else(g,x)::eB f v r
theorem mq(f g:ay)(v:V):∀fs:List (ay×V),(eB f v fs).lookup g=if g=f then aa v else fs.lookup g
 |[]=>by
  show UF g [(f,v)]=_
  by_cases h:g=f
  ·have q:(g==f)=ah:=beq_iff_eq.mpr h;simp only[UF,q,bJ h]
  ·have q:(g==f)=ai:=beq_eq_false_iff_ne.mpr h;simp only[UF,q,bK h]
 |(k,x)::r=>by
  have D:=mq f g v r;rw[show eB f v ((k,x)::r)=(if k=f then(k,v)::r else(k,x)::eB f v r) from rfl]
  by_cases B:k=f
  ·rw[bJ B]
   by_cases h:g=k
   ·have q:(g==k)=ah:=beq_iff_eq.mpr h;simp only[UF,q,bJ (h.trans B)]
   ·have q:(g==k)=ai:=beq_eq_false_iff_ne.mpr h;simp only[UF,q,bK (λe:g=f=>h (e.trans B.symm))]
  ·rw[bK B]
   by_cases h:g=k
   ·have q:(g==k)=ah:=beq_iff_eq.mpr h;simp only[UF,q,bK (λe:g=f=>B (h.symm.trans e))]
   ·have q:(g==k)=ai:=beq_eq_false_iff_ne.mpr h;simp only[UF,q];exact D
theorem lO(f:ay)(v:V):∀fs:List (ay×V),f∈(eB f v fs).map (·.1)/\∀g,g∈fs.map (·.1)->g∈(eB f v fs).map (·.1)
 |[]=>⟨by simp[eB],λg h=>by simp at h⟩
 |(k,x)::r=>by
  obtain⟨D,B⟩:=lO f v r;rw[show eB f v ((k,x)::r)=(if k=f then(k,v)::r else(k,x)::eB f v r) from rfl]
  by_cases q:k=f
  ·rw[bJ q];subst q;exact⟨by simp,λg h=>by simpa using h⟩
  ·rw[bK q];refine⟨?_,λg h=>?_⟩
   ·rw[Sf];exact RP _ D
   ·rw[Sf]at h⊢;rcases List.mem_cons.mp h with e|e
    exact List.mem_cons.mpr (.inl e);exact RP _ (B g e)
theorem mz(f:ay)(v:V):∀fs:List (ay×V),(eB f v fs).length<=fs.length+1
 |[]=>by simp[eB]
 |(k,x)::r=>by
  have B:=mz f v r;rw[show eB f v ((k,x)::r)=(if k=f then(k,v)::r else(k,x)::eB f v r) from rfl]
  by_cases q:k=f
  rw[bJ q,RY,RY];lia;rw[bK q,RY,RY];lia
def nh.some_of(r:nh (aa v) o):∃u,o=aa u/\RelV v u:=by
 cases o with
 |none=>exact(show False from r).elim|some u=>exact⟨u,rfl,r⟩
def nh.none_of(r:nh af o):o=af:=by
 cases o with
 |none=>rfl|some u=>exact(show False from r).elim
def xR(r:RelV v u):Yb u=ah:=by
 cases v with
 |aD=>cases (show u=TL from r);rfl|bl b=>cases (show u=Vn b from r);rfl|int i=>obtain⟨t,e⟩:=(show ∃t,u=Vb i t from r);cases e;rfl|str x=>obtain⟨t,e⟩:=(show ∃t,u=XD x t from r);cases e;rfl|byt b=>obtain⟨t,e⟩:=(show ∃t,u=Value.bytes b t from r);cases e;rfl|flt b=>obtain⟨t,e⟩:=(show ∃t,u=Value.float b t from r);cases e;rfl|ref a=>cases (show u=SJ a from r);rfl|ty n=>cases (show u=Ur n from r);rfl
section
variable{P:Sb}{w:SH}{H H':Hp}{h h':aq}{a C dx:az}{fs fs':List (ay×V)}
def kN(D:HOk P w H h)(e:H a=aa (.ins C dx fs)):∃mA,uA h a dx C mA/\(∀f,nh (fs.lookup f) (mA f))/\XG mA (fs.map (·.1))/\fs.length<=1000/\H dx=aa (.own a):=by obtain⟨d,z,B,ob,mA,n,r,q⟩:=(show gC P w H h a (.ins C dx fs) from D a _ e);exact⟨mA,⟨ob,n,B⟩,r,q,z,d⟩
end
structure Cls(K:RB)(C:az):Prop where
 pg:UX K C Str.empty=ah
 hd:Uk K C=ah
 po:V8 K C=ah
 sa:Sk K (.ref C) "__setattr__"=aa (aa (.builtin "object.__setattr__"))
def Cls.get{K:RB}(c:Cls K C)(f:ay):UX K C f=ah:=c.pg
def jy(K:RB)(C:az)(f:ay):Prop:=Sk K (.ref C) f=aa af
def jy.Ll{K:RB}(n:jy K C f):Wp K C f=aa af:=by unfold Wp;rw[show Sk K (.ref C) f=aa af from n];rfl
structure zJ(K:RB)(C:az)(m:ay)(f:az):Prop where
 at_:Sk K (.ref C) m=aa (aa (.ref f))
 fn:Vx K (.ref f)=ah
 kp:Tw K (.ref f)=ah
section
variable{X:Cx}{zt:List (az×ao)}{σ:St}{H:Hp}{s:RI}{a C dx:az}{fs:List (ay×V)}{f:ay}{v:V}{A:TJ}{E:aA->RI->Prop}
def nk(I:Inv X zt σ H s)(e:H a=aa (.ins C dx fs))(c:Cls X.K C)(n:jy X.K C f)(l:fs.lookup f=aa v)
(h:∀u s',Inv X zt σ H s'->RelV v u->Q u s'):av (R6 X.prog X.w) A (getAttr (.ref a) f b) Q E s:=by
 obtain⟨B,O,r,_,_,_⟩:=kN I.aJ e;obtain⟨u,D,q⟩:=nh.some_of (v:=v) (o:=B f) (by rw[←l];exact r f);exact get_map I.kIn O (c.get f) c.hd n D (xR q) (h u _ (I.tok _) q)
def nq(I:Inv X zt σ H s)(e:H a=aa (.ins C dx fs))(c:Cls X.K C)(k:zJ X.K C m g)(l:fs.lookup m=af)
(h:Q (.ref g,[.ref a]) s):av (R6 X.prog X.w) A (XA (.ref a) m pl) Q E s:=by
 obtain⟨q,O,r,_,_,_⟩:=kN I.aJ e;have hn:q m=af:=nh.none_of (by rw[←l];exact r m);exact zH I.kIn O (c.get m) k.at_ k.fn hn h
def nt(I:Inv X zt σ H s)(e:H a=aa (.ins C dx fs))(c:Cls X.K C)(n:jy X.K C f)(d:fs.length<1000)(U:RelV y u)
(h:∀s',Inv X zt σ (upd H a (.ins C dx (eB f y fs))) s'->Q () s'):av (R6 X.prog X.w) A (setAttr (.ref a) f u) Q E s:=by
 obtain⟨J,O,r,D,_,L⟩:=kN I.aJ e;have V:(fs.map (·.1)).length<=aj:=by rw[RX,Wo];lia
 refine Dv I.kIn O c.sa c.po n.Ll c.hd D V λZ B M=>h _ ?_;have hd:∃o,Z.get? dx=aa o:=let ⟨o,_,_,e',_⟩:=B.ns;⟨o,e'⟩;refine I.write (x:=a) (e:=dx) (by rw[e];exact UG) (.inr L) (λb q Y z=>(M.2 b Y).trans z) hd ?_;refine⟨by rw[dB O.ne];exact L,?_,O.ne,B.obj,_,B.ns,λg=>?_,λg W=>?_⟩;have:=mz f y fs;lia
 ·show nh ((eB f y fs).lookup g) (if g=f then aa u else J g);rw[mq]
  by_cases q:g=f
  rw[bJ q,bJ q];exact U;rw[bK q,bK q];exact r g
 ·by_cases q:g=f
  rw[q];exact(lO f y fs).1
  ·refine(lO f y fs).2 g (D g λz=>W ?_);show(if g=f then aa u else J g)=af;rw[bK q];exact z
def Inv.made(I:Inv X zt σ H s):Inv X zt σ (upd (upd H s.heap.objs.size (.own (s.heap.objs.size+1))) (s.heap.objs.size+1) (.ins C s.heap.objs.size []))
 {s with heap:=(s.heap.push Tv).push (T6 C s.heap.objs.size)}:=by
 have e1:(s.heap.push Tv).get? s.heap.objs.size=aa Tv:=RM s.heap rfl;have e2:((s.heap.push Tv).push (T6 C s.heap.objs.size)).get? (s.heap.objs.size+1)=aa (T6 C s.heap.objs.size):=by
  have:=RM (s.heap.push Tv) (o:=T6 C s.heap.objs.size) rfl
  rwa [SE]at this
 have L:(s.heap.push Tv).Ns s.heap.objs.size (λ_=>af):=⟨Tv,#[],_,e1,rfl,(λe J=>bL J (by simp)),λ_=>rfl⟩;have M:=I.laid (a:=s.heap.objs.size) (o:=.own (s.heap.objs.size+1)) (h':=s.heap.push Tv) (t':=s.toks) (λb u q=>RC _ q) (RQ _) ⟨_,e1⟩;refine M.laid (a:=s.heap.objs.size+1) (o:=.ins C s.heap.objs.size []) (t':=s.toks) (λb u q=>RC _ q) (Nat.le_of_eq (SE _ _)) ?_;have B:s.heap.objs.size≠s.heap.objs.size+1:=Si (T4 _);refine⟨by rw[dB B,d9],SV _,B,e2,λ_=>af,(Heap.Ns1.of_empty L).at λo q=>RC _ q,λ_=>UG,λy D=>bL rfl D⟩
def Dw(B:VQ e f env (eval e env)=eval e env)
(h:av (R6 prog w) A (eval e env) (λo q=>av (R6 prog w) A (getAttr o f ah) Q E q) E s):av (R6 prog w) A (eval (.Attribute e f pos) env) Q E s :=
 Attribute_any_ h (by rw[arm_eval_Attribute,B])
end
def OQ(K:RB)(ta:TE)(f:ay):TE:=fun B H Q=>ta B H λx q=>∃a C D fs v,x=.ref a/\q a=aa (.ins C D fs)/\Cls K C/\jy K C f/\fs.lookup f=aa v/\Q v q
def Lm(K:RB)(ta tv:TE)(f:ay):TS:=λD q H=>tv q H λy L=>ta q L λx J=>∃a C B fs,x=.ref a/\J a=aa (.ins C B fs)/\Cls K C/\jy K C f/\fs.length<1000 ∧
 D.nx q (upd J a (.ins C B (eB f y fs)))
def OR(X:Cx)(D:Wc)(rd:V->V->Hp->VK->Prop):Prop :=
 ∀(B:List (az×ao)) (s:RI) (q:St) (H:Hp) (x y:V) (u v:aA) (Q:VK),Inv X B q H s->RelV x u->RelV y v->rd x y H Q->av (R6 X.prog X.w) X.A (inplaceOp D u v) (EP X B q Q) X.xe s
def vK(K:RB)(ta tv:TE)(rd:V->V->Hp->VK->Prop)(f:ay):TS:=λD J H=>ta J H λx M=>∃a C O fs v,x=.ref a/\M a=aa (.ins C O fs)/\Cls K C/\jy K C f/\fs.lookup f=aa v ∧
 tv J M λy U=>rd v y U λz L=>∃B q,L a=aa (.ins C B q)/\q.length<1000/\D.nx J (upd L a (.ins C B (eB f z q)))
section
variable{X:Cx}{o e value:Wk}{f:ay}{pos pos' tpos:Pos}{ta tv:TE}
def Hj(O:PE X e ta)(U:VQ e f X.env (eval e X.env)=eval e X.env):PE X (.Attribute e f pos) (OQ X.K ta f):=by intro D s B H Q I h;refine Dw U (thn (O D s B H _ I h) λu g J=>?_);obtain⟨x,Z,Y,L,a,C,i,fs,v,ex,V,c,n,l,q⟩:=J;subst ex;obtain rfl:u=SJ a:=L;exact nk Y V c n l λb d W M=>⟨v,Z,W,M,q⟩
def Hl(O:PE X o ta)(L:PE X value tv)(M:Vl value (aa (.Attribute o f pos')) pos.line X.env=pure ai):PS X (.Assign [.Attribute o f pos'] value pos) (Lm X.K ta tv f):=by intro J s B H D I h;refine plainObj_wpAny_Assign_Attribute (thn (L J s B H _ I h) λu s1 ⟨y,H1,I1,ry,q⟩=>thn (O J s1 B H1 _ I1 q) λov s2 ⟨x,H2,I2,rx,a,C,dx,fs,ex,ea,c,n,l,q2⟩=>?_) M;subst ex;obtain rfl:ov=SJ a:=rx;exact nt I2 ea c n l ry λV U=>⟨B,_,U,q2⟩
def xS{rd:V->V->Hp->VK->Prop}(i:PE X o ta)(g:PE X value tv)(M:OR X op rd):PS X (.AugAssign (.Attribute o f tpos) op value pos) (vK X.K ta tv rd f):=by intro J s B H D I h;refine wpAny_AugAssign_AttributeAny (thn (i J s B H _ I h) λd N L=>?_);obtain⟨x,A,w,Y,a,C,P,fs,v,ex,k,c,n,l,q⟩:=L;subst ex;obtain rfl:d=SJ a:=Y;refine nk w k c n l λu U t Z=>thn (g J U B A _ t q) λw3 s3 ⟨y,H2,I3,ry,q3⟩=>thn (M J s3 B H2 v y u w3 _ I3 Z ry q3) λE G L=>?_;obtain⟨z,Q,r,W,m,j,O,e,b⟩:=L;exact nt r O c n e W λF p=>⟨B,_,p,b⟩
end
section
variable{X:Cx}{zt:List (az×ao)}{σ:St}{H:Hp}{s:RI}{A:TJ}{E:aA->RI->Prop}{Q:aA->RI->Prop}{c:aA}{b:Bool}
end
end L2
namespace L2
open PySem PySem.Spec PyProof.Rows
structure fQ(k:Nat)(A:TJ):Prop where
 hd:A.handled=af
 dp:A.depth+3*k+5<recursionLimit
 un:A.units+16*k+200<cLine
def fQ.mono(r:fQ k A)(h:j<=k):fQ j A:=⟨r.hd,by have:=r.dp;lia,by have:=r.un;lia⟩
def fQ.deeper(r:fQ (k+1) A)(env:Env):fQ k (A.deeper env) :=
 ⟨r.hd,by have:=r.dp;show A.depth+1+3*k+5<_;lia,by have:=r.un;show A.units+3+16*k+200<_;lia⟩
def uB{A:TJ}{C:az}{us:List aA}{kw:List (ay×aA)}:(A.under (.builtin "type.__call__" ⟨.ref C::us,kw⟩)).depth=A.depth+1:=by first|rfl|simp[Xw,Code.weight,Code.isCreation,Code.isGuard,Code.isCaller,Code.frames,XU,guardIds]
def uC{A:TJ}{C:az}{us:List aA}{kw:List (ay×aA)}:(A.under (.builtin "type.__call__" ⟨.ref C::us,kw⟩)).units=A.units+1:=by first|rfl|simp[Xw,Code.cUnits,Code.frames,XU]
def fQ.make(r:fQ (k+1) A)(C:az)(us:List aA)(kw:List (ay×aA)):fQ k (A.under (.builtin "type.__call__" ⟨.ref C::us,kw⟩)) :=
 ⟨r.hd,by have:=r.dp;rw[uB];lia,by have:=r.un;rw[uC];lia⟩
def fQ.depth(r:fQ k A):A.depth<recursionLimit:=by have:=r.dp;lia
def zK:TA:=λ_ H Q=>Q [] H
def Gp(ta:TE)(tr:TA):TA:=fun q H Q=>ta q H λx J=>tr q J λB D=>Q (x::B) D
section
variable{X:Cx}{e:Wk}{es:List Wk}{te:TE}{t:TA}{pos:Pos}
def qz:PA X [] zK:=λ_ _ _ _ H Q I h=>Vq ⟨[],H,I,.nil,h⟩
def jT(W:PE X e te)(V:PA X es t)(U:Sv (e::es) X.env=(ai,eval e X.env)::Sv es X.env:=by rfl):PA X (e::es) (Gp te t):=by intro q D s B H Q I h;rw[U];show av _ _ (spliced ((ai,eval e X.env)::UW q (Sv es X.env))) _ _ s;refine Vi (thn (W D s B H _ I h) λu L J=>?_);obtain⟨x,Z,Y,M,O⟩:=J;exact thn (V q D L B Z _ Y O) λus s2 ⟨xs,H2,I2,r2,q2⟩=>⟨x::xs,H2,I2,.cons M r2,q2⟩
def Ln(t:TA):TE:=fun D H Q=>t D H λq B=>q.length<=aj/\∀p,B p=af->Q (.ref p) (upd B p (.aC q))
def Ho(t:TA):TE:=fun D H Q=>t D H λq B=>q.length<=aj/\∀p,B p=af->Q (.ref p) (upd B p (.aB q))
def Hq{x1}(h:PA X es t):PE X (.Tuple es x1 pos) (Ln t):=by intro D s B H Q I J;refine wpAny_Tuple_spliced (thn (h pos D s B H _ I J) λus s1 ⟨xs,H1,I1,r,z,q⟩=>⟨by rw[←r.length];exact z,?_⟩);have L:H1 s1.heap.objs.size=af:=I1.aJ.fresh (RQ _);refine⟨.ref s1.heap.objs.size,upd H1 s1.heap.objs.size (.aC xs),I1.laid (t':=s1.toks) (λb u e=>RC _ e) (RQ _) ?_,rfl,q _ L⟩;exact⟨z,us,r,⟨_,RM _ rfl,rfl,_,rfl⟩⟩
def zL(h:PA X es t):PE X (.List es pos) (Ho t):=by intro D s B H Q I J;refine wpAny_List_spliced (thn (h pos D s B H _ I J) λus s1 ⟨xs,H1,I1,r,z,q⟩=>⟨by rw[←r.length];exact z,?_⟩);have L:H1 s1.heap.objs.size=af:=I1.aJ.fresh (RQ _);refine⟨.ref s1.heap.objs.size,upd H1 s1.heap.objs.size (.aB xs),I1.laid (t':=s1.toks) (λb u e=>RC _ e) (RQ _) ?_,rfl,q _ L⟩;exact⟨z,us,0,r,RM _ rfl⟩
end
abbrev Sp:=List V->Hp->VK->XK->Prop
abbrev CXT:=List Env->Hp->RI->XK->aA->RI->Prop
structure r8(P:Sb)(w:SH)(K:RB)(mg:ay->Option aA)(base:aq)(A:TJ)(outer:List Env)(s:RI)(H:Hp):Prop where
 frames:A.frames=aa outer
 mod:Mod K mg base
 bs:∀b o,base.get? b=aa o->s.heap.get? b=aa o/\H b=af
 bsz:base.objs.size<=s.heap.objs.size
 kK:s.heap.FunFrames base outer
 frf:∀b∈frs outer,H b=af
 aJ:HOk P w H s.heap
 bare:XQ s.gens
inductive CE(outer:List Env)(P:Sb)(w:SH)(H:Hp)(s:RI)(Q:VK)(u:aA)(s':RI):Prop
 |mk(v:V)(H':Hp)(os:s'.os=s.os)(b:XQ s'.gens)(un:Un (frs outer) [] H H' s.heap s'.heap)(B:HOk P w H' s'.heap)(r:RelV v u)(q:Q v H'):CE outer P w H s Q u s'
def CR(CX:CXT)(outer:List Env)(P:Sb)(w:SH)(H:Hp)(s:RI)(Q:VK)(E:XK)(r:XF)(s':RI):Prop :=
 match r with
 |.ok (.ret u)=>CE outer P w H s Q u s'|.ok _=>False|.error e=>CX outer H s E e s'
structure i8(P:Sb)(w:SH)(K:RB)(mg:ay->Option aA)(base:aq)(CX:CXT)(k:Nat)(f:az)(fd:Uv)(ps:List ay)(sp:Sp):Prop where
 len:∀vs H Q E,sp vs H Q E->vs.length=ps.length
 run:∀(A:TJ)(outer:List Env)(s:RI)(H:Hp) (args:Args) (us:List aA) (vs:List V) (Q:VK) (E:XK),fQ k A->r8 P w K mg base A outer s H->BindsTo s fd args (ps.zip us)->dg vs us->sp vs H Q E →
  ak (R6 P w) A (.call (.ref f) args) (CR CX outer P w H s Q E) s
def r8.make{K:RB}(e:r8 P w K mg base A outer s H)(C:az)(us:List aA)(kw:List (ay×aA)):
 r8 P w K mg base (A.under (.builtin "type.__call__" ⟨.ref C::us,kw⟩)) outer s H:=⟨by first|exact e.frames|(simpa [Xw,Code.envs,XU,pushEnvs]using e.frames),e.mod,e.bs,e.bsz,e.kK,e.frf,e.aJ,e.bare⟩
section
variable{X:Cx}{zt:List (az×ao)}{σ:St}{H:Hp}{s s':RI}
def Inv.Lo(I:Inv X zt σ H s):r8 X.prog X.w X.K X.mg X.base X.A X.stack s H :=
 ⟨I.ok.frames,I.ok.mod,I.bs,Sz I.ok.bsz I.sz,I.stack,I.vF,I.aJ,I.bare⟩
def Inv.after(I:Inv X zt σ H s)(h:CE X.stack X.prog X.w H s Q u s'):EP X zt σ Q u s':=by obtain⟨v,M,os,B,un,L,r,q⟩:=h;obtain⟨J,g,d,t,D⟩:=s';obtain rfl:D=s.os:=os;exact⟨v,M,I.call (h':=J) (g':=g) (d':=d) (t':=t) (ch:=[]) un L B (λb z=>bL z (by simp)),r,q⟩
end
def vL(sp:Sp)(dvs:List V)(E:XK)(t:TA):TE:=fun q H Q=>t q H λB D=>sp (B++dvs) D Q E
def zM(C:az)(m:ay)(sp:Sp)(dvs:List V)(E:XK)(ta:TE)(t:TA):TE:=fun q H Q=>ta q H λx B=>∃a J fs,x=.ref a/\B a=aa (.ins C J fs)/\fs.lookup m=af ∧
 t q B λD L=>sp (x::(D++dvs)) L Q E
def zN(C:az)(sp:Sp)(dvs:List V)(E:XK)(t:TA):TE:=fun D H Q=>t D H λJ B=>∀x q,B x=af->B q=af->q≠x →
 sp (.ref x::(J++dvs)) (upd (upd B q (.own x)) x (.ins C q [])) (λv L=>v=.aD/\Q (.ref x) L) E
def Binds(K:RB)(fd:Uv)(ps:List ay)(ds:List aA):Prop :=
 ∀(s:RI)(q:List aA),K.In s.heap->(q++ds).length=ps.length->BindsTo s fd ⟨q,[]⟩ (ps.zip (q++ds))
def Binds.all{K:RB}(h:∀us:List aA,us.length=ps.length->Yq fd ⟨us,[]⟩=pure (ps.zip us)):Binds K fd ps []:=λs us _ q=>by rw[Tt]at q⊢;exact .of_eq (h us q)
def i9(CX:CXT)(X:Cx)(E:XK):Prop:=∀(D:List (az×ao)) (B:St) (H:Hp) (s:RI) (e:aA) (q:RI),Inv X D B H s->CX X.stack H s E e q->X.xe e q
section
variable{X:Cx}{CX:CXT}{k:Nat}{f C:az}{fd:Uv}{ps:List ay}{sp:Sp}{dvs:List V}{ds:List aA}{E:XK}{x m:ay}{p pos apos:Pos}{e o:Wk}{es:List Wk}{ta:TE}{t:TA}
def nu(F:i8 X.prog X.w X.K X.mg X.base CX k f fd ps sp)(L:fQ k X.A)(O:Binds X.K fd ps ds)(hd:dg dvs ds)(J:i9 CX X E)
(I:Inv X zt σ H s)(r:dg vs us)(h:sp (vs++dvs) H Q E):av (R6 X.prog X.w) X.A (call (.ref f) us) (EP X zt σ Q) X.xe s:=by
 have B:dg (vs++dvs) (us++ds):=r.append hd;have M:(us++ds).length=ps.length:=by rw[←B.length];exact F.len _ _ _ _ h
 refine WW (codeAny_mono (F.run X.A X.stack s H ⟨us,[]⟩ (us++ds) (vs++dvs) Q E L I.Lo (O s us I.kIn M) B h) λr D q=>?_);cases r with
 |error e=>exact J zt σ H s e D I q
 |ok U =>
  cases U with
  |ret u=>exact I.after q|_=>exact TY q
def Dy(F:i8 X.prog X.w X.K X.mg X.base CX k f fd ps sp)(O:fQ k X.A)(W:Gl X x)(U:X.mg x=aa (.ref f))(V:Tw X.K (.ref f)=ah)(Z:Binds X.K fd ps ds)(hd:dg dvs ds)(M:i9 CX X E)
(a:PA X (e::es) t)(D:(x==("__debug__":ay))=ai:=by decide)(Y:Sv (e::es) X.env=(ai,eval e X.env)::Sv es X.env:=by rfl)(B:(UW pos (Sv es X.env)).any (·.1)=ai:=by rfl):
 PE X (.Call (.Name x p) (e::es) [] pos) (vL sp dvs E t):=by
 intro L s J H Q I h;refine Ut (kL I W U ?_ D);refine Vd (h₀:=X.base) I.ok.mod.kin V (thn (a pos L s J H _ I h) λus s1 ⟨vs,H1,I1,r,q⟩=>⟨I1.kIn,?_⟩) Y B;exact nu F O Z hd M I1 r q
def zO(F:i8 X.prog X.w X.K X.mg X.base CX k f fd ps sp)(D:fQ k X.A)(M:Gl X x)(J:X.mg x=aa (.ref f))(L:Tw X.K (.ref f)=ah)(O:Binds X.K fd ps ds)(hd:dg dvs ds)(B:i9 CX X E)
(q:(x==("__debug__":ay))=ai:=by decide):PE X (.Call (.Name x p) [] [] pos) (vL sp dvs E zK):=by
 intro V s U H Q I h;refine Ut (kL I M J ?_ q);exact VS I.kIn L (nu (us:=[]) F D O hd B I .nil h)
def Dz(W:PE X o ta)(c:Cls X.K C)(M:zJ X.K C m f)(F:i8 X.prog X.w X.K X.mg X.base CX k f fd ps sp)(V:fQ k X.A)(Y:Binds X.K fd ps ds)(hd:dg dvs ds)(O:i9 CX X E)(Z:PA X (e::es) t)
(B:Sv (e::es) X.env=(ai,eval e X.env)::Sv es X.env:=by rfl)(D:(UW pos (Sv es X.env)).any (·.1)=ai:=by rfl)
(U:eval (.Call (.Attribute o m apos) (e::es) [] pos) X.env=(do
  let ov ←eval o X.env
  Xz apos.atName
  let (f,first) ←VP [ov] (XA ov m pl)
  callWith pos f first (UW pos (Sv (e::es) X.env)) (Xo pos (VO [] X.env))):=by rfl):
 PE X (.Call (.Attribute o m apos) (e::es) [] pos) (zM C m sp dvs E ta t):=by
 intro L s J H Q I h;refine Vw (pl:=pl) (thn (W L s J H _ I h) λu s1 ⟨x,H1,I1,rx,a,dx,fs,ex,ea,l,q⟩=>?_) U;subst ex;obtain rfl:u=SJ a:=rx;refine nq I1 ea c M l ?_;refine Vd (first:=[.ref a]) (h₀:=X.base) I.ok.mod.kin M.kp (thn (Z pos L s1 J H1 _ I1 q) λus s2 ⟨vs,H2,I2,r,q2⟩=>⟨I2.kIn,?_⟩) B D;exact nu (us:=.ref a::us) (vs:=.ref a::vs) F V Y hd O I2 (.cons rfl r) q2
def zP(U:PE X o ta)(c:Cls X.K C)(B:zJ X.K C m f)(F:i8 X.prog X.w X.K X.mg X.base CX k f fd ps sp)(O:fQ k X.A)(V:Binds X.K fd ps ds)(hd:dg dvs ds)(L:i9 CX X E)
(M:eval (.Call (.Attribute o m apos) [] [] pos) X.env=(do
  let ov ←eval o X.env
  Xz apos.atName
  let (f,first) ←VP [ov] (XA ov m pl)
  callWith pos f first (UW pos (Sv [] X.env)) (Xo pos (VO [] X.env))):=by rfl):
 PE X (.Call (.Attribute o m apos) [] [] pos) (zM C m sp dvs E ta zK):=by
 intro J s D H Q I h;refine Vw (pl:=pl) (thn (U J s D H _ I h) λu s1 ⟨x,H1,I1,rx,a,dx,fs,ex,ea,l,q⟩=>?_) M;subst ex;obtain rfl:u=SJ a:=rx;refine nq I1 ea c B l ?_;exact VS (first:=[.ref a]) I1.kIn B.kp (nu (us:=[.ref a]) (vs:=[.ref a]) F O V hd L I1 (.cons rfl .nil) q)
structure Mk(K:RB)(C f:az):Prop where
 makes:Wr K C=ah
 init:Sk K (.ref C) "__init__"=aa (aa (.ref f))
 fn:Vx K (.ref f)=ah
 kp:Tw K (.ref C)=ah
def r9(M:Mk X.K C f)(F:i8 X.prog X.w X.K X.mg X.base CX k f fd ps sp)(Y:fQ (k+1) X.A)(a:Binds X.K fd ps ds)(hd:dg dvs ds)
(W:i9 CX X E)(I:Inv X zt σ H s)(r:dg vs us)
(h:∀x dx,H x=af->H dx=af->dx≠x->sp (.ref x::(vs++dvs)) (upd (upd H dx (.own x)) x (.ins C dx [])) (λv H2=>v=.aD/\Q (.ref x) H2) E):
 av (R6 X.prog X.w) X.A (call (.ref C) us) (EP X zt σ Q) X.xe s:=by
 have J:=h (s.heap.objs.size+1) s.heap.objs.size (I.aJ.fresh (TF _)) (I.aJ.fresh (RQ _)) (Si (T4 _));have B:=Inv.made (C:=C) I;have D:dg (V.ref (s.heap.objs.size+1)::(vs++dvs)) (SJ (s.heap.objs.size+1)::(us++ds)):=.cons rfl (r.append hd);have Z:(SJ (s.heap.objs.size+1)::us++ds).length=ps.length:=by have e:=D.length;rw[F.len _ _ _ _ J]at e;exact e.symm
 refine WW (zI (f:=f) I.kIn M.makes M.init (beq_iff_eq.mp M.fn) (codeAny_mono (F.run _ X.stack _ _ ⟨SJ (s.heap.objs.size+1)::us,[]⟩ (SJ (s.heap.objs.size+1)::(us++ds)) _ _ E (Y.make C us [])
  (B.Lo.make C us []) (a _ (SJ (s.heap.objs.size+1)::us) B.kIn Z) D J) λr L q=>?_))
 cases r with
 |error e=>exact W zt σ _ _ e L B q
 |ok b =>
  cases b with
  |ret u =>
   obtain⟨v,d,c,O,ev,U⟩:=B.after q;subst ev;exact⟨O,⟨V.ref (s.heap.objs.size+1),d,c,rfl,U⟩⟩
  |_=>exact TY q
def DA(M:Mk X.K C f)(F:i8 X.prog X.w X.K X.mg X.base CX k f fd ps sp)(U:fQ (k+1) X.A)(W:Gl X x)(V:X.mg x=aa (.ref C))(Z:Binds X.K fd ps ds)(hd:dg dvs ds)(O:i9 CX X E)
(a:PA X (e::es) t)(D:(x==("__debug__":ay))=ai:=by decide)(Y:Sv (e::es) X.env=(ai,eval e X.env)::Sv es X.env:=by rfl)(B:(UW pos (Sv es X.env)).any (·.1)=ai:=by rfl):
 PE X (.Call (.Name x p) (e::es) [] pos) (zN C sp dvs E t):=by
 intro L s J H Q I h;refine Ut (kL I W V ?_ D);refine Vd (h₀:=X.base) I.ok.mod.kin M.kp (thn (a pos L s J H _ I h) λus s1 ⟨vs,H1,I1,r,q⟩=>⟨I1.kIn,?_⟩) Y B;exact r9 M F U Z hd O I1 r q
def zQ(M:Mk X.K C f)(F:i8 X.prog X.w X.K X.mg X.base CX k f fd ps sp)(D:fQ (k+1) X.A)(L:Gl X x)(J:X.mg x=aa (.ref C))(O:Binds X.K fd ps ds)(hd:dg dvs ds)(B:i9 CX X E)
(q:(x==("__debug__":ay))=ai:=by decide):PE X (.Call (.Name x p) [] [] pos) (zN C sp dvs E zK):=by
 intro V s U H Q I h;refine Ut (kL I L J ?_ q);exact VS I.kIn M.kp (r9 (us:=[]) M F D O hd B I .nil h)
end
section
variable{X:Cx}{CX:CXT}{k:Nat}{f C:az}{fd:Uv}{ps ks:List ay}{sp:Sp}{E:XK}{x m:ay}{p pos apos kpos:Pos}{e o:Wk}{es:List Wk}{kws:List Wb}{te ta:TE}{t tk:TA}{nm:Option ay}
variable{g:List aA->List aA->List aA}{gV:List V->List V->List V}
end
structure fS(N P:List ay)(sc:Tu):Prop where
 kind:sc.kind=.function
 co:sc.isCoroutine=ai
 gen:sc.isGenerator=ai
 nd:N.Nodup
 pre:N.take P.length=P
 par:∀x∈P,sc.names.lookup x=aa .local\/sc.names.lookup x=aa .cell
 nofree:∀y∈sc.names,y.2≠.free
theorem pR{kindOf:ay->Option UY}:∀{binds:List (ay×aA)}{m:ay->Option aA},(∀v,(x,v)∉binds)->bindL kindOf binds m x=m x
 |[],_,_=>rfl
 |(n,v)::r,m,h=>by
  unfold bindL;rw[pR λw hw=>h w (RP _ hw)];split
  ·have:x≠n:=by rintro rfl;exact h v RZ
   simp[this]
  rfl
theorem pS{kindOf:ay->Option UY}:∀{binds:List (ay×aA)}{m:ay->Option aA},(∀v,(x,v)∉binds)->bindC kindOf binds m x=m x
 |[],_,_=>rfl
 |(n,v)::r,m,h=>by
  unfold bindC;rw[pS λw hw=>h w (RP _ hw)];split;rfl
  ·have:x≠n:=by rintro rfl;exact h v RZ
   simp[this]
theorem pT{kindOf:ay->Option UY}:∀{P:List ay}{vs:List aA}{i:Nat}{m:ay->Option aA},P.Nodup->P[i]?=aa x->vs[i]?=aa v->kindOf x=aa .local →
 bindL kindOf (P.zip vs) m x=aa v
 |[],_,_,_,_,h,_,_=>by simp at h
 |_::_,[],_,_,_,_,h,_=>by simp at h
 |p::P,w::vs,0,m,nd,h1,h2,hk=>by simp at h1 h2;subst h1;subst h2;show bindL kindOf ((p,w)::P.zip vs) m p=_;unfold bindL;rw[pR λv q=>(List.nodup_cons.mp nd).1 (WO q).1,bJ hk];simp
 |p::P,w::vs,i+1,m,nd,h1,h2,hk=>by show bindL kindOf ((p,w)::P.zip vs) m x=_;unfold bindL;exact pT (i:=i) (List.nodup_cons.mp nd).2 (by simpa using h1) (by simpa using h2) hk
theorem pU{kindOf:ay->Option UY}:∀{P:List ay}{vs:List aA}{i:Nat}{m:ay->Option aA},P.Nodup->P[i]?=aa x->vs[i]?=aa v->kindOf x≠aa .local →
 bindC kindOf (P.zip vs) m x=aa v
 |[],_,_,_,_,h,_,_=>by simp at h
 |_::_,[],_,_,_,_,h,_=>by simp at h
 |p::P,w::vs,0,m,nd,h1,h2,hk=>by simp at h1 h2;subst h1;subst h2;show bindC kindOf ((p,w)::P.zip vs) m p=_;unfold bindC;rw[pS λv q=>(List.nodup_cons.mp nd).1 (WO q).1,bK hk];simp
 |p::P,w::vs,i+1,m,nd,h1,h2,hk=>by show bindC kindOf ((p,w)::P.zip vs) m x=_;unfold bindC;exact pU (i:=i) (List.nodup_cons.mp nd).2 (by simpa using h1) (by simpa using h2) hk
noncomputable def start(N:List ay)(vs:List V):St:=vs.map aa++Sd (N.length-vs.length) af
noncomputable def uD(CX:CXT)(P:Sb)(w:SH)(K:RB)(mg:ay->Option aA)(base:aq)(N:List ay)(qual:ay)(q:Tu)(f:az)(D:aA)(A:TJ)(outer:List Env)(s:RI)(H:Hp)(E:XK):Cx where
 prog:=P
 w:=w
 K:=K
 mg:=mg
 base:=base
 A:=A.deeper (XC qual q s.heap.objs.size f D)
 N:=N
 s₀:=s
 H₀:=H
 env:=XC qual q s.heap.objs.size f D
 outer:=outer
 stack:=XC qual q s.heap.objs.size f D::outer
 ex:=[]
 calm:=ah
 fn:=λ_=>ah
 pn:=[]
 xe:=λe J=>av (R6 P w) (A.deeper (XC qual q s.heap.objs.size f D)) (leaving (XC qual q s.heap.objs.size f D) e) (λ_ B=>CX outer H s E e B) (λL B=>CX outer H s E L B) J
def sf{sc:Tu}{n:Nat}{x:ay}(h:sc.names.lookup x=aa .cell):∃c,(cellsFrom n sc.names []).lookup x=aa c:=by have q:=Xc sc.names n [] (.inl h);exact Option.isSome_iff_exists.mp q
def xT{CX:CXT}{P:Sb}{w:SH}{K:RB}{mg:ay->Option aA}{base:aq}{N ps:List ay}{qual:ay}{B:Tu}{f:az}{Z:aA}{A:TJ}{outer:List Env}{s d:RI}{H:Hp}{E:XK}{us:List aA}{vs:List V}
(S:fS N ps B)(hd:A.handled=af)(J:r8 P w K mg base A outer s H)(C:vs.length=ps.length)(r:dg vs us)
(x:InCallC s s.heap.objs.size (bindL (XC qual B s.heap.objs.size f Z).kindOf (ps.zip us) λ_=>af) (cellsFrom (s.heap.objs.size+1) B.names []) (bindC (XC qual B s.heap.objs.size f Z).kindOf (ps.zip us) λ_=>af) d):
 Inv (uD CX P w K mg base N qual B f Z A outer s H E) [] (start N vs) H d:=by
 have m:ps.length<=N.length:=by have:=bR WR S.pre;rw[Vz]at this;lia
 obtain ⟨Y,t,rfl,j⟩:=x.done;have L:∀ b:az,b∉(uD CX P w K mg base N qual B f Z A outer s H E).ex:=λb z=>bL (show b∈([]:List az) from z) (by simp);refine ⟨⟨J.mod,S.kind,rfl,rfl,RQ _,λy z c Y D=>?_,λy M=>?_,λy c _ h=>?_,λ_=>hd,Around.frames_deeper J.frames,.inr ⟨rfl,rfl⟩,λb z=>bL z (L b),J.bs,J.bsz,λb _ _=>L b,λb z=>bL z (L b),J.kK,J.frf⟩,
  rfl,J.bare,Un.aH j,⟨_,x.toInCall.ns,λi y v Y D F=>?_⟩,λy c h=>⟨_,x.cell y c h⟩,J.aJ.fresh (RQ _),λy c h=>?_,λp U=>bL (show p∈([]:List (az×ao)) from U) (by simp),J.aJ.aH j,?_⟩
 exact name_of_addr x.apart (UD Y) (UD D)
 ·have M:B.names.lookup y=aa .cell\/B.names.lookup y=aa .free:=M;rcases M with M|M
  exact sf M;exact bL rfl (S.nofree _ (UD M))
 exact Ub (x.above y c (UD h))
 ·have W:i<vs.length:=by
   unfold start at D
   by_cases W:i<vs.length
   exact W
   ·rw[SB (by simpa using W)]at D;rw[UO]at D;split at D<;>cases D
  have o:vs[i]?=aa v:=by
   unfold start at D;rw[RE (by simpa using W),Sa]at D;cases e:vs[i]? with
   |none=>rw[e]at D;cases D|some a=>rw[e]at D;cases D;rfl
  obtain⟨u,g,l⟩:=r.get o;have U:ps[i]?=aa y:=by rw[←S.pre,UJ (by lia)];exact Y
  have O:ps.Nodup:=by rw[←S.pre];exact S.nd.sublist (List.take_sublist _ _)
  refine⟨u,l,?_⟩;rcases S.par y (RU U)with k|k
  exact .inl ⟨k,pT O U g k⟩
  ·obtain⟨c,e⟩:=sf (n:=s.heap.objs.size+1) k;refine .inr ⟨.inl k,c,e,?_⟩;have q:=x.cell y c e;rw[pU O U g (by show B.names.lookup y≠_;rw[k];decide)]at q;exact q
 exact J.aJ.fresh (Ub (x.above y c (UD h)))
 ·unfold start;show _=N.length;rw[Sh,RX,UZ];lia
def Lp{K:RB}{kV:aA}
{osl:Array (Option aA)}(j:K.lookup f=aa ⟨oc,od,.func (TV name qual params body scope dV kV doc pm an cdv ct),osl⟩)(c:VI K cdv qual=ah)(S:fS N ps scope)
(len:∀vs H Q E,sp vs H Q E->vs.length=ps.length)
(L:∀ (A:TJ) (outer:List Env) (s:RI) (H:Hp) (vs:List V) (Q:VK) (E:XK),fQ k (A.deeper (XC qual scope s.heap.objs.size f cdv))->sp vs H Q E →
  ∃ t,PSs (uD CX P w K mg base N qual scope f cdv A outer s H E) body t/\t { nx:=λ_ H'=>Q .aD H',rt:=Q } (start N vs) H):
 i8 P w K mg base CX (k+1) f (TV name qual params body scope dV kV doc pm an cdv ct) ps sp:=by
 refine⟨len,λA outer s H g i vs Q E a U C r O=>?_⟩;have p:=len _ _ _ _ O;have h:K.In s.heap:=U.mod.kin.keeps λb o e=>(U.bs b o e).1;have lim:s.heap.NoLimit:=U.mod.nolimit.keeps λb o e=>(U.bs b o e).1;have D:∀y∈ps.zip i,scope.names.lookup y.1=aa .local\/(scope.names.lookup y.1=aa .cell/\((cellsFrom (s.heap.objs.size+1) scope.names []).lookup y.1).isSome=ah):=λ⟨n,v⟩ hy=>by
  rcases S.par n (WO hy).1 with q|q
  exact .inl q;exact .inr ⟨q,Xc _ _ _ (.inl q)⟩
 refine codeAny_call_function a.depth (h _ _ j) rfl S.co S.gen rfl (PySem.W.codeRec_of h c) (C _ _ _ _ ?_);refine wpAny_newFunctionEnv_cells S.kind D λG z d x=>?_;subst z;refine⟨lim.keeps x.toInCall.keep,codeAny_func ?_⟩;obtain⟨t,l,m⟩:=L A outer s H vs Q E (a.deeper _) O;have I:Inv (uD CX P w K mg base N qual scope f cdv A outer s H E) [] (start N vs) H d:=xT S a.hd U p r x;refine Ue (l [] d (start N vs) H _ I m) (λF Y M=>?_) λe Y M=>M;have fin:∀{B:St}{H':Hp}{v:V}{u:aA},Inv (uD CX P w K mg base N qual scope f cdv A outer s H E) [] B H' Y->RelV v u->Q v H'->CE outer P w H s Q u Y :=
  λ{B H' v u} J Z q=>⟨v,H',J.os,J.bare,J.base,J.aJ,Z,q⟩
 cases F with
 |ret u =>
  obtain⟨v,B,H',J,Z,q⟩:=M;exact fin J Z q
 |next =>
  obtain⟨B,H',J,q⟩:=M;exact fin (v:=V.aD) (u:=TL) J rfl q
 |brk =>
  obtain⟨_,_,_,q⟩:=M;exact TY q
 |cont =>
  obtain⟨_,_,_,q⟩:=M;exact TY q
end L2
namespace L2
open PySem PySem.Spec PyProof.Rows
section
variable{X:Cx}{x:ay}{p pos:Pos}{e:Wk}{es:List Wk}{t:TA}{id T:String}{r:List V->Hp->VK->Prop}
def tCB(r:List V->Hp->VK->Prop)(t:TA):TE:=fun q H Q=>t q H λB D=>r B D Q
def fq(V:eV X (.builtin id) r)(O:Gl X x)(M:X.mg x=af)(L:Vu x=aa (.builtin id))(W:PA X (e::es) t)(hn:x≠"__name__":=by decide)(B:(x==("__debug__":ay))=ai:=by decide)
(U:Sv (e::es) X.env=(ai,eval e X.env)::Sv es X.env:=by rfl)(q:(UW pos (Sv es X.env)).any (·.1)=ai:=by rfl):PE X (.Call (.Name x p) (e::es) [] pos) (tCB r t):=by
 intro J s D H Q I h;refine Ut (gH I O M L ?_ hn B);exact VT (thn (W pos J s D H _ I h) λus s1 ⟨vs,H1,I1,r1,q1⟩=>V J s1 D H1 vs us Q I1 r1 q1) U q
def jU(V:eV X (.type T) r)(O:Gl X x)(M:X.mg x=af)(L:Vu x=aa (.type T))(W:PA X (e::es) t)(hn:x≠"__name__":=by decide)(B:(x==("__debug__":ay))=ai:=by decide)
(U:Sv (e::es) X.env=(ai,eval e X.env)::Sv es X.env:=by rfl)(q:(UW pos (Sv es X.env)).any (·.1)=ai:=by rfl):PE X (.Call (.Name x p) (e::es) [] pos) (tCB r t):=by
 intro J s D H Q I h;refine Ut (gH I O M L ?_ hn B);exact Ss (thn (W pos J s D H _ I h) λus s1 ⟨vs,H1,I1,r1,q1⟩=>V J s1 D H1 vs us Q I1 r1 q1) U q
end
end L2
namespace HT
open PySem PyProof.Rows
section
open PySem.SeqAt
open PySem.AutoSeq1 (wpAny_loadPart')
open PySem.MeetsSeq PySem.MeetsSeq2 PySem.MeetsSeq3
end
section
variable{prog:Sb}{w:SH}{A:TJ}{E:aA->RI->Prop}{s:RI}
def DB(Z:IsTup s.heap t vs.toArray)(a:IsTup s.heap b ws.toArray)(V:vs≠[])
(h1:ws=[]->Q (.ref t) s)(h2:ws≠[]->Q (.ref s.heap.objs.size) {s with heap:=s.heap.push {cls:=.type "tuple",data:=.seq (vs++ws).toArray} })
(hsz:vs.length+ws.length<=aj):av (R6 prog w) A (T8 .Add (.ref t) (.ref b)) Q E s:=by
 obtain⟨⟨cls,dd,data,O⟩,M,W,n,hd⟩:=id Z;obtain⟨⟨Y,L,data2,B⟩,q,J,U,D⟩:=id a;simp only at W hd J D;subst W hd J D;have e:vs.toArray++ws.toArray=(vs++ws).toArray:=by simp
 by_cases hw:ws=[]
 ·exact concat_meets ⟨_,M,rfl⟩ ⟨_,q,rfl⟩ Xi Yk Vr Vo (Vj _ _)
   (tuple_addW1 t b vs.toArray ws.toArray n U dd L O B (by simpa using V) (by simp[hw])) ⟨M,q,h1 hw⟩
 ·refine concat_meets ⟨_,M,rfl⟩ ⟨_,q,rfl⟩ Xi Yk Vr Vo (Vj _ _)
   (tuple_addW2 t b vs.toArray ws.toArray n U dd L O B (by simpa using V) (by simpa using hw) (by rw[RG,RG];exact hsz)) ⟨M,q,?_⟩
  rw[e];exact h2 hw
noncomputable def sIx(n d:Nat):Option Int->Nat
 |none=>d
 |some v=>if v<0 then(v+(n:Int)).toNat else min v.toNat n
def Hr(n d:Nat)(hd:d<=n)(o:Option Int):sIx n d o<=n:=by
 cases o with
 |none=>exact hd
 |some v =>
  show(if v<0 then(v+(n:Int)).toNat else min v.toNat n)<=n
  by_cases q:v<0
  rw[bJ q];lia;rw[bK q];exact Nat.min_le_right _ _
def vM(v:Int)(n d:Nat):(if v<0 then max (v+(n:Int)) 0 else min v (n:Int))=((sIx n d (aa v):Nat):Int):=by
 show(if v<0 then max (v+(n:Int)) 0 else min v (n:Int))=(((if v<0 then(v+(n:Int)).toNat else min v.toNat n):Nat):Int)
 by_cases q:v<0
 simp only[bJ q];lia;simp only[bK q];lia
def uE(lo hi:Option Int)(n:Nat):U1 lo hi 1 (n:Int)=(((sIx n 0 lo:Nat):Int),((sIx n n hi:Nat):Int)):=by
 have q:¬((1:Int)<0):=by lia
 unfold U1;simp only[q,if_false];refine Prod.ext ?_ ?_
 ·cases lo with
  |none=>rfl|some v=>exact vM v n 0
 ·cases hi with
  |none=>rfl|some v=>exact vM v n n
def uF(i j:Nat):Ui (i:Int) (j:Int) 1=j-i:=by
 unfold Ui;have q:(1:Int)>0:=by lia
 simp only[q,if_true,Int.ediv_one];split<;>lia
def nv(p:Xh v o)(h:Q o s):av (R6 prog w) A (Builtin.Slice.slicePartIndex v) Q E s:=by
 cases p with
 |none=>exact slicePart_none h|int i t=>exact slicePart_int h
def iV{lo:Option Int}{n:Nat}(J:s.heap.IsSliceOf sl vl vu .none)(pl:Xh vl lo)(D:Xh vu hi)
(h:Q (((sIx n 0 lo:Nat):Int),1,sIx n n hi-sIx n 0 lo) s):av (R6 prog w) A (V0 (.ref sl) (pure (n:Int))) Q E s:=by
 obtain⟨os,q,L,B⟩:=id J;unfold V0 Builtin.Slice.sliceFields;refine Rz (Rz (Tn q B (x:=vl) rfl (Rz (Tn q B (x:=vu) rfl (Rz (Tn q B (x:=.none) rfl (au ?_)))))));refine Rz (slicePart_none ?_);show av _ _ (if((1:Int)==0)=ah then _ else _) _ _ s;rw[bK (by decide)];refine Rz (nv pl (Rz (nv D (Rz (au ?_)))));show av _ _ (match U1 lo hi 1 (n:Int)with|(lo,hi)=>pure (lo,(1:Int),Ui lo hi 1)) _ _ s;rw[uE lo hi n];show av _ _ (pure (((sIx n 0 lo:Nat):Int),(1:Int),Ui ((sIx n 0 lo:Nat):Int) ((sIx n n hi:Nat):Int) 1)) _ _ s;rw[uF];exact au h
def zR(xs:Array aA)(i k:Nat):((Sy k).filterMap λ(m:Nat)=>xs[((i:Int)+(m:Int)*1).toNat]?).toArray=((xs.toList.drop i).take k).toArray:=by
 have e:(λ(m:Nat)=>xs[((i:Int)+(m:Int)*1).toNat]?)=λm=>xs[i+m]?:=by
  funext m;have:((i:Int)+(m:Int)*1).toNat=i+m:=by lia
  rw[this]
 rw[e];have:=pick_run xs i k;rw[List.filterMap_map]at this;have e2:((λx=>xs[x]?) ∘ λx=>i+x)=λm=>xs[i+m]?:=rfl;rw[e2]at this;rw[this]
def kO{lo:Option Int}(D:IsTup s.heap t items)(U:s.heap.IsSliceOf sl vl vu .none)(pl:Xh vl lo)(V:Xh vu hi)
(hw:¬(sIx items.size 0 lo=0/\sIx items.size items.size hi=items.size))
(h:Q (.ref s.heap.objs.size) {s with heap:=s.heap.push {cls:=.type "tuple",data:=.seq ((items.toList.drop (sIx items.size 0 lo)).take (sIx items.size items.size hi-sIx items.size 0 lo)).toArray} })
(hsz:items.size<=aj):av (R6 prog w) A (WY (.ref t) (.ref sl)) Q E s:=by
 have B:sizeOk (.seq ((items.toList.drop (sIx items.size 0 lo)).take (sIx items.size items.size hi-sIx items.size 0 lo)).toArray):=by show((items.toList.drop (sIx items.size 0 lo)).take (sIx items.size items.size hi-sIx items.size 0 lo)).toArray.size<=aj;rw[RG,Vz,List.length_drop,So];lia
 have a:sIx items.size items.size hi<=items.size:=Hr _ _ (RQ _) hi;obtain⟨os,J,M,W⟩:=id U;have O:s.TypeIs (.ref sl) "slice":=⟨os,J,M⟩;unfold WY
 try with_reducible refine SQ ?_
 first|refine Rz (au ?_)|skip
 refine Rz (wpAny_sequenceKey D.typeIs (by decide) ?_);refine Rz (SG (name:=RV "__getitem__") D.typeIs TX
  (Tg TX D.typeIs entry_tuple_getitem ?_ (args_tuple_getitem _ _)))
 show av _ _ (VZ (.ref t) >>= _) _ _ s;refine Rz (tupleItemsOf_ D ?_);refine Rz (UR O ?_);rw[bJ (by decide)];refine Rz (iV U pl V ?_);have L:¬((((sIx items.size 0 lo:Nat):Int)==0&&(1:Int)==1&&(sIx items.size items.size hi-sIx items.size 0 lo)==items.size)=ah):=by intro q;rw[RK,RK]at q;have Z:((sIx items.size 0 lo:Nat):Int)=0:=bQ q.1.1;have Y:sIx items.size items.size hi-sIx items.size 0 lo=items.size:=bQ q.2;exact hw ⟨by lia,by lia⟩
 show av _ _ (if(((sIx items.size 0 lo:Nat):Int)==0&&(1:Int)==1&&(sIx items.size items.size hi-sIx items.size 0 lo)==items.size)=ah then _ else _) _ _ s;rw[bK L,zR]
 first
  |exact Rz (m:=Up _) (Su (au ⟨_,rfl,au h⟩) B)
  |exact Rz (m:=Up _) (Su (Rz (au (au ⟨_,rfl,au h⟩))) B)
  |exact Rz (Rz (m:=Up _) (Su (au (au ⟨_,rfl,au h⟩)) B))
  |exact Rz (Rz (m:=Up _) (Su (au ⟨_,rfl,au h⟩) B))
end
end HT
namespace L2
open PySem PySem.Spec PyProof.Rows
abbrev TO:=St->Hp->(Option Int->Hp->Prop)->Prop
def PO(X:Cx)(e:Option Wk)(t:TO):Prop :=
 ∀(B:List (az×ao)) (s:RI) (q:St) (H:Hp) (Q:Option Int->Hp->Prop),Inv X B q H s->t q H Q →
  av (R6 X.prog X.w) X.A (evalPart e X.env) (λu J=>∃o D,Inv X B q D J/\Xh u o/\Q o D) X.xe s
def DC:TO:=λ_ H Q=>Q af H
def Lq(t:TE):TO:=fun q H Q=>t q H λx B=>∃i,x=.int i/\Q (aa i) B
def intsAre_of:∀{us:List aA},dg (ns.map V.int) us->Vp us ns:=by
 induction ns with
 |nil=>intro us r;rw[S6]at r;cases r;exact .nil
 |cons n ns D =>
  intro us r;rw[Sf]at r;cases r with
  |cons B q =>
   obtain⟨t,e⟩:=B;subst e;exact .cons n t (D q)
section
variable{X:Cx}{e:Wk}{te:TE}{lo hi:Option Wk}{tl th:TO}{pos p2:Pos}
def DE:PO X af DC:=by intro B s q H Q I h;rw[Yn];exact au ⟨af,H,I,.none,h⟩
def DF(h:PE X e te):PO X (aa e) (Lq te):=by intro D s B H Q I hw;rw[evalPart_some];refine thn (h D s B H _ I hw) λu V J=>?_;obtain⟨x,U,O,L,M⟩:=J;obtain⟨i,rfl,q⟩:=M;obtain⟨t,rfl⟩:=L;exact⟨aa i,U,O,.int i t,q⟩
def SlR(X:Cx)(r:V->Option Int->Option Int->Hp->VK->Prop):Prop :=
 ∀(B:List (az×ao)) (s:RI) (q:St) (H:Hp) (x:V) (v J D:aA) (lo M:Option Int) (L:az) (Q:VK),Inv X B q H s->RelV x v->s.heap.IsSliceOf L J D .none->Xh J lo->Xh D M->r x lo M H Q →
  ∃T id,WX (.type T) "__getitem__"=pure (aa (.builtin id))/\s.TypeIs v T/\av (R6 X.prog X.w) X.A (WY v (.ref L)) (EP X B q Q) X.xe s
def tSl(r:V->Option Int->Option Int->Hp->VK->Prop)(te:TE)(tl th:TO):TE:=fun q H Q=>te q H λx J=>tl q J λl D=>th q D λu B=>r x l u B Q
def zS(d:SlR X r)(i:PE X e te)(f:PO X lo tl)(a:PO X hi th):PE X (.Subscript e (.Slice lo hi af p2) pos) (tSl r te tl th):=by intro J s D H Q I h;refine Subscript_ (thn (i J s D H _ I h) λv U M=>?_);obtain⟨x,o,n,V,Y⟩:=M;refine wpAny_Slice (thn (f J U D o _ n Y) λvl s2 ⟨l,H2,I2,pl,q2⟩=>thn (a J s2 D H2 _ I2 q2) λL B M=>?_);obtain⟨u,O,m,Z,W⟩:=M;rw[Yn];refine au ?_;have k:Inv X J D O {B with heap:=B.heap.push {cls:=.type "slice",data:=.fields #[vl,L,.none]} }:=m.aH (t':=B.toks) λb ob q=>RC _ q;obtain⟨T,id,j,c,g⟩:=d J {B with heap:=B.heap.push {cls:=.type "slice",data:=.fields #[vl,L,.none]} } D O x v vl L l u B.heap.objs.size Q k V (WI ..) pl Z W;show av (R6 X.prog X.w) X.A (Yj e (.Slice lo hi af p2) v (.ref B.heap.objs.size)) (EP X J D Q) X.xe {B with heap:=B.heap.push {cls:=.type "slice",data:=.fields #[vl,L,.none]} };exact Yi (ops:=[.ref B.heap.objs.size,v]) c j g (by with_unfolding_all rfl)
def sj(xs:List V)(lo hi:Option Int):List V:=(xs.drop (HT.sIx xs.length 0 lo)).take (HT.sIx xs.length xs.length hi-HT.sIx xs.length 0 lo)
def mC(xs:List V)(lo hi:Option Int):(sj xs lo hi).length<=xs.length:=by unfold sj;rw[Vz,List.length_drop];lia
def OS(K:RB):V->Option Int->Option Int->Hp->VK->Prop:=λx lo B H Q=>∃a q,x=.ref a/\SqT K H a q ∧
 ¬(HT.sIx q.length 0 lo=0/\HT.sIx q.length q.length B=q.length)/\∀p,H p=af->Q (.ref p) (upd H p (.aC (sj q lo B)))
def Hs:SlR X (OS X.K):=by
 intro d s c H x v f e lo L g Q I U Z W V h;obtain⟨a,D,rfl,Y,hw,q⟩:=h;cases U;obtain⟨J,r,O,M⟩:=I.tuple Y;have B:J.toArray.size=D.length:=by rw[RG];exact r.length.symm
 refine⟨"tuple",_,PyProof.Rows.slot_tuple_getitem.lookup,O.typeIs,?_⟩;refine HT.kO O Z W V (by rw[B];exact hw) ?_ (by rw[B];exact M);rw[B];refine⟨.ref s.heap.objs.size,_,I.laid (t':=s.toks) (o:=.aC (sj D lo L)) (λb ob q=>RC _ q) (RQ _) ?_,rfl,q _ (I.aJ.fresh (RQ _))⟩;exact⟨Sz (mC D lo L) M,_,(r.drop (HT.sIx D.length 0 lo)).take (HT.sIx D.length D.length L-HT.sIx D.length 0 lo),IsTup.new _ _⟩
def Lr(K:RB):R2:=λx y H Q=>∃a b B q,x=.ref a/\y=.ref b/\SqT K H a B/\SqT K H b q/\B≠[]/\B.length+q.length<=aj ∧
 (q=[]->Q (.ref a) H)/\(q≠[]->∀p,H p=af->Q (.ref p) (upd H p (.aC (B++q))))
def dg.kP(r:dg xs us):us=[]↔xs=[]:=by
 cases r with
 |_=>simp
def DG:OpR X (T8 .Add) (Lr X.K):=by intro j s i H x y v u Q I V U h;obtain⟨a,b,O,M,rfl,rfl,g,f,e,L,Y,W⟩:=h;cases V;cases U;obtain⟨d,D,c,_⟩:=I.tuple g;obtain⟨J,B,Z,_⟩:=I.tuple f;refine HT.DB c Z (λz=>e (D.kP.mp z)) (λz=>⟨.ref a,H,I,rfl,Y (B.kP.mp z)⟩) (λz=>?_) (by rw[←D.length,←B.length];exact L);refine⟨.ref s.heap.objs.size,_,I.laid (t':=s.toks) (o:=.aC (O++M)) (λb ob q=>RC _ q) (RQ _) ?_,rfl,W (λw=>z (B.kP.mpr w)) _ (I.aJ.fresh (RQ _))⟩;exact⟨by rw[Sh];exact L,_,D.append B,IsTup.new _ _⟩
end
end L2
namespace L2
open PySem PySem.Spec PyProof.Rows
noncomputable def ixN(n:Nat)(i:Int):Option Nat:=if 0<=i then(if i<n then aa i.toNat else af)else if -(n:Int)<=i then aa (i+n).toNat else af
def atI{q:Type}(xs:List q)(i:Int):Option q:=(ixN xs.length i).bind λj=>xs[j]?
def vN(h:ixN n i=aa j):seqIndex? i n=aa j/\j<n/\-(n:Int)<=i/\i<n:=by
 unfold ixN at h
 by_cases B:0<=i
 ·rw[bJ B]at h
  by_cases q:i<n
  ·rw[bJ q]at h;have e:i.toNat=j:=RO h;exact⟨by rw[seqIndex_of B q,e],by lia,by lia,q⟩
  rw[bK q]at h;cases h
 ·rw[bK B]at h
  by_cases q:-(n:Int)<=i
  ·rw[bJ q]at h;have e:(i+n).toNat=j:=RO h;exact⟨by rw[seqIndex_neg (by lia) q,e],by lia,q,by lia⟩
  rw[bK q]at h;cases h
def qA{q:Type}{xs:List q}{v:q}(h:atI xs i=aa v):∃j,seqIndex? i xs.length=aa j/\xs[j]?=aa v/\j<xs.length/\-(xs.length:Int)<=i/\i<xs.length:=by
 unfold atI at h;cases e:ixN xs.length i with
 |none=>rw[e]at h;cases h
 |some j =>
  rw[e]at h;obtain⟨L,J,D,B⟩:=vN e;exact⟨j,L,h,J,D,B⟩
def vO(b:Wk):Prop:=∀o i,subscripted b ai o i=operate [o,i] (WY o i)
def IxR(X:Cx)(r:R2):Prop :=
 ∀(B q:Wk)(J:List (az×ao)) (s:RI) (D:St) (H:Hp) (x y:V) (v u:aA) (Q:VK),Inv X J D H s->RelV x v->RelV y u->r x y H Q →
  subscripted q ai v u=operate [v,u] (WY v u)->av (R6 X.prog X.w) X.A (Yj B q v u) (EP X J D Q) X.xe s
def MtR(X:Cx)(id:String)(r:V->List V->Hp->VK->Prop):Prop :=
 ∀(B:List (az×ao)) (s:RI) (q:St) (H:Hp) (x:V) (D:List V) (v:aA) (J:List aA) (Q:VK),Inv X B q H s->RelV x v->dg D J->r x D H Q →
  av (R6 X.prog X.w) X.A (call (.builtin id) (v::J)) (EP X B q Q) X.xe s
section
variable{X:Cx}{a b:Wk}{ta tb:TE}{pos:Pos}
def Gq(U:IxR X r)(W:PE X a ta)(V:PE X b tb)(O:vO b):PE X (.Subscript a b pos) (tOp r ta tb):=by intro D s B H Q I h;exact Subscript_ (G8 W V I h λv u J x y Z Y M L q=>U a b D J B Z x y v u Q Y M L q (O _ _))
def OT(K:RB):R2:=λx y H Q=>∃p q i v,x=.ref p/\y=.int i/\SqL K H p q/\atI q i=aa v/\Q v H
def OU(K:RB):R2:=λx y H Q=>∃p q i v,x=.ref p/\y=.int i/\SqT K H p q/\atI q i=aa v/\Q v H
def OV:R2:=λx y H Q=>∃z i c,x=.str z/\y=.int i/\z.length<=aj/\atI z.cps.toList i=aa c/\Q (.str ⟨#[c]⟩) H
def vP:IxR X (OT X.K):=by
 intro D J W s V H x y v u Q I d c h Y;obtain⟨p,n,i,z,rfl,rfl,e,g,q⟩:=h;cases d;obtain⟨t,rfl⟩:=c;obtain⟨O,r,M,o⟩:=I.list e;obtain⟨j,B,m,A,l,k⟩:=qA g;obtain⟨w,a,L⟩:=r.get m;have f:=r.length;have hn:=lN;have fin:EP X W V Q w s:=⟨z,H,I,L,q⟩
 by_cases Z:0<=i
 ·have U:i.toNat=j:=by rw[seqIndex_of Z k]at B;exact RO B
  exact item_listR M.isList Z (by lia) (by rw[U];simpa using a) fin Y
 ·have U:(i+(O.toArray.size:Int)).toNat=j:=by rw[seqIndex_neg (by lia) l]at B;rw[RG,←f];exact RO B
  exact subscriptTail_builtinR (x:=w) M.isList.typeIs slot_list_getitem.lookup
   (wpAny_getItem_list_neg (Q:=λr b=>r=w/\EP X W V Q r b) M.isList (by lia) (by rw[RG]<;>lia) (by lia) (by rw[U];simpa using a) ⟨rfl,fin⟩) Y
def Hu:IxR X (OU X.K):=by
 intro B D M s L H x y v u Q I W V h Z;obtain⟨p,g,i,z,rfl,rfl,a,c,q⟩:=h;cases W;obtain⟨t,rfl⟩:=V;obtain⟨Y,r,O,k⟩:=I.tuple a;obtain⟨j,e,d,n,m,l⟩:=qA c;obtain⟨w,f,J⟩:=r.get d;have b:=r.length;have hn:=lN;have fin:EP X M L Q w s:=⟨z,H,I,J,q⟩;exact subscriptTail_builtinR (x:=w) O.typeIs slot_tuple_getitem.lookup
  (getItem_tuple (j:=j) (Q:=λr U=>r=w/\EP X M L Q r U) O (by lia) (by lia) (by rw[RG,←b];exact e) (by simpa using f) ⟨rfl,fin⟩) Z
def Hv:IxR X OV:=by
 intro B D b s a H x y v u Q I M L h O;obtain⟨z,i,c,rfl,rfl,e,V,q⟩:=h;obtain⟨t,rfl⟩:=M;obtain⟨d,rfl⟩:=L;obtain⟨j,J,Z,f,Y,W⟩:=qA V;have U:z.cps.toList.length=z.length:=by simp[Str.length]
 rw[U] at J Y W;have hn:=lN;exact Yi (typeIs_str s z t) slot_str_getitem.lookup (getItem_str (c:=c) (by
  have e1:decide (i < -(2 ^ 63:Int))=ai:=bN (by lia);have e2:decide (i ≥ 2 ^ 63)=ai:=bN (by lia);rw[e1,e2,U8]) (by rw[J];simpa using Z) ⟨.str ⟨#[c]⟩,H,I.tok _,⟨_,rfl⟩,q⟩) O
def uG(q:List aA)(n j:Nat)(u:aA):Ti (·.setIfInBounds j u) {cls:=.type "list",data:=.seq q.toArray n}={cls:=.type "list",data:=.seq (q.set j u).toArray n}:=by simp[Ti]
def Inv.aB{zt:List (az×ao)}{σ:St}{H:Hp}{s:RI}{p:az}{xs:List V}(I:Inv X zt σ H s)(h:H p=aa (.aB xs)):
 ∃(q:List aA) (n:Nat),dg xs q/\s.heap.get? p=aa {cls:=.type "list",data:=.seq q.toArray n}/\xs.length<=aj:=by
 obtain⟨z,q,n,r,e⟩:=I.aJ p _ h;exact⟨q,n,r,e,z⟩
def Inv.Hw{zt:List (az×ao)}{σ:St}{H:Hp}{s:RI}{p:az}{xs ys:List V}{B its':List aA}{n D:Nat}{f:ao->ao}(I:Inv X zt σ H s)(h:H p=aa (.aB xs))
(L:s.heap.get? p=aa {cls:=.type "list",data:=.seq B.toArray n})(J:f {cls:=.type "list",data:=.seq B.toArray n}={cls:=.type "list",data:=.seq its'.toArray D})(r:dg ys its')(hz:ys.length<=aj)(t:Nat):
 Inv X zt σ (upd H p (.aB ys)) {s with heap:=s.heap.update p f,toks:=t}:=by
 have e:(s.heap.update p f).get? p=aa {cls:=.type "list",data:=.seq its'.toArray D}:=by rw[Sj f L (by rw[J]<;>rfl),J]
 refine I.write (x:=p) (e:=p) (by rw[h];trivial) (.inl rfl) (λb u M q=>(SR _ _ (SM M)).trans q) ⟨_,e⟩ ?_;exact⟨hz,its',D,r,e⟩
def Gs:V->V->V->Hp->(Hp->Prop)->Prop:=λo i v H Q=>∃p q k j,o=.ref p/\i=.int k/\H p=aa (.aB q)/\ixN q.length k=aa j/\Q (upd H p (.aB (q.set j v)))
def set_list:K5 X Gs:=by
 intro b s a H o i v m w u Q I e f d h;obtain⟨p,c,k,j,rfl,rfl,O,l,q⟩:=h;cases e;obtain⟨t,rfl⟩:=f;obtain⟨B,n,r,J,g⟩:=I.aB O;obtain⟨D,x,V,U⟩:=vN l;have L:=r.length;have hn:=lN;have Z:Inv X b a (upd H p (.aB (c.set j v))) {s with heap:=s.heap.update p (Ti (·.setIfInBounds j u))} :=
  I.Hw O J (uG B n j u) (r.set d j) (by rw[Td];exact g) s.toks
 by_cases Y:0<=k
 ·have M:k.toNat=j:=by rw[seqIndex_of Y U]at D;exact RO D
  exact PySem.W.ki_setAt J Y (by lia) (by rw[RG,←L];exact U) (by rw[M];exact⟨_,Z,q⟩)
 ·have M:(k+(B.toArray.size:Int)).toNat=j:=by rw[seqIndex_neg (by lia) V]at D;rw[RG,←L];exact RO D
  exact PySem.W.ki_setBack J (by lia) (by rw[RG,←L];exact V) (by lia) (by rw[M];exact⟨_,Z,q⟩)
def qB(lo hi:Option Int)(n:Nat):(SA lo hi af n).1=((HT.sIx n 0 lo:Nat):Int)/\(SA lo hi af n).2.1=((HT.sIx n n hi:Nat):Int)/\(SA lo hi af n).2.2=1:=by
 refine⟨?_,?_,rfl⟩
 ·cases lo with
  |none=>simp[SA,HT.sIx]
  |some i =>
   simp only[SA,HT.sIx,Yx,show(1:Int)>0 by decide,if_true]
   by_cases h:i<0
   simp only[h,if_true]<;>lia;simp only[h,if_false]<;>lia
 ·cases hi with
  |none=>simp[SA,HT.sIx]
  |some i =>
   simp only[SA,HT.sIx,Yx,show(1:Int)>0 by decide,if_true]
   by_cases h:i<0
   simp only[h,if_true]<;>lia;simp only[h,if_false]<;>lia
def o7(q:List aA)(lo hi:Option Int):slicePick q.toArray lo hi af=((q.drop (HT.sIx q.length 0 lo)).take (HT.sIx q.length q.length hi-HT.sIx q.length 0 lo)).toArray:=by obtain⟨J,D,B⟩:=qB lo hi q.toArray.size;unfold slicePick;rw[J,D,B];simp only[sliceRange_one,pick_run,RG]<;>rfl
def OW(K:RB):V->Option Int->Option Int->Hp->VK->Prop:=λx lo B H Q=>∃a q,x=.ref a/\SqL K H a q/\∀p,H p=af->Q (.ref p) (upd H p (.aB (sj q lo B)))
def DH:SlR X (OW X.K):=by intro d s c H x v f e lo J g Q I M Z U O h;obtain⟨a,B,rfl,Y,q⟩:=h;cases M;obtain⟨V,r,L,W⟩:=I.list Y;have D:=r.length;refine⟨"list",_,slot_list_getitem.lookup,L.isList.typeIs,?_⟩;refine X7 L.isList Z U O .none (by simp) ?_ (by rw[RG]<;>lia);rw[o7,←D];refine⟨.ref s.heap.objs.size,_,I.laid (t':=s.toks) (o:=.aB (sj B lo J)) (λb ob q=>RC _ q) (RQ _) ?_,rfl,q _ (I.aJ.fresh (RQ _))⟩;exact⟨Sz (mC B lo J) W,_,0,(r.drop (HT.sIx B.length 0 lo)).take (HT.sIx B.length B.length J-HT.sIx B.length 0 lo),RM _ rfl⟩
def ja:eV X (.builtin "len") (λxs H Q=>∃p ys,xs=[.ref p]/\(SqL X.K H p ys\/SqT X.K H p ys)/\Q (.int ys.length) H):=by
 intro W s V H xs Y Q I r h;obtain⟨p,ys,rfl,D,q⟩:=h;obtain⟨u,rfl,O⟩:=vals1 r;cases O;have hn:=lN;rcases D with D|D
 ·obtain⟨M,J,L,U⟩:=I.list D;have B:=J.length;exact Calls.call_len_list L.isList (by simp only[RG]<;>lia) ⟨.int ys.length,H,I.tok _,⟨s.toks+1,by rw[RG,B]⟩,q⟩
 ·obtain⟨M,J,L,U⟩:=I.tuple D;have B:=J.length;exact len_tuple L (by simp only[RG]<;>lia) ⟨.int ys.length,H,I.tok _,⟨s.toks+1,by rw[RG,B]⟩,q⟩
def qC:eV X (.builtin "len") (λxs H Q=>∃z,xs=[.str z]/\z.length<=aj/\Q (.int z.length) H):=by intro D s B H xs J Q I r h;obtain⟨z,rfl,L,q⟩:=h;obtain⟨u,rfl,t,rfl⟩:=vals1 r;have hn:=lN;exact len_str (by lia) ⟨.int z.length,H,I.tok _,⟨_,rfl⟩,q⟩
def kQ:eV X (.type "list") (λxs H Q=>∃p ys,xs=[.ref p]/\(SqL X.K H p ys\/SqT X.K H p ys)/\∀l,H l=af->Q (.ref l) (upd H l (.aB ys))):=by
 intro d s c H xs g Q I r h;obtain⟨p,ys,rfl,U,q⟩:=h;obtain⟨u,rfl,f⟩:=vals1 r;cases f;have fin:∀(B:List aA),dg ys B->ys.length<=aj->∀(D:aq)(L:Nat),(∀b a,s.heap.get? b=aa a->D.get? b=aa a) →
  D.get? s.heap.objs.size=aa {cls:=.type "list",dict:=af,data:=.seq B.toArray L,slots:=#[]}->EP X d c Q (.ref s.heap.objs.size) {s with heap:=D}:=λB J O D L M e =>
  ⟨.ref s.heap.objs.size,_,I.laid (t':=s.toks) M (RQ _) (show gC X.prog X.w _ D _ (.aB ys) from⟨O,B,L,J,e⟩),rfl,q _ (I.aJ.fresh (RQ _))⟩
 rcases U with U|U
 ·obtain⟨B,J,W,O⟩:=I.list U;have V:=J.length;obtain⟨o,Y,Z,n,hd⟩:=W.isList;exact call_list_seq p (.inl rfl) Y Z hd (λD L M e=>fin B J O D L M e) (by simp only[RG]<;>lia)
 ·obtain⟨B,J,W,O⟩:=I.tuple U;have V:=J.length;obtain⟨o,Y,Z,n,hd⟩:=W;exact call_list_seq p (.inr rfl) Y Z hd (λD L M e=>fin B J O D L M e) (by simp only[RG]<;>lia)
def kh:eV X (.type "tuple") (λxs H Q=>∃p ys,xs=[.ref p]/\((SqL X.K H p ys/\∀l,H l=af->Q (.ref l) (upd H l (.aC ys)))\/(SqT X.K H p ys/\Q (.ref p) H))):=by
 intro U s O H xs d Q I r h;obtain⟨p,ys,rfl,h⟩:=h;obtain⟨u,rfl,Z⟩:=vals1 r;cases Z;rcases h with⟨M,q⟩|⟨M,q⟩
 ·obtain⟨B,J,L,V⟩:=I.list M;have W:=J.length;refine call_tuple_list L.isList (λD a=>?_) (by simp only[RG]<;>lia);have Y:Inv X U O H {s with heap:=D}:=I.aH (t':=s.toks) a;have c:Inv X U O (upd H D.objs.size (.aC ys)) {s with heap:=D.push {cls:=.type "tuple",data:=.seq B.toArray} } :=
   Y.laid (t':=s.toks) (λb o e=>RC _ e) (RQ _) (show gC X.prog X.w _ _ _ (.aC ys) from⟨V,B,J,IsTup.new _ _⟩)
  exact⟨.ref D.objs.size,_,c,rfl,q _ (Y.aJ.fresh (RQ _))⟩
 ·obtain⟨B,J,L,V⟩:=I.tuple M;exact call_tuple_same L ⟨.ref p,H,I,rfl,q⟩
def tyV(K:RB)(T:String)(x:V)(H:Hp):Prop:=match x with
 |.str _=>T="str"|.int _=>T="int"|.ref p=>(T="list"/\∃B,SqL K H p B)\/(T="tuple"/\∃o,K.lookup p=aa o/\o.cls=.type "tuple"/\o.dict=af) ∨
  (T="dict"/\((∃q,H p=aa (.dK q))\/∃q,H p=aa (.dT q)))\/(T="set"/\∃S n,H p=aa (.set S n))
 |_=>False
def zT(I:Inv X zt σ H s)(r:RelV x v)(ty:tyV X.K T x H):
 s.TypeIs v T/\∀a,v=.ref a->∃ob,s.heap.get? a=aa ob/\ob.dict=af:=by
 cases x with
 |str z =>
  obtain⟨t,rfl⟩:=r;cases (show T="str" from ty);exact⟨typeIs_str s z t,λ_ e=>nomatch e⟩
 |int i =>
  obtain⟨t,rfl⟩:=r;cases (show T="int" from ty);exact⟨typeIs_int s i t,λ_ e=>nomatch e⟩
 |ref p =>
  cases r;rcases ty with⟨rfl,M,L⟩|⟨rfl,o,q,hc,hd⟩|⟨rfl,q⟩|⟨rfl,S,n,q⟩
  ·obtain⟨J,_,D,_⟩:=I.list L;refine⟨D.isList.typeIs,λa e=>?_⟩;cases e;obtain⟨o,n,e,c,hd,_⟩:=D;exact⟨o,e,hd⟩
  ·refine⟨⟨o,I.kIn p o q,hc⟩,λa e=>?_⟩;cases e;exact⟨o,I.kIn _ o q,hd⟩
  ·have z:∃o,s.heap.get? p=aa o/\o.ExactDict:=by
    rcases q with⟨B,q⟩|⟨B,q⟩
    ·obtain⟨_,_,_,_,o,_,_,e,ex,_⟩:=I.aJ p _ q;exact⟨o,e,ex⟩
    ·obtain⟨_,_,_,_,o,_,_,e,ex,_⟩:=I.aJ p _ q;exact⟨o,e,ex⟩
   obtain⟨o,e,ex⟩:=z;refine⟨⟨o,e,ex.1⟩,λa e2=>?_⟩;cases e2;exact⟨o,e,ex.2.1⟩
  ·obtain⟨o,_,_,_,e,ex,_⟩:=I.aJ p _ q;refine⟨⟨o,e,ex.1⟩,λa e2=>?_⟩;cases e2;exact⟨o,e,ex.2.1⟩
 |_=>exact TY ty
def OX(K:RB)(T:String)(r:V->List V->Hp->VK->Prop)(to:TE):TE:=fun B H Q=>to B H λx q=>tyV K T x q/\r x [] q Q
def tBM(K:RB)(T:String)(r:V->List V->Hp->VK->Prop)(to:TE)(t:TA):TE:=fun q H Q=>to q H λx B=>tyV K T x B/\t q B λD J=>r x D J Q
variable{o e:Wk}{es:List Wk}{to:TE}{t:TA}{name:ay}{apos cpos:Pos}{T id:String}{r:V->List V->Hp->VK->Prop}
def Hx(Z:PlainAttrs T)(D:Slot T name id)(J:typeOf (.builtin id)=pure (.type "method_descriptor"))(b:MtR X id r)(a:PE X o to)
(B:VQ o name X.env (eval o X.env)=eval o X.env:=by rfl)(q:(apos.endLine==cpos.line)=ah:=by rfl):PE X (.Call (.Attribute o name apos) [] [] cpos) (OX X.K T r to):=by
 intro M s L H Q I h;refine wpAny_Call_method0_late B q (thn (a M s L H _ I h) λv W V=>?_);obtain⟨x,e,U,O,ty,Y⟩:=V;obtain⟨d,c⟩:=zT U O ty;exact⟨T,id,Z,D,J,d,c,Xu rfl (PySem.evalArgs_none (b M W L e x [] v [] Q U O .nil Y))⟩
def zU(d:PlainAttrs T)(J:Slot T name id)(U:typeOf (.builtin id)=pure (.type "method_descriptor"))(i:MtR X id r)(g:PE X o to)(j:PA X (e::es) t)
(D:VQ o name X.env (eval o X.env)=eval o X.env:=by rfl)
(L:((UW cpos (Sv (e::es) X.env)).all (λx=>!x.1)&&(Xo cpos (VO [] X.env)).all (λx=>x.1.isSome)
 &&decide ((e::es).length+([]:List Wb).length+(if ([]:List Wb).isEmpty then 0 else 1) < 30))=ah:=by rfl)
(B:(apos.endLine==cpos.line)=ah:=by rfl)(f:Sv (e::es) X.env=(ai,eval e X.env)::Sv es X.env:=by rfl)(q:(UW cpos (Sv es X.env)).any (·.1)=ai:=by rfl):
 PE X (.Call (.Attribute o name apos) (e::es) [] cpos) (tBM X.K T r to t):=by
 intro O s M H Q I h;refine wpAny_Call_method_late D L B rfl (thn (g O s M H _ I h) λv b Z=>?_);obtain⟨x,m,Y,V,ty,c⟩:=Z;obtain⟨l,k⟩:=zT Y V ty;refine⟨T,id,d,J,U,l,k,?_⟩;have W:=j cpos O b M m _ Y c;rw[f]at W⊢;refine Xu (by show(ai||(UW cpos (Sv es X.env)).any (·.1))=ai;rw[q]<;>rfl) (Calls.evalArgs_plain ?_);exact thn W λus s2 ⟨vs,H2,I2,r2,q2⟩=>i O s2 M H2 x vs v us Q I2 V r2 q2
/- xs.append(e),list.index on a module's tuple .. are MtR facts of 06m -/
end
end L2
namespace L2
open PySem PySem.Spec PyProof.Rows
def MtM(X:Cx)(id:String)(r:V->List V->Hp->VK->Prop):Prop :=
 ∀(B:List (az×ao)) (s:RI) (q:St) (H:Hp) (x:V) (D:List V) (v:aA) (J:List aA) (Q:VK),Inv X B q H s->RelV x v->dg D J->r x D H Q →
  av (R6 X.prog X.w) X.A (call (.builtin id) (v::J)) (EP X B q Q) X.xe s
def dg.one{x:V}{us:List aA}(h:dg [x] us):∃u,us=[u]/\RelV x u:=by cases h with|cons r t=>cases t;exact⟨_,rfl,r⟩
def dg.two{x y:V}{us:List aA}(h:dg [x,y] us):∃u v,us=[u,v]/\RelV x u/\RelV y v:=by cases h with|cons r t=>obtain⟨v,rfl,q⟩:=dg.one t;exact⟨_,v,rfl,r,q⟩
theorem dg.zero:∀{us:List aA},dg [] us->us=[]
 |_,.nil=>rfl
def dg.dropLast(h:dg xs us):dg xs.dropLast us.dropLast:=by
 induction h with
 |nil=>exact .nil
 |cons r t B =>
  cases t with
  |nil=>exact .nil|cons q D=>exact .cons r B
theorem dg.rep(h:dg xs us):∀k:Nat,dg (Sd k xs).flatten (Sd k us).flatten
 |0=>.nil
 |k+1=>by rw[TQ,TQ,Uu,Uu];exact dg.append h (dg.rep h k)
def uH(l:List α):l.eraseIdx (l.length-1)=l.dropLast:=by
 induction l with
 |nil=>rfl
 |cons a r q =>
  cases r with
  |nil=>rfl
  |cons b r =>
   have e:(a::b::r).length-1=((b::r).length-1)+1:=by have D:(a::b::r).length=r.length+2:=rfl;have B:(b::r).length=r.length+1:=rfl;lia
   rw[e,List.eraseIdx_cons_succ,q]
   all_goals rfl
theorem foldl_rep(q:List aA):∀(k:Nat)(B:List aA),
 Xm (λJ D=>J++D) B.toArray (Sd k q.toArray)=(B++(Sd k q).flatten).toArray
 |0,B=>by simp
 |k+1,B=>by
  have e:B.toArray++q.toArray=(B++q).toArray:=by simp
  have e2:(B++q)++(Sd k q).flatten=B++(Sd (k+1) q).flatten:=by rw[TQ,Uu,SZ]
  rw[←e2,←foldl_rep q k (B++q),←e,TQ,WS]
section
variable{X:Cx}{zt:List (az×ao)}{σ:St}{H:Hp}{s:RI}{l b:az}{xs ys zs:List V}
def Inv.DI{B its':List aA}{n:Nat}{f:Array aA->Array aA}{t':Nat}(I:Inv X zt σ H s)(O:H l=aa (.aB xs))
(e:s.heap.get? l=aa {cls:=.type "list",data:=.seq B.toArray n})(L:f B.toArray=its'.toArray)(D:dg ys its')(hz:ys.length<=aj):
 Inv X zt σ (upd H l (.aB ys)) {s with heap:=s.heap.update l (Ti f),toks:=t'}:=by
 have q:=PySem.IsL.update e f;rw[L]at q;refine I.write (x:=l) (e:=l) (by rw[O];exact trivial) (.inl rfl) (λU u M J=>(SR s.heap (Ti f) (SM M)).trans J) ⟨_,q⟩ ?_;exact⟨hz,its',_,D,q⟩
def Inv.Ls(I:Inv X zt σ H s)(B:dg ys its)(hz:ys.length<=aj):
 Inv X zt σ (upd H s.heap.objs.size (.aB ys)) {s with heap:=s.heap.push {cls:=.type "list",data:=.seq its.toArray},toks:=t'} :=
 I.laid (λ_ _ q=>RC _ q) (RQ _) ⟨hz,its,0,B,RM _ rfl⟩
def Inv.fresh(I:Inv X zt σ H s):H s.heap.objs.size=af:=I.aJ.fresh (RQ _)
def Inv.DJ(I:Inv X zt σ H s)(B:H l=aa (.aB xs)):xs.length<=aj/\∃(q:List aA) (n:Nat),dg xs q/\xs.length=q.length/\s.heap.get? l=aa {cls:=.type "list",data:=.seq q.toArray n}:=by obtain⟨z,q,n,r,e⟩:=I.aJ l _ B;exact⟨z,q,n,r,r.length,e⟩
def ny(h:n<=aj):Tz n=ai:=by unfold Tz;exact bN (by lia)
end
section
variable{X:Cx}
def DK:V->List V->Hp->VK->Prop:=λx B H Q=>∃l q y,x=.ref l/\B=[y]/\H l=aa (.aB q)/\q.length<aj/\Q .aD (upd H l (.aB (q++[y])))
def pV:MtM X "list.append" DK:=by intro U s O H x W v Y Q I J L h;obtain⟨l,V,y,rfl,rfl,D,Z,q⟩:=h;cases J;obtain⟨u,rfl,M⟩:=L.one;obtain⟨z,B,n,r,a,e⟩:=I.DJ D;refine US F.slot_list_append ⟨_,e,rfl⟩ F.entry_list_append (F.args_list_append_2 _ _) (PySem.list_append l B.toArray n u (by rw[RG];lia)) ⟨e,?_⟩;refine⟨.aD,_,I.DI (its':=B++[u]) D e (by simp) (r.append (.cons M .nil)) ?_,rfl,q⟩;rw[Sh,Um];lia
def OY:V->List V->Hp->VK->Prop:=λx B H Q=>∃l q y,x=.ref l/\B=[]/\H l=aa (.aB q)/\q[q.length-1]?=aa y/\Q y (upd H l (.aB q.dropLast))
def Hy:MtM X "list.pop" OY:=by
 intro a s Z H x c v d Q I M O h;obtain⟨l,b,y,rfl,rfl,L,V,q⟩:=h;cases M;have J:=O.zero;subst J;obtain⟨z,B,n,r,Y,e⟩:=I.DJ L;obtain⟨u,W,U⟩:=r.get V;have D:B.toArray[B.toArray.size-1]?=aa u:=by show B.toArray[B.length-1]?=aa u;rw[←XM,←Y];exact W
 refine US F.slot_list_pop ⟨_,e,rfl⟩ F.entry_list_pop (F.args_list_pop_1 _) (MeetsSeq.list_pop_last l B.toArray n u D (by rw[RG];lia)) ⟨e,?_⟩;refine⟨y,_,I.DI (its':=B.dropLast) L e ?_ r.dropLast ?_,U,q⟩
 ·show B.toArray.eraseIdxIfInBounds (B.toArray.size-1)=B.dropLast.toArray;rw[RG,List.eraseIdxIfInBounds_toArray,uH]
 ·rw[List.length_dropLast];lia
def len_rep(xs:List α)(k:Nat):(Sd k xs).flatten.length=k*xs.length:=by
 induction k with
 |zero=>simp|succ k q=>rw[TQ,Uu,Sh,q,Nat.succ_mul,Nat.add_comm]
end
section
variable{prog:Sb}{w:SH}{A:TJ}{E:aA->RI->Prop}{s:RI}
set_option maxRecDepth 100000 in
end
section
variable{X:Cx}
end
end L2
namespace Att
open PySem PySem.W PySem.Calls PyProof.Rows
def mK:∀(ns:List Int)(vs:List aA),WellAll P h vs (ns.map WData.int)->Vp vs ns:=by
 intro ns
 induction ns with
 |nil =>
  intro vs w;rw[S6]at w;cases w;exact .nil
 |cons n ns q =>
  intro vs w;rw[Sf]at w;cases w with
  |cons a b =>
   cases a;exact .cons _ _ (q _ b)
def xU{l:OpenLaw}{n:Nat}(hn:l.most=aa n){P:Params}{h:aq}{args:List WData}{vals:List aA}
(B:l.row.toRowW.claim.pre args=ah)(O:WellAll P h vals args):
 ∃a vs ns,vals=[SJ a]/\args=[WData.list (ns.map WData.int)]/\h.get? a=aa {cls:=.type "list",data:=.seq vs.toArray}/\Vp vs ns/\ns.length<=n:=by
 have U:WShape.hasAll [] args [.list .int]=ah:=(pre_splitW B).1;have V:l.pre.holds [] {args:=args}=ah:=(pre_splitW B).2;obtain⟨d,r,rfl,f,e⟩:=hasAllW_cons U;obtain rfl:=hasAllW_nil e;obtain⟨g,rfl,c⟩:=hasW_list f;obtain⟨ns,rfl⟩:=items_int c;have D:ns.length<=n:=by
  unfold OpenLaw.pre at V;have M:(WTm.not (.lt (.lit (.int (n:Int))) (.len (.arg 0)))).holds [] {args:=[.list (ns.map .int)]}=ah:=by have M:=(holds_andW V).1;rw[hn]at M;exact M
  have L:=condW_of M (w_not (w_lt w_lit (w_len_list (w_arg rfl))));rw[RX]at L;refine Nat.le_of_not_lt λq=>?_;have Z:(n:Int)<((ns.length:Nat):Int):=by lia
  first
   |(rw[bO Z]at L;exact bL L (by decide))
   |(simp at L;lia)
 cases O with
 |cons Y W =>
  cases W;cases Y with
  |list b J=>exact⟨_,_,ns,rfl,rfl,b,mK ns _ J,D⟩
def xV(l:OpenLaw)(args:List WData):l.row.toRowW.claim.post args (.bool ah) args=ah :=
 postW_of (r:=l.row.toRowW) (X:=(ah==ah))
  (show WShape.has [] (.bool ah) .bool=ah by first|rfl|decide|simp[WShape.has,WShape.arms,WShape.armsAll])
  (show(WTm.eq .res (.lit (.bool ah))).value [] {args:=args,res:=aa (.bool ah),after:=args}=aa (.bool (ah==ah)) from w_eq_bool (w_res rfl) w_lit) rfl
def su{l:OpenLaw}{n:Nat}{q:Sb}{loose:List ay}{XP:(ay->Option aA)->aq->Prop}{YP:SH->aq->Prop}{d:DefRec}
(hn:l.most=aa n)(b:d.params.defaults=[])
(call:∀ (w:SH) (s₀ B:RI) (mg V:ay->Option aA) (O:az) (o:ao) (pm U doc:aA) (a:az) (vs:List aA) (ns:List Int),
  Ground q loose [] XP w s₀ mg V B.heap->YP w B.heap →
  B.heap.get? O=aa o->o.data=.func (docDef d.name d.params d.body d.scope pm U doc)->B.heap.CodeRec U d.name->mg d.name=aa (.ref O) →
  B.heap.get? a=aa {cls:=.type "list",data:=.seq vs.toArray}->Vp vs ns->ns.length<=n->B.gens=#[] →
  ak (R6 l.prog w) Yp (.call (.ref O) ⟨[.ref a],[]⟩) (λr s'=>r=.ok (.ret (.bool ah))/\OldK B.heap s'.heap/\s'.os=B.os/\XQ s'.gens) B):
 WalkO q loose XP YP l.row.toRowW d [] (λf vs=>Yu f vs):=by
 intro w s₀ B mg V G Y O o pm U doc x kV k hd c g Z s h vals y J e i W p;obtain rfl:x=.none:=Dflts.none g b;obtain rfl:kV=.none:=Dflts.noKw g;obtain⟨a,vs,ns,rfl,rfl,L,D,M⟩:=xU hn J W;refine enter_call (codeAny_mono (call w s₀ B mg V O o pm U doc a vs ns G Y k (fd_plain hd) c Z L D M s) λr s' j=>?_);obtain⟨rfl,v,u,t⟩:=j;exact⟨.inl ⟨.bool ah,.bool ah,[],rfl,λ_=>rfl,.bool ah,xV l _,λ_=>⟨Xa,λ_ m=>(nomatch m)⟩⟩,v,u,t⟩
section
variable{prog:Sb}{w:SH}{A:TJ}{E:aA->RI->Prop}{s:RI}{K:Frag}
noncomputable def ledger(h:aq)(L d:az):List (az×ao):=(Sy h.objs.size).filterMap λa=>if a=L\/a=d then af else(h.get? a).map λo=>(a,o)
end
end Att
namespace L2
open PySem PySem.Spec PyProof.Rows
theorem jV:∀{vs:List aA}{ns:List Int},Vp vs ns->dg (ns.map V.int) vs
 |_,_,.nil=>.nil|_,_,.cons n t h=>.cons ⟨t,rfl⟩ (jV h)
end L2
namespace L2
open PySem PySem.Spec PyProof.Rows
noncomputable abbrev KOf{K:RB}{h:aq}(_:K.In h):RB:=K
end L2
/- THE LAST THEOREM (shape;LID,My.* are yours):
 My.Adr: a structure of the addresses that your layer names (classes,functions);My.Txt K t: a structure (Prop) of the equations over K;
 My.txt_mk:{K}{implicit addresses ..} (e1:nsIn K R8 "law"=aa (aa (.ref f))) (e2:K.lookup f=aa ⟨oc,od,.func (fnOf "law" "law" params body scope dV kV doc pm an cdv ct),sl⟩) (e3:codeIn K cdv "law"=ah) ..:∃t,My.Txt K t
set_option maxRecDepth 100000 in
set_option maxHeartbeats 0 in
def PySem.Challenge.DL:PySem.Challenge.rw_LID.Holds:=by
 w_on;o_law;k_head;(case hw=>w_witness2)
 k_fill
 refine L2.walk_of (l:=PySem.Challenge.rw_LID) (n:=63) (k:=40) (x:="script") (CX:=λw=>..) (sp:=λ_=>My.CZ) rfl (by decide) rfl ⟨rfl,by decide,by decide⟩ (λw h Y=>PySem.W.kIn_of Y) ?F ?S ?C
 case F =>
  intro w c U h O G M;have T:∃t,My.Txt (L2.KOf O) t:=by
   dsimp only[L2.KOf] -- K must stand as «<heap const> w.params» for k_is;refine' My.txt_mk ?e1 ?e2 ?e3 ..
   (case e1=>PySem.W.k_is) -- in q order: a name->its address->its object->its parts
   (case e2=>PySem.W.k_is)
   ..
  obtain⟨t,T⟩:=T;have V:=M.symm.trans (UH O G T.law);cases V -- U is q law's own address;exact⟨_,λs u=>.of_eq rfl,λB L J=>My.law_fn T L J⟩ -- if «.of_eq rfl» comes too early: refine' ⟨_,?b,λB L J=>My.law_fn T L J⟩;exact λs u=>.of_eq rfl
 case S=>exact λw H a Z d f e=>..
 case C=>exact ..
(q D k_is has no namespace: write k_is) -/
namespace L2
open PySem PySem.Spec PyProof.Rows
abbrev CX0:CXT:=λ_ _ _ _ _ _=>False
abbrev E0:XK:=λ_ _ _=>False
def nA:i9 CX0 X E0:=λ_ _ _ _ _ _ _ h=>h.elim
inductive Lu(K:RB)(x qual:ay)(st:W0)(f:az)(fd:Uv):Prop
 |mk(B:aA)(q:Option az)(kV doc pm:aA)(an:Option az)(cdv ct:aA)(osl:Array (Option aA))(h1:fd=TV x qual (fR st) (dP st) (c6 st) .none kV doc pm an cdv ct)(h2:K.lookup f=aa ⟨B,q,.func fd,osl⟩)(D:VI K cdv qual=ah):Lu K x qual st f fd
structure Fun(K:RB)(x qual:ay)(st:W0)(f:az)(fd:Uv):Prop where
 ex:Lu K x qual st f fd
 kp:Tw K (.ref f)=ah
section
variable{P:Sb}{w:SH}{K:RB}{mg:ay->Option aA}{base:aq}
def Fun.binds{st:W0}(F:Fun K x qual st f fd)
(h:∀(kV doc pm:aA)(an:Option az)(cdv ct:aA)(us:List aA),us.length=ps.length->Yq (TV x qual (fR st) (dP st) (c6 st) .none kV doc pm an cdv ct) ⟨us,[]⟩=pure (ps.zip us)):Binds K fd ps []:=by
 obtain⟨D,B,kV,doc,pm,an,cdv,ct,osl,rfl,J,q⟩:=F.ex;exact .all (h kV doc pm an cdv ct)
def Hz{st:W0}{osl:Array (Option aA)}{kV:aA}(l:K.lookup f=aa ⟨oc,od,.func (TV x qual (fR st) (dP st) (c6 st) .none kV doc pm an cdv ct),osl⟩)
(c:VI K cdv qual=ah)(k:Tw K (.ref f)=ah):Fun K x qual st f (TV x qual (fR st) (dP st) (c6 st) .none kV doc pm an cdv ct):=⟨⟨oc,od,kV,doc,pm,an,cdv,ct,osl,rfl,l,c⟩,k⟩
end
def xW(h:n<=1000):n<aj:=Nat.lt_of_le_of_lt h (by decide)
section
variable{X:Cx}
end
end L2
end
section
namespace L2
open PySem PySem.Spec PyProof.Rows
section
variable{κ:Type}[DecidableEq κ]
noncomputable def sy(kvs:List (κ×V))(k:κ):Option V:=(kvs.find? λq=>decide (q.1=k)).map (·.2)
noncomputable def putK(kvs:List (κ×V))(k:κ)(v:V):List (κ×V) :=
 if(kvs.any λq=>decide (q.1=k))=ah then kvs.map (λq=>if q.1=k then(q.1,v)else q)else kvs++[(k,v)]
def sA{p:κ×V}{r:List (κ×V)}{k:κ}(e:p.1=k):sy (p::r) k=aa p.2:=by simp[sy,Uo,e]
def sC{p:κ×V}{r:List (κ×V)}{k:κ}(e:¬p.1=k):sy (p::r) k=sy r k:=by simp[sy,Uo,e]
def KV.val{kvs:List (κ×V)}{vs:List (κ×aA)}(r:KV kvs vs)(k:κ):nh (sy kvs k) (valueAt vs k):=by
 unfold KV at r
 induction r with
 |nil=>exact UG
 |@cons p q O B h t L =>
  obtain⟨J,M⟩:=h
  by_cases e:p.1=k
  ·have D:q.1=k:=J.symm.trans e;have b:valueAt (q::B) k=aa q.2:=by simp[valueAt,Uo,D]
   rw[sA e,b];exact M
  ·have D:¬q.1=k:=λz=>e (J.trans z);have b:valueAt (q::B) k=valueAt B k:=by simp[valueAt,Uo,D]
   rw[sC e,b];exact L
end
def zV(r:RelV (kV k) u):(dF P w).is k u=ah:=by
 cases k with
 |inl i=>obtain⟨t,e⟩:=(show ∃t,u=Vb i t from r);subst e;exact rT P w i t|inr x=>obtain⟨t,e⟩:=(show ∃t,u=XD x t from r);subst e;exact iA P w x t
section
variable{P:Sb}{w:SH}{H:Hp}{h:aq}{a:az}
def Lv(ok:HOk P w H h)(e:Rd H a u):gC P w H h a u:=e.ok ok
def Lx(ok:HOk P w H h)(e:Rd H a (.dK kvs)):kvs.length<=aj/\(a==U4)=ai/\∃vs,KV kvs vs/\h.DictOf (dF P w) a vs :=
 show gC P w H h a (.dK kvs) from Lv ok e
end
section
variable{X:Cx}{zt:List (az×ao)}{σ:St}{H:Hp}{s:RI}{a:az}{y v:V}{u r:aA}{o:Option V}{A:TJ}{E:aA->RI->Prop}
end
end L2
end
section
namespace BT
open PySem PySem.W PyProof.Rows
noncomputable def Ends{q:Type}(n:Nat)(P:q->Prop):KasT q->Prop
 |.ret a=>P a|.ask i j k=>i<n/\j<n/\∀b,Ends n P (k b)
end BT
end
section
namespace BS
open PySem PySem.W PySem.Spec PyProof.Rows
section
variable{E:aA->RI->Prop}
end
end BS
end
section
namespace BX
open PySem PyProof.Rows
def Ri(xs:Array Nat):Prop:=∀i j a b:Nat,i<j->xs[i]?=aa a->xs[j]?=aa b->a<b
def zW(h:Ri xs)(j:Nat):∀(q lo hi:Nat),lo<=hi->hi<=xs.size->hi-lo<=q->(∀i a,i<lo->xs[i]?=aa a->a<j)->(∀i a,hi<=i->xs[i]?=aa a->j<=a) →
 (∀i a,i<SetTable.below.go xs j q lo hi->xs[i]?=aa a->a<j)/\(∀i a,SetTable.below.go xs j q lo hi<=i->xs[i]?=aa a->j<=a)/\SetTable.below.go xs j q lo hi<=xs.size:=by
 intro q
 induction q with
 |zero =>
  intro lo hi Y L W J D;have:lo=hi:=by lia
  subst this;exact⟨J,D,L⟩
 |succ q U =>
  intro lo hi Y L W J D
  by_cases c:lo<hi
  ·have V:(lo+hi)/2<xs.size:=by lia
   have M:xs[(lo+hi)/2]?=aa xs[(lo+hi)/2]:=Sq V;have Z:xs.getD ((lo+hi)/2) j=xs[(lo+hi)/2]:=by simp[Array.getD,V]
   have e:SetTable.below.go xs j (q+1) lo hi=if xs.getD ((lo+hi)/2) j<j then SetTable.below.go xs j q ((lo+hi)/2+1) hi else SetTable.below.go xs j q lo ((lo+hi)/2):=by show(if lo<hi then _ else lo)=_;rw[bJ c]
   rw[e,Z]
   by_cases d:xs[(lo+hi)/2]<j
   ·rw[bJ d];refine U _ _ (by lia) L (by lia) (λi a O B=>?_) D;rcases R0 i ((lo+hi)/2)with z|z
    have:=h i _ a _ z B M;lia
    ·have:i=(lo+hi)/2:=by lia
     subst this;rw[M]at B;cases B;exact d
   ·rw[bK d];refine U _ _ (by lia) (by lia) (by lia) J (λi a O B=>?_);rcases R0 ((lo+hi)/2) i with z|z
    have:=h _ i _ a z M B;lia
    ·have:i=(lo+hi)/2:=by lia
     subst this;rw[M]at B;cases B;lia
  ·have e:SetTable.below.go xs j (q+1) lo hi=lo:=by show(if lo<hi then _ else lo)=_;rw[bK c]
   have:lo=hi:=by lia
   subst this;rw[e];exact⟨J,D,L⟩
def kq(h:Ri xs)(j:Nat):(∀i a,i<SetTable.below xs j->xs[i]?=aa a->a<j)/\(∀i a,SetTable.below xs j<=i->xs[i]?=aa a->j<=a)/\SetTable.below xs j<=xs.size :=
 zW h j xs.size 0 xs.size (SV _) (RQ _) (by lia) (λi a z=>bL z (W7 _)) (λi a z e=>by have:xs[i]?=af:=Tc z;rw[this]at e;cases e)
def kN(xs:Array α)(B:p<=xs.size)(x:α)(i:Nat):(SetTable.insertAt xs p x)[i]?=if i<p then xs[i]? else if i=p then aa x else xs[i-1]?:=by
 unfold SetTable.insertAt;have q:((xs.extract 0 p).push x).size=p+1:=by simp;lia
 by_cases c:i<p
 ·rw[bJ c,WV (by lia),X6,bK (by simp;lia),Xv];simp;lia
 ·rw[bK c]
  by_cases d:i=p
  ·subst d;rw[bJ rfl,WV (by lia),X6,bJ (by simp;lia)]
  ·rw[bK d,Array.getElem?_append_right (by lia),q,Xv];simp;split;congr 1;lia
   ·rename_i z
    symm
    exact Tc (by lia)
def HA(h:Ri xs)(hn:xs[SetTable.below xs j]?≠aa j):Ri (SetTable.insertAt xs (SetTable.below xs j) j):=by
 obtain⟨Y,W,f⟩:=kq h j;intro i k a b L B D;rw[kN xs f]at B D;generalize SetTable.below xs j=p at *;have d:∀i a,p<=i->xs[i]?=aa a->j<a:=λi a Z e=>by
  have:=W i a Z e;rcases R0 j a with z|z
  exact z
  ·have:a=j:=by lia
   subst this;rcases R0 p i with q|q
   ·cases J:xs[p]? with
    |none =>
     have:xs.size<=p:=by
      rcases R0 p xs.size with w|w
      rw[Sq w]at J;cases J;exact w
     rw[Tc (by lia)]at e;cases e
    |some y =>
     have l:=h p i y a q J e;have g:=W p y (RQ _) J;lia
   ·have:i=p:=by lia
    subst this;exact bL e hn
 by_cases V:k<p
 ·rw[bJ V]at D;rw[bJ (by lia)]at B;exact h i k a b L B D
 ·rw[bK V]at D
  by_cases U:k=p
  ·rw[bJ U]at D;cases D;rw[bJ (by lia)]at B;exact Y i a (by lia) B
  ·rw[bK U]at D;have c:=d (k-1) b (by lia) D
   by_cases M:i<p
   ·rw[bJ M]at B;have:=Y i a M B;lia
   ·rw[bK M]at B
    by_cases O:i=p
    rw[bJ O]at B;cases B;exact c
    ·rw[bK O]at B;exact h (i-1) (k-1) a b (by lia) B D
def zX(n:Nat):Ri (Array.range n):=by
 intro i j a b D B q;rw[Array.getElem?_range]at B q;split at B
 ·split at q;cases B;cases q;exact D;cases q
 cases B
def DM{l:List Nat}(h:l.Pairwise (· < ·)):Ri l.toArray:=by intro i j a b q D B;simp only[XS]at D B;obtain⟨L,rfl⟩:=List.getElem?_eq_some_iff.mp D;obtain⟨J,rfl⟩:=List.getElem?_eq_some_iff.mp B;exact List.pairwise_iff_getElem.mp h i j L J q
structure Tb(bt:Bool)(t:SetTable):Prop where
 led:t.led=!bt
 ri:Ri t.place
def zY(bt:Bool):Tb bt (SetTable.fresh 0 0 (!bt)):=⟨rfl,λi j a b _ e=>by simp[SetTable.fresh]at e⟩
def kR(h:Tb bt t)(n:Nat):Tb bt (SetTable.standIn t n):=⟨h.led,zX n⟩
def Fre(t:SetTable)(j:Nat):Prop:=t.place[SetTable.below t.place j]?≠aa j
def sD(h:t.slot j=.empty\/t.slot j=.dummy):Fre t j:=by
 intro z;have e:t.slot j=.live (SetTable.below t.place j):=by unfold SetTable.slot;simp[z]
 rw[e]at h;rcases h with h|h<;>cases h
def zZ(t:SetTable)(g:Nat->Int)(h:Int):∀(B:Nat)(p:SetTable.Probe)(j:Nat)(d:Option Nat),(∀x,p.dummy=aa x->Fre t x)->SetTable.probe.go t g h B p=aa (.empty j d)->Fre t j/\∀x,d=aa x->Fre t x:=by
 intro B
 induction B with
 |zero=>intro p j d _ e;cases e
 |succ B L =>
  intro p j d M e;have O:SetTable.probe.go t g h (B+1) p=(match t.slot p.j with
   |.empty=>aa (.empty p.j p.dummy)|.dummy=>SetTable.probe.go t g h B (SetTable.advance t {p with dummy:=aa p.j})
   | .live i=>if (g i==h)=ah then aa (.candidate p.j i (SetTable.advance t p)) else SetTable.probe.go t g h B (SetTable.advance t p)):=rfl
  rw[O]at e;have J:∀q:SetTable.Probe,(SetTable.advance t q).dummy=q.dummy:=λq=>by unfold SetTable.advance;split<;>rfl
  cases s:t.slot p.j with
  |empty =>
   rw[s]at e;cases e;exact⟨sD (.inl s),M⟩
  |dummy =>
   rw[s]at e;exact L _ j d (λx D=>by rw[J]at D;cases D;exact sD (.inr s)) e
  |live i =>
   rw[s]at e;simp only at e;split at e;cases e;exact L _ j d (λx D=>by rw[J]at D;exact M x D) e
def Aa(e:SetTable.freeSlot t h=aa (j,b)):Fre t j:=by
 unfold SetTable.freeSlot at e;split at e
 ·rename_i q d D;cases e;obtain⟨L,J⟩:=zZ t _ h _ _ q d (λx B=>by simp[SetTable.probeStart]at B) D;cases d with
  |none=>exact L|some x=>exact J x rfl
 cases e
def HB(h:Tb bt t)(es:Array (Int×aA))(k:Int)(x:aA):Tb bt (layNew t es k x).2.1:=by
 unfold layNew;split
 ·rename_i q J e;have D:=Aa e;have B:Tb bt (SetTable.put t q).1:=⟨h.led,HA h.ri D⟩;simp only;show Tb bt (SetTable.orStandIn _ _);unfold SetTable.orStandIn;split;exact B;exact kR B _
 exact kR h _
def Ab{bt:Bool}(h:Tb bt t)(es:Array (Int×aA))(n:Nat):Tb bt (relayAll t es n).2.1:=by
 unfold relayAll;split
 ·rename_i J B e;have O:Tb bt J:=by
   unfold SetTable.relaid SetTable.laid at e;cases g:SetTable.layClean (SetTable.sizeAbove n-1) (es.map λx=>x.1)with
   |none=>rw[g]at e;cases e
   |some q =>
    rw[g]at e;cases e;refine⟨h.led,DM ?_⟩;rw[List.pairwise_map];refine List.Pairwise.filterMap _ (λa b D x M y L=>?_) List.pairwise_lt_range;obtain⟨_,_,rfl⟩:=Option.map_eq_some_iff.mp M;obtain⟨_,_,rfl⟩:=Option.map_eq_some_iff.mp L;exact D
  simp only;split;exact O;exact kR h _
 exact kR h _
section
variable{prog:Sb}{w:SH}{A:TJ}{E:aA->RI->Prop}{s:RI}
def o8(prog:Sb)(w:SH)(bt:Bool)(h:aq)(a:az)(S:Int->Bool)(n:Nat):Prop :=
 ∃o q B t,h.get? a=aa o/\o.ExactSet/\o.data=.set q B t/\ElemsOf (intKind prog w) q.toList/\(∀k,S k=ah↔∃e∈q.toList,(intKind prog w).is k e.2=ah)/\q.size<U9/\t.fits q.size=ah/\q.size=n/\Tb bt t
def Rp{g:Bool->Sem Unit}(D:∀(b:Bool)(q:RI)(Q:Unit->RI->Prop),Q () q->av (R6 prog w) A (g b) Q E q){b:Bool}{B:Type}{f:Unit->Sem B}{Q:B->RI->Prop}(h:av (R6 prog w) A (f ()) Q E s):av (R6 prog w) A (g b >>= f) Q E s :=
 Rz (D b s _ h)
def add_int{S:Int->Bool}(hs:o8 prog w bt s.heap a S n)(hn:n+1<U9)
(H:∀b h',S7 a s.heap h'->o8 prog w bt h' a (λM=>S M||decide (M=k)) (if S k=ah then n else n+1)->Q b {s with heap:=h'}):
 av (R6 prog w) A (setAddHashed a (.int k tk) ((intKind prog w).hash k)) Q E s:=by
 obtain⟨o,U,ep,t,m,O,hd,G,C,hb,T,rfl,ht⟩:=hs;have R:=intKind_is prog w k tk;unfold setAddHashed;refine SQ ?_;rw[setAddHashedIn.eq_def];show av _ _ (setState a >>= _) _ _ s;refine Rz (Ud m hd T ?_);simp only;rw[bJ (byScan_of (knd:=intKind prog w) rfl hb G)];refine Rz ?_;unfold setAddByScan;refine Rz (Vk ?_);refine Rz ?_;show av _ _ (setScanFrom a (.int k tk) ((intKind prog w).hash k) ah U.toList 0) _ _ s;refine wpAny_setScanFrom_of (knd:=intKind prog w) R m hd T U.toList 0 G ?_;cases g:U.toList.findIdx? λe=>(intKind prog w).is k e.2 with
 |some j =>
  have F:S k=ah:=by obtain⟨hj,Z,_⟩:=List.findIdx?_eq_some_iff_getElem.mp g;exact(C k).mpr ⟨_,VA hj,Z⟩
  refine au (au (H _ _ (U7 _ _) ?_));rw[bJ F];refine⟨o,U,ep,t,m,O,hd,G,λM=>?_,hb,T,rfl,ht⟩;rw[←C M]
  by_cases c:M=k
  subst c;simp[F];simp[c]
 |none =>
  have F:¬S k=ah:=λz=>by obtain⟨e,Z,p⟩:=(C k).mp z;have:=List.findIdx?_eq_none_iff.mp g e Z;rw[p]at this;cases this
  rw[bK F]at H;have x:=layNew_fits t U ((intKind prog w).hash k) (.int k tk);have I:=layNew_perm t U ((intKind prog w).hash k) (.int k tk);have v:=HB ht U ((intKind prog w).hash k) (.int k tk);dsimp only;generalize layNew t U ((intKind prog w).hash k) (.int k tk)=r at x I v⊢;obtain⟨q,B,u,gv⟩:=r;simp only at x I v⊢;have Y:q.toList.Perm (U.toList++[((intKind prog w).hash k,.int k tk)]):=by simpa using I
  have sz:q.size=U.size+1:=by have:=Y.length_eq;simpa using this
  have e1:=(G.push R rfl).perm Y;have P:=mem_push_iff R C Y;have X:q.size<U9:=by lia
  have fin:av (R6 prog w) A (WD a q B >>= λ_=>if(!u&&B.tooFull)=ah then(match relayAll B q (SetTable.grown q.size)with|(J,W,L)=>(match L with|true=>rule "set.scan.the-table-gave-way" |false=>pure ()) >>= λ_=>WD a J W >>= λ_=>pure (aa ah))else pure (aa ah))
   (λV l=>av (R6 prog w) A (match V with|some D=>pure D|none=>XX a (.int k tk) ((intKind prog w).hash k) 99999) Q E l) E s:=by
   obtain⟨ob,_⟩:=SetOf_store m O hd e1 P X x;refine Rz (wpAny_storeSet_of m hd ?_ (by rw[sz];exact U5 hn))
   by_cases c:(!u&&B.tooFull)=ah
   ·rw[bJ c];have y:=relayAll_fits B q (SetTable.grown q.size);have f:=relayAll_perm B q (SetTable.grown q.size);have K:=Ab v q (SetTable.grown q.size);generalize relayAll B q (SetTable.grown q.size)=r at y f K⊢;obtain⟨J,W,L⟩:=r;simp only at y f K⊢;have i:J.size=U.size+1:=by have:=f.length_eq;simp at this;lia
    have e2:=e1.perm f;have m2:∀M,(S M||decide (M=k))=ah↔∃e∈J.toList,(intKind prog w).is M e.2=ah:=λM=>(P M).trans ⟨λ⟨e,Z,p⟩=>⟨e,f.mem_iff.mpr Z,p⟩,λ⟨e,Z,p⟩=>⟨e,f.mem_iff.mp Z,p⟩⟩;have nx:av (R6 prog w) A (WD a J W >>= λ_=>pure (aa ah)) (λV l=>av (R6 prog w) A (match V with|some D=>pure D|none=>XX a (.int k tk) ((intKind prog w).hash k) 99999) Q E l) E {s with heap:=s.heap.update a (Obj.putSet q B)}:=by obtain⟨N,_⟩:=SetOf_store (h:=s.heap.update a (Obj.putSet q B)) ob ⟨O.1,O.2.1,O.2.2⟩ rfl e2 m2 (by lia) y;refine Rz (wpAny_storeSet_of (s:={s with heap:=s.heap.update a (Obj.putSet q B)}) ob rfl ?_ (by rw[i];exact U5 hn));refine au (au (H ah _ ((SC ..).trans (SC ..)) ?_));exact⟨_,J,_,W,N,⟨O.1,O.2.1,O.2.2⟩,rfl,e2,m2,by lia,y,i,K⟩
    refine Rz ?_;cases L with
    |true=>exact Vk nx|false=>exact au nx
   ·rw[bK c];refine au (au (H ah _ (SC ..) ?_));exact⟨_,q,_,B,ob,⟨O.1,O.2.1,O.2.2⟩,rfl,e1,P,X,x,sz,v⟩
  refine Rz ?_;have nx:av (R6 prog w) A (if B.plain=ah then hashByValue 8 (.int k tk) >>= λd=>WD a q (if d=ah then B else { B with plain:=ai }) >>= λ_=>if (!u&&(if d=ah then B else { B with plain:=ai }).tooFull)=ah then (match relayAll (if d=ah then B else { B with plain:=ai }) q (SetTable.grown q.size) with | (J,W,L)=>(match L with | true=>rule "set.scan.the-table-gave-way" | false=>pure ()) >>= λ_=>WD a J W >>= λ_=>pure (aa ah)) else pure (aa ah) else
   (pure ah >>= λd=>WD a q (if d=ah then B else { B with plain:=ai }) >>= λ_=>if (!u&&(if d=ah then B else { B with plain:=ai }).tooFull)=ah then (match relayAll (if d=ah then B else { B with plain:=ai }) q (SetTable.grown q.size) with | (J,W,L)=>(match L with | true=>rule "set.scan.the-table-gave-way" | false=>pure ()) >>= λ_=>WD a J W >>= λ_=>pure (aa ah)) else pure (aa ah)))
   (λV l=>av (R6 prog w) A (match V with|some D=>pure D|none=>XX a (.int k tk) ((intKind prog w).hash k) 99999) Q E l) E s:=by
   by_cases c:B.plain=ah
   ·rw[bJ c];refine Rz ?_;rw[hashByValue.eq_def];exact au fin
   ·rw[bK c];exact Rz (au fin)
  cases gv with
  |true=>refine Vk ?_;exact nx|false=>refine au ?_;exact nx
end
section
variable{prog:Sb}{w:SH}{A:TJ}{E:aA->RI->Prop}{R:XF->RI->Prop}
def Ac(E:A.handled=af){S:az}(hi:Vp items.toList ns)(B:S≠it)(h:S≠l)(f:it≠l)(H:items.size+1<U9):
 ∀(k i:Nat)(s:RI),items.size-i=k->i<=items.size->s.heap.IsListIter it l i->s.heap.IsList l items->o8 prog w bt s.heap S (λq=>(T7 (λi=>ns.getD i 0) i).any (·==q)) (T7 (λi=>ns.getD i 0) i).length →
  (∀h' tk,(∀b o,b≠S->b≠it->s.heap.get? b=aa o->h'.get? b=aa o)->o8 prog w bt h' S (λq=>(T7 (λi=>ns.getD i 0) items.size).any (·==q)) (T7 (λi=>ns.getD i 0) items.size).length->R (.ok (.ret .none)) {s with heap:=h',toks:=tk}) →
  ak (R6 prog w) A (.builtin "set.update.loop" ⟨[.ref S,.ref it],[]⟩) R s:=by
 intro k
 induction k with
 |zero =>
  intro i s C g p V n m;have:i=items.size:=by lia
  subst this;refine codeAny_builtin F.entry_set_update_loop ?_;rw[To F.plain_set_update_loop _];show av _ A.in1 (Vh (.ref it) >>= _) _ _ _;refine Rz (wpAny_pyNext_list_end (A:=A.in1) E p V (Tc (RQ _)) λh' M=>?_);refine au (m h' s.toks (λb o _ J e=>M b o J e) ?_);obtain⟨o,v,x,t,u,W⟩:=n;exact⟨o,v,x,t,M S o B u,W⟩
 |succ k z =>
  intro i s C g p V n m;have O:i<items.size:=by lia
  have M:items[i]?=aa items[i]:=Sq O;obtain⟨tk,ex⟩:=hi.int_at i items[i] (by simpa using M);refine codeAny_builtin F.entry_set_update_loop ?_;rw[To F.plain_set_update_loop _];show av _ A.in1 (Vh (.ref it) >>= _) _ _ _;refine Rz (wpAny_pyNext_list_item p V M λh' u W=>?_);rw[ex];have j:o8 prog w bt h' S (λq=>(T7 (λi=>ns.getD i 0) i).any (·==q)) (T7 (λi=>ns.getD i 0) i).length:=by obtain⟨o,v,x,t,a,Z⟩:=n;exact⟨o,v,x,t,(W.2 S B).trans a,Z⟩
  have G:(T7 (λi=>ns.getD i 0) i).length<=i:=firstMet_length_le _ _;refine Rz (SQ ?_);unfold setAdd;refine SQ (Rz (wpAny_pyHash_int ?_));refine add_int (bt:=bt) (s:={s with heap:=h',toks:=s.toks+1}) j (by lia) λb D y k2=>?_;have d:o8 prog w bt D S (λq=>(T7 (λi=>ns.getD i 0) (i+1)).any (·==q)) (T7 (λi=>ns.getD i 0) (i+1)).length:=by
   have e1:(λq=>(T7 (λi=>ns.getD i 0) (i+1)).any (·==q))=λq=>(T7 (λi=>ns.getD i 0) i).any (·==q)||decide (q=ns.getD i 0):=by funext q;rw[firstMet_succ,step_any]
   rw[e1,firstMet_succ,step_length];exact k2
  have L:∀c o,c≠S->c≠it->s.heap.get? c=aa o->D.get? c=aa o:=λc o U J e=>(y.2 c U).trans ((W.2 c J).trans e);refine au ⟨plainId_quiet F.plain_set_update_loop _,z (i+1) {s with heap:=D,toks:=s.toks+1} (by lia) O ?_ ?_ d λr Y a Z=>?_⟩
  ·obtain⟨o,e1,e2⟩:=u;exact⟨o,(y.2 it (SM B)).trans e1,e2⟩
  ·obtain⟨o,e1,e2⟩:=V;exact⟨o,L l o (SM h) (SM f) e1,e2⟩
  exact m r Y (λc o U J e=>a c o U J (L c o U J e)) Z
end
section
variable{prog:Sb}{w:SH}{A:TJ}{E:aA->RI->Prop}{s:RI}
def kT(h:Q (w.params.followText "set-order") s):av (R6 prog w) A setsByText Q E s:=by unfold setsByText;exact Rz (wpAny_askSetting (au h))
def Ad{S:az}(a:A.handled=af)(q:s.heap.IsList l items)(hi:Vp items.toList ns)(c:items.size+1<U9)(L:S≠l)
(B:s.heap.get? S=aa {cls:=.type "set",data:=.set #[] 0 (SetTable.fresh 0 0 (!w.params.followText "set-order"))})
(g:∀h' tk,(∀b o,b≠S->s.heap.get? b=aa o->h'.get? b=aa o)->o8 prog w (w.params.followText "set-order") h' S (λZ=>(T7 (λi=>ns.getD i 0) items.size).any (·==Z)) (T7 (λi=>ns.getD i 0) items.size).length->R (.ok (.ret .none)) {s with heap:=h',toks:=tk}):
 av (R6 prog w) A.in1 (Builtin.«set.__init__» ⟨[.ref S,.ref l],[]⟩)
  (λfin s'=>match fin with|.done f=>R (.ok f) s'|.again O=>O.quiet=ah/\ak (R6 prog w) A O R s') (λe s'=>R (.error e) s') s:=by
 have d:s.TypeIs (.ref S) "set":=⟨_,B,rfl⟩;unfold Builtin.«set.__init__»;refine Rz (au ?_);dsimp only;refine Rz ?_;unfold typeNameOfCut shownTypeOf;refine Rz ?_;refine Rz (UR d ?_);rw[bK (by decide)];refine au ?_;show av _ _ (typeName (.type "set")) _ _ s;refine au ?_;refine Rz (au ?_);refine Rz (au ?_);refine Rz ?_;unfold setUsed;refine Rz (Ud B rfl rfl (au ?_));rw[bK (show ¬((SetTable.fresh 0 0 (!w.params.followText "set-order")).fill != 0)=ah from Sn)];refine Rz ?_;unfold Builtin.Frozenset.updateFrom;refine Rz ?_;have M:s.TypeIs (.ref l) "list":=q.typeIs;unfold Builtin.Frozenset.isAnySet;refine Rz (UM (b:=ai) M (isSubtype_of_subB (by decide +kernel)) ?_);show av _ _ (isInstance (.ref l) (.type "frozenset")) _ _ s;refine UM (b:=ai) M (isSubtype_of_subB (by decide +kernel)) ?_;rw[bK Sn];refine Rz (UR M ?_);rw[bK (by decide)];refine Rz (wpAny_pyIter_list q ?_);refine Rz (wpAny_runValue ?_);have W:S<s.heap.objs.size:=RL B;have V:l<s.heap.objs.size:=by obtain⟨o,e,_⟩:=q;exact RL e
 have D:∀b o,s.heap.get? b=aa o->(s.heap.push {cls:=.type "list_iterator",data:=.fields #[.ref l,.int 0 0]}).get? b=aa o:=λb o e=>RC _ e;refine Ac (bt:=w.params.followText "set-order") (A:=A.in1) a hi (Si W) L (SY V) c items.size 0 _ rfl (SV _) ⟨_,RM _ rfl,rfl,rfl⟩ ?_ ?_ λh' tk Y k2=>?_
 ·obtain⟨o,e,r⟩:=q;exact⟨o,D _ _ e,r⟩
 refine⟨_,#[],0,_,D _ _ B,⟨rfl,rfl,rfl⟩,rfl,λe J=>(by simp at J),λk=>⟨λz=>by simp[firstMet_zero]at z,λ⟨e,J,_⟩=>by simp at J⟩,by decide,rfl,by simp[firstMet_zero],zY _⟩;refine au (au (g h' tk (λb o U e=>Y b o U (Si (RL e)) (D b o e)) k2))
def DN(v:aA)(h:Q₁ (.ref s.heap.objs.size) {s with heap:=s.heap.push {cls:=.type "set",data:=.set #[] 0 (SetTable.fresh 0 0 (!w.params.followText "set-order"))} }):
 ak (R6 prog w) A (.call (.builtin "set.__new__") {pos:=[.type "set",v]}) (wants Q₁ E) s:=by
 refine codeAny_call_builtin (by decide +kernel) PySem.F.entry_set_new ?_;rw[PySem.F.newCall_set_1];refine au ?_;unfold Builtin.«set.__new__»;refine Rz (au ?_);refine Rz ?_;unfold newSet;refine Rz (kT ?_);refine Su ?_ (by size_fits);exact au h
def Ae(Z:A.handled=af)(O:s.heap.IsList l items)(hi:Vp items.toList ns)(a:items.size+1<U9)
(f:∀h' tk,o8 prog w (w.params.followText "set-order") h' s.heap.objs.size (λJ=>(T7 (λi=>ns.getD i 0) items.size).any (·==J)) (T7 (λi=>ns.getD i 0) items.size).length->(∀b o,s.heap.get? b=aa o->h'.get? b=aa o)->Q (.ref s.heap.objs.size) {s with heap:=h',toks:=tk}):
 av (R6 prog w) A (call (.type "set") [.ref l]) Q E s:=by
 have V:l<s.heap.objs.size:=by obtain⟨o,e,_⟩:=O;exact RL e
 have M:∀b o,s.heap.get? b=aa o->(s.heap.push {cls:=.type "set",data:=.set #[] 0 (SetTable.fresh 0 0 (!w.params.followText "set-order"))}).get? b=aa o:=λb o e=>RC _ e;have U:(s.heap.push {cls:=.type "set",data:=.set #[] 0 (SetTable.fresh 0 0 (!w.params.followText "set-order"))}).get? s.heap.objs.size=aa {cls:=.type "set",data:=.set #[] 0 (SetTable.fresh 0 0 (!w.params.followText "set-order"))}:=RM _ rfl;refine WW (codeAny_of_tree ?_);show av _ _ (pure (Fin.again (.builtin "type.__call__" ⟨[.type "set",.ref l],[]⟩))) _ _ s;refine au ⟨Code.quiet_builtin _ (by decide +kernel),codeAny_builtin PySem.F.entry_type_call ?_⟩;rw[Around.under_plain (weight_type_call_type "set" [.ref l] []) rfl];unfold Builtin.«type.__call__»;dsimp only;rw[bK (by rw[PySem.F.called_set.notType];exact Sn)];rw[bK (by rw[PySem.F.called_set.canCreate];exact Sn)];rw[PySem.F.typeCall_set_1];refine Rz (au ?_);obtain⟨c,tl,Y⟩:=PySem.F.called_set.mro;rw[Y];refine Rz (au ?_);rw[bK (by simp)];rw[PySem.F.called_set.made];refine Rz (au ?_);refine Rz (au ?_);refine Rz (SQ (WW ?_));refine codeAny_mono (DN (E:=E) (Q₁:=λB q=>B=.ref s.heap.objs.size/\q={s with heap:=s.heap.push {cls:=.type "set",data:=.set #[] 0 (SetTable.fresh 0 0 (!w.params.followText "set-order"))} }) _ ⟨rfl,rfl⟩) λr j h=>?_;cases r with
 |error e=>exact h
 |ok g =>
  cases g with
  |ret v =>
   obtain⟨rfl,rfl⟩:=(show _/\_ from h);have L:({s with heap:=s.heap.push {cls:=.type "set",data:=.set #[] 0 (SetTable.fresh 0 0 (!w.params.followText "set-order"))} }:RI).TypeIs (.ref s.heap.objs.size) "set":=⟨_,U,rfl⟩;refine Rz (UM (b:=ah) L PySem.F.called_set.sub ?_);rw[bK (by decide)];refine Rz (SQ (SG L PySem.F.slot_set_init (WW ?_)));have D:∀R:XF->RI->Prop,(∀h' tk,(∀b o,b≠s.heap.objs.size->(s.heap.push {cls:=.type "set",data:=.set #[] 0 (SetTable.fresh 0 0 (!w.params.followText "set-order"))}).get? b=aa o->h'.get? b=aa o)->o8 prog w (w.params.followText "set-order") h' s.heap.objs.size (λJ=>(T7 (λi=>ns.getD i 0) items.size).any (·==J)) (T7 (λi=>ns.getD i 0) items.size).length->R (.ok (.ret .none)) {s with heap:=h',toks:=tk}) →
    ak (R6 prog w) A.in1 (.call (.builtin "set.__init__") ⟨[.ref s.heap.objs.size,.ref l],[]⟩) R {s with heap:=s.heap.push {cls:=.type "set",data:=.set #[] 0 (SetTable.fresh 0 0 (!w.params.followText "set-order"))} }:=λR d =>
    codeAny_call_builtin (by decide +kernel) PySem.F.entry_set_init (check_set_init_1 L (Ad (prog:=prog) (w:=w) (s:={s with heap:=s.heap.push {cls:=.type "set",data:=.set #[] 0 (SetTable.fresh 0 0 (!w.params.followText "set-order"))} }) (A:=A.in1) Z (let ⟨o,e,r⟩:=O;⟨o,M _ _ e,r⟩) hi a (SY V) U d))
   refine D _ λh' tk W k2=>?_;show av _ _ (if(TL != TL)=ah then _ else PySem.ret (.ref s.heap.objs.size)) _ _ _;rw[bK (by decide)];exact au (f h' tk k2 λb o e=>W b o (Si (RL e)) (M b o e))
  |_=>exact h
end
def kU:Slot "set_iterator" (RV "__next__") "set_iterator.__next__":=Slot.of (owner:="set_iterator") (n:="__next__") (by rw[V4,Va];kernel_rfl) (by kernel_rfl) (by kernel_rfl) (by kernel_rfl) (.inl (by kernel_rfl)) (by rw[isSubtype_type];kernel_rfl) (by decide +kernel)
def sF:entryFor table "set_iterator.__next__"=aa Builtin.«set_iterator.__next__»:=by kernel_rfl
def uI:entryFor table "set.__iter__"=aa Builtin.«frozenset.__iter__»:=by kernel_rfl
def vQ(a:aA):argsOk "set_iterator.__next__" {pos:=[a]}:=by kernel_rfl
noncomputable def itO(first:aA)(i n ep:Nat)(a:az):ao:={cls:=.type "set_iterator",data:=.fields #[first,.int i 0,.ref a,.int n 0,.int ep 0]}
noncomputable def slotAt(pl:Array Nat):Nat->Nat
 |0=>0
 |i+1=>match pl[i]? with
  |some j=>j+1|none=>0
inductive Md(w:SH)(h:aq)(a:az)(es:Array (Int×aA))(ep:Nat)(t:SetTable):aA->List aA->Nat->Prop
 |A{z:Int}{i:Nat}(q:w.params.followText "set-order"=ah):Md w h a es ep t (.int z 0) ((Vm (w.params.setOrder a ep) es).toList.map (·.2)) i
 |B{T:az}{pl:List Nat}{i:Nat}(q:h.IsTuple T (pl.map λ(p:Nat)=>Vb p 0).toArray)(D:∀p∈pl,p<es.size):Md w h a es ep t (.ref T) (pl.filterMap λp=>es[p]?.map (·.2)) i
 |C{i:Nat}(q:w.params.followText "set-order"=ai)(hd:(!t.plain&&decide (es.size>1))=ai)(B:Tb ai t):Md w h a es ep t (.int (slotAt t.place i) 0) (es.toList.map (·.2)) i
structure NX(w:SH)(h:aq)(it a:az)(ord:List aA)(i:Nat):Prop where
 ex:∃o es ep t first,h.get? a=aa o/\o.data=.set es ep t/\t.fits es.size=ah/\h.get? it=aa (itO first i es.size ep a)/\Md w h a es ep t first ord i
def Md.at(m:Md w h a es ep t first ord i)(k:∀b o,(∃xs n,o.data=.seq xs n)->h.get? b=aa o->h'.get? b=aa o):Md w h' a es ep t first ord i:=by
 cases m with
 |A q=>exact .A q
 |B L J =>
  obtain⟨o,e,c,n,d⟩:=L;exact .B ⟨o,k _ o ⟨_,n,d⟩ e,c,n,d⟩ J
 |C q hd D=>exact .C q hd D
theorem eY(f:α->Option β):∀(l:List α),(∀x∈l,(f x).isSome=ah)->∀i:Nat,(l.filterMap f)[i]?=(l[i]?).bind f
 |[],_,i=>by simp
 |x::l,h,i=>by
  obtain⟨y,q⟩:=Option.isSome_iff_exists.mp (h x RZ);rw[SX,q];cases i with
  |zero=>simp[q]|succ i=>simpa using eY f l (λz B=>h z (RP _ B)) i
section
variable{prog:Sb}{w:SH}{A:TJ}{E:aA->RI->Prop}{s:RI}
def sG{t:SetTable}{n i:Nat}(h:Ri t.place)(hn:t.place.size=n)(hi:i<n):SetTable.below t.place (slotAt t.place i)=i/\∃j,t.place[i]?=aa j/\slotAt t.place (i+1)=j+1:=by
 obtain⟨L,J,V⟩:=kq h (slotAt t.place i);have B:t.place[i]?=aa t.place[i]:=Sq (by lia);refine⟨?_,t.place[i],B,by show(match t.place[i]? with|some j=>j+1|none=>0)=_;rw[B]⟩;have lo:∀k v,k<i->t.place[k]?=aa v->v<slotAt t.place i:=λk v M ev=>by
  cases i with
  |zero=>lia
  |succ i =>
   have q:t.place[i]?=aa t.place[i]:=Sq (by lia);have e:slotAt t.place (i+1)=t.place[i]+1:=by show(match t.place[i]? with|some j=>j+1|none=>0)=_;rw[q]
   rw[e];rcases R0 k i with z|z
   have:=h k i v _ z ev q;lia
   ·have:k=i:=by lia
    subst this;rw[q]at ev;cases ev;lia
 have D:slotAt t.place i<=t.place[i]:=by
  cases i with
  |zero=>exact SV _
  |succ i =>
   have q:t.place[i]?=aa t.place[i]:=Sq (by lia);have e:slotAt t.place (i+1)=t.place[i]+1:=by show(match t.place[i]? with|some j=>j+1|none=>0)=_;rw[q]
   rw[e];have:=h i (i+1) _ _ (T4 _) q B;lia
 rcases Nat.lt_trichotomy (SetTable.below t.place (slotAt t.place i)) i with z|z|z
 ·have q:t.place[SetTable.below t.place (slotAt t.place i)]?=aa t.place[SetTable.below t.place (slotAt t.place i)]:=Sq (by lia);have U:=lo _ _ z q;have O:=J _ _ (RQ _) q;lia
 exact z
 ·have:=L i _ z B;lia
def Af{t:SetTable}{n:Nat}(h:Ri t.place)(hn:t.place.size=n):n<=SetTable.below t.place (slotAt t.place n):=by
 obtain⟨D,B,J⟩:=kq h (slotAt t.place n);cases n with
 |zero=>exact SV _
 |succ n =>
  have q:t.place[n]?=aa t.place[n]:=Sq (by lia);have e:slotAt t.place (n+1)=t.place[n]+1:=by show(match t.place[n]? with|some j=>j+1|none=>0)=_;rw[q]
  rw[e]at D B⊢;rcases R0 n (SetTable.below t.place (t.place[n]+1))with z|z
  exact z
  ·have:=B n _ z q;lia
def Ah{h:aq}{q:az}{first B:aA}{i n ep:Nat}{a:az}(e:h.get? q=aa (itO first i n ep a)):((h.update q (TH λx=>x.setIfInBounds 0 B)).update q (TH λx=>x.setIfInBounds 1 (.int ((i:Int)+1) 0))).get? q=aa (itO B (i+1) n ep a):=by have e1:=Sj (TH λx=>x.setIfInBounds 0 B) e rfl;have e2:=Sj (TH λx=>x.setIfInBounds 1 (.int ((i:Int)+1) 0)) e1 rfl;rw[e2];rfl
def DO{h:aq}{q:az}{first:aA}{i n ep:Nat}{a:az}(e:h.get? q=aa (itO first i n ep a)):(h.update q (TH λx=>x.setIfInBounds 1 (.int ((i:Int)+1) 0))).get? q=aa (itO first (i+1) n ep a):=by have e2:=Sj (TH λx=>x.setIfInBounds 1 (.int ((i:Int)+1) 0)) e rfl;rw[e2];rfl
def Ai(q:s.heap.get? a=aa o)(hd:o.data=.set es ep t)(B:t.fits es.size=ah)(D:w.params.followText "set-order"=ah)
(h:Q ((Vm (w.params.setOrder a ep) es)[g]?.map λe=>(e.2,sl)) s):av (R6 prog w) A (setNext a sl g ep) Q E s:=by
 unfold setNext;refine Rz (Ud q hd B ?_);dsimp only;refine Rz (kT ?_);rw[bJ D,bK (by simp)];refine Rz ?_;unfold setWalk;refine Rz (Ud q hd B ?_);dsimp only;refine Rz (kT ?_);rw[bJ D];refine Rz (wpAny_askSetting (au (au ?_)));exact h
def Aj(D:s.heap.get? a=aa o)(hd:o.data=.set es ep t)(J:t.fits es.size=ah)(L:w.params.followText "set-order"=ai)
(q:(!t.plain&&decide (es.size>1))=ai)(B:Tb ai t)(h:Q (match es[SetTable.below t.place sl]?,t.place[SetTable.below t.place sl]? with|some (_,x),aa j=>aa (x,j+1)|_,_=>af) s):av (R6 prog w) A (setNext a sl g ep) Q E s:=by
 unfold setNext;refine Rz (Ud D hd J ?_);dsimp only;refine Rz (kT ?_);rw[L,bK Sn];show av _ _ (if(!t.plain&&decide (es.size>1))=ah then _ else _) _ _ s;rw[q,bK Sn];refine Rz ?_;show av _ _ (if(!t.led&&!es.isEmpty)=ah then unsupported "set:maker-not-led" else pure ()) _ _ s;rw[B.led];show av _ _ (if(!(!ai)&&!es.isEmpty)=ah then unsupported "set:maker-not-led" else pure ()) _ _ s;rw[bK (by simp)];exact au (au h)
def HC(q:s.heap.get? a=aa o)(hd:o.data=.set es ep t)(B:t.fits es.size=ah)(D:es[p]?=aa e)(h:Q e.2 s):av (R6 prog w) A (setNextDrawn a p ep) Q E s:=by unfold setNextDrawn;refine Rz (Ud q hd B ?_);dsimp only;rw[bK (by simp),D];exact au h
def DP{D a:az}{ord:List aA}{i:Nat}{x:aA}{Q:PySem.Fin->RI->Prop}(N:NX w s.heap D a ord i)(W:D≠a)(Y:ord[i]?=aa x)(l:∀h',NX w h' D a ord (i+1)->S7 D s.heap h'->Q (.done (.ret x)) {s with heap:=h'}):
 av (R6 prog w) A (Builtin.«set_iterator.__next__» {pos:=[.ref D]}) Q E s:=by
 obtain⟨o,L,Z,t,first,V,hd,U,O,m⟩:=N.ex;have keep:∀{h':aq},S7 D s.heap h'->∀b o,(∃r n,o.data=Data.seq r n)->s.heap.get? b=aa o->h'.get? b=aa o:=λ{h'} J b ob c e=>(J.2 b (λz=>by subst z;rw[O]at e;cases e;obtain⟨r,n,c⟩:=c;cases c)).trans e
 unfold Builtin.«set_iterator.__next__»;refine Rz (au ?_);refine Rz (wpAny_fieldsOf O rfl ?_);dsimp only;refine Rz (Wn V hd U ?_);rw[bK (by simp)];cases m with
 |@A z _ f =>
  have K:(Vm (w.params.setOrder a Z) L)[i]?.map (λe=>(e.2,z.toNat))=aa (x,z.toNat):=by
   rw[Sa]at Y;obtain⟨e,e1,e2⟩:=Option.map_eq_some_iff.mp Y;have M:(Vm (w.params.setOrder a Z) L)[i]?=aa e:=by simpa using e1
   rw[M,←e2];rfl
  refine Rz (Ai V hd U f ?_);show av _ _ (match (Vm (w.params.setOrder a Z) L)[i]?.map (λe=>(e.2,z.toNat))with|some (x,next)=>_|none=>_) _ _ s;rw[K];refine Rz (T9 O rfl (by simp) ?_);refine Rz (T9 (Sj _ O rfl) rfl (by simp) ?_);have J:S7 D s.heap ((s.heap.update D (TH λy=>y.setIfInBounds 0 (.int (z.toNat:Int) 0))).update D (TH λy=>y.setIfInBounds 1 (.int ((i:Int)+1) 0))):=(SC ..).trans (SC ..);exact au (l _ ⟨⟨o,L,Z,t,_,(J.2 a (SM W)).trans V,hd,U,Ah O,.A f⟩⟩ J)
 |@B T g _ v u =>
  have c:∀p∈g,((λp:Nat=>L[p]?.map (·.2)) p).isSome=ah:=λp I=>by have:=u p I;simp[this]
  rw[eY _ g c]at Y;obtain⟨p,e1,e2⟩:=Option.bind_eq_some_iff.mp Y;obtain⟨e,e3,X⟩:=Option.map_eq_some_iff.mp e2;subst X;obtain⟨oT,R,g2,nT,P⟩:=id v;show av _ _ (seqItems? (.ref T) >>= _) _ _ s;refine Rz (TM R P ?_);have S:((g.map λ(p:Nat)=>Vb p 0).toArray)[i]?=aa (.int p 0):=by simp[e1]
  dsimp only;rw[Tj,S];dsimp only;refine Rz (HC V hd U (by rw[Tj];exact e3) ?_);refine Rz (T9 O rfl (by simp) ?_);have J:S7 D s.heap (s.heap.update D (TH λy=>y.setIfInBounds 1 (.int ((i:Int)+1) 0))):=SC ..;refine au (l _ ⟨⟨o,L,Z,t,_,(J.2 a (SM W)).trans V,hd,U,DO O,?_⟩⟩ J);exact(Md.B (i:=i+1) v u).at (keep J)
 |C f d h =>
  have hn:t.place.size=L.size:=by unfold SetTable.fits at U;simp only[RK,beq_iff_eq]at U;exact U.1
  rw[Sa]at Y;obtain⟨e,e1,e2⟩:=Option.map_eq_some_iff.mp Y;have M:L[i]?=aa e:=by simpa using e1
  have k:i<L.size:=by
   rcases R0 i L.size with q|q
   exact q;rw[Tc q]at M;cases M
  obtain⟨H,j,G,F⟩:=sG h.ri hn k;subst e2;refine Rz (Aj V hd U f d h ?_);rw[Tj,H,M,G];refine Rz (T9 O rfl (by simp) ?_);refine Rz (T9 (Sj _ O rfl) rfl (by simp) ?_);have J:S7 D s.heap ((s.heap.update D (TH λy=>y.setIfInBounds 0 (.int ((j+1:Nat):Int) 0))).update D (TH λy=>y.setIfInBounds 1 (.int ((i:Int)+1) 0))):=(SC ..).trans (SC ..);refine au (l _ ⟨⟨o,L,Z,t,_,(J.2 a (SM W)).trans V,hd,U,Ah O,?_⟩⟩ J);rw[←F];exact .C f d h
def qD{first:aA}{i n ep:Nat}{a:az}(D:A.handled=af)(q:S7 it h0 s.heap)(hi:∃o vs,s.heap.get? it=aa o/\o.data=.fields vs/\vs.size=5)(M:f<5)
(J:∀h' e,WT it h0 h'->(∃o,h'.get? e=aa o/\o.cls=.type "StopIteration")->E (.ref e) {s with heap:=h'}):
 av (R6 prog w) A (setField (.ref it) f .none >>= λ_=>newExc (.type "StopIteration") [] >>= λe=>(raiseNew e:Sem PySem.Fin)) Q E s:=by
 obtain⟨o,vs,B,hd,L⟩:=hi;refine Rz (T9 B hd (by lia) ?_);refine Rz ?_;simp only[newExc,newTuple];refine Rz (Su ?_ (by size_fits));refine Rz (m:=Wg _ _) (wpAny_of_eq (a:=TL) (by first|rfl|(simp only[Wg];rfl)) ?_);refine Su ?_ (by size_fits);simp only[raiseNew];refine Rz (wpAny_handled ?_);rw[D];refine wpAny_throw ?_;exact J _ _ (((q.trans (SC ..)).extBut.push _).push _) ⟨_,RM _ rfl,rfl⟩
def HD{M a:az}{ord:List aA}{i:Nat}{Q:PySem.Fin->RI->Prop}(Z:A.handled=af)(N:NX w s.heap M a ord i)(U:i=ord.length)(hn:∀o es ep t,s.heap.get? a=aa o->o.data=.set es ep t->ord.length=es.size)
(f:∀h' e,WT M s.heap h'->(∃o,h'.get? e=aa o/\o.cls=.type "StopIteration")->E (.ref e) {s with heap:=h'}):
 av (R6 prog w) A (Builtin.«set_iterator.__next__» {pos:=[.ref M]}) Q E s:=by
 obtain⟨o,es,ep,t,first,O,hd,J,L,m⟩:=N.ex;have k:=hn o es ep t O hd;unfold Builtin.«set_iterator.__next__»;refine Rz (au ?_);refine Rz (wpAny_fieldsOf L rfl ?_);dsimp only;refine Rz (Wn O hd J ?_);rw[bK (by simp)];cases m with
 |@A z _ d =>
  have u:(Vm (w.params.setOrder a ep) es)[i]?.map (λe=>(e.2,z.toNat))=af:=by rw[U,RX,So,Tc (RQ _)];rfl
  refine Rz (Ai O hd J d ?_);show av _ _ (match (Vm (w.params.setOrder a ep) es)[i]?.map (λe=>(e.2,z.toNat))with|some (x,next)=>_|none=>_) _ _ s;rw[u];exact qD (first:=.none) (i:=0) (n:=0) (ep:=0) (a:=a) Z (U7 _ _) ⟨_,_,L,rfl,rfl⟩ (by decide) f
 |@B T D _ v j =>
  have V:∀p∈D,((λp:Nat=>es[p]?.map (·.2)) p).isSome=ah:=λp l=>by have:=j p l;simp[this]
  have r:i=D.length:=by
   have R:=eY _ D V D.length;have P:=List.length_filterMap_le (λp:Nat=>es[p]?.map (·.2)) D;rcases R0 i D.length with q|q
   ·have g:=eY _ D V i;rw[U,RT (RQ _),RJ (by lia)]at g;have:=V D[(List.filterMap (λp:Nat=>es[p]?.map (·.2)) D).length] (VA _);rw[SW]at g;dsimp only at this;rw[←g]at this;cases this
   lia
  obtain⟨I,G,S,K,F⟩:=id v;show av _ _ (seqItems? (.ref T) >>= _) _ _ s;refine Rz (TM G F ?_);have H:((D.map λ(p:Nat)=>Vb p 0).toArray)[i]?=af:=by simp[r]
  dsimp only;rw[Tj,H];dsimp only;refine Rz (T9 L rfl (by simp) ?_);exact qD (s:={s with heap:=s.heap.update M (TH λy=>y.setIfInBounds 0 (UL 0))}) (first:=.none) (i:=0) (n:=0) (ep:=0) (a:=a) Z (SC ..) ⟨_,_,Sj _ L rfl,rfl,rfl⟩ (by decide) f
 |C d b h =>
  have W:t.place.size=es.size:=by unfold SetTable.fits at J;simp only[RK,beq_iff_eq]at J;exact J.1
  have Y:i=es.size:=by rw[U,RX,So]
  have c:=Af h.ri W;refine Rz (Aj O hd J d b h ?_);have e1:es[SetTable.below t.place (slotAt t.place i)]?=af:=Tc (by rw[Y];exact c);rw[Tj,e1];exact qD (first:=.none) (i:=0) (n:=0) (ep:=0) (a:=a) Z (U7 _ _) ⟨_,_,L,rfl,rfl⟩ (by decide) f
def DQ(N:NX w s.heap it a ord i)(q:it≠a)(J:ord[i]?=aa x)(M:∀h',NX w h' it a ord (i+1)->S7 it s.heap h'->Q (aa x) {s with heap:=h'}):
 av (R6 prog w) A (Vh (.ref it)) Q E s:=by
 have B:s.TypeIs (.ref it) "set_iterator":=by obtain⟨o,V,W,t,first,O,hd,U,L,m⟩:=N.ex;exact⟨_,L,rfl⟩
 unfold Vh;exact Rz (VN (SG (name:=RV "__next__") B kU (Tg kU B sF (DP N q J λh' D k2=>⟨x,rfl,au (M h' D k2)⟩) (vQ _))))
def HE(M:A.handled=af)(N:NX w s.heap it a ord i)(J:i=ord.length)(hn:∀o es ep t,s.heap.get? a=aa o->o.data=.set es ep t->ord.length=es.size)(U:∀h',WT it s.heap h'->Q af {s with heap:=h'}):
 av (R6 prog w) A (Vh (.ref it)) Q E s:=by
 have B:s.TypeIs (.ref it) "set_iterator":=by obtain⟨o,es,ep,t,first,q,hd,V,L,m⟩:=N.ex;exact⟨_,L,rfl⟩
 unfold Vh;refine Rz (VN (SG (name:=RV "__next__") B kU (Tg kU B sF (HD (A:=A.in1) M N J hn λh' e D k2=>?_) (vQ _))));obtain⟨o,q,O⟩:=k2;refine Rz (UM (T:="StopIteration") (b:=ah) ⟨o,q,O⟩ isSubtype_stop ?_);exact au (U _ D)
theorem kr:∀{l:List α}{i:Nat}(h:i<l.length),(l[i]::l.eraseIdx i).Perm l
 |x::l,0,_=>.refl _
 |x::l,i+1,h=>by
  have q:i<l.length:=by simpa using h
  have:=kr q;show(l[i]::x::l.eraseIdx i).Perm (x::l);exact(List.Perm.swap _ _ _).trans (this.cons x)
def wp_choose(hn:n≠0)(h:∀i d,i<n->Q i {s with drawn:=d}):av (R6 prog w) A (choose src n) Q E s:=by intro q p _;unfold choose;rw[Sem.wp_choose];exact⟨hn,h _ _ (Ws _ (by lia))⟩
def xX:∀(n:Nat)(xs:List α)(s:RI){Q:List α->RI->Prop},xs.length=n->(∀ys d,ys.Perm xs->Q ys {s with drawn:=d})->av (R6 prog w) A (drawOrder n xs) Q E s:=by
 intro n
 induction n with
 |zero =>
  intro xs s Q q h;have:=List.length_eq_zero_iff.mp q;subst this;exact au (h [] s.drawn .nil)
 |succ n D =>
  intro xs s Q q h;cases xs with
  |nil=>cases q
  |cons x r =>
   show av _ _ (choose Source.order (x::r).length >>= λi=>match (x::r)[i]? with
    |some y=>drawOrder n ((x::r).eraseIdx i) >>= λl=>pure (y::l)
    | none=>unsupported "internal:drawOrder") _ _ s
   refine Rz (wp_choose (by simp) λi d B=>?_);rw[RJ B];dsimp only;refine Rz (D _ _ (by rw[W9 B];lia) λys L J=>?_);refine au (h _ L ?_);exact(J.cons _).trans (kr B)
def DR(next:Nat->Nat):∀(fuel k:Nat)(left:List α)(out:Array α),left.length<=fuel->(U6 next fuel k left out).toList.Perm (out.toList++left):=by
 intro fuel
 induction fuel with
 |zero =>
  intro k left out h;have:=List.length_eq_zero_iff.mp (Nat.le_zero.mp h);subst this;show out.toList.Perm _;rw[Tt]
 |succ fuel B =>
  intro k left out h;cases left with
  |nil =>
   have e:U6 next (fuel+1) k ([]:List α) out=out:=by show(match ([]:List α)[next k%0]? with|some x=>U6 next fuel (k+1) (([]:List α).eraseIdx (next k%0)) (out.push x)|none=>out)=out;rfl
   rw[e,Tt]
  |cons x r =>
   have q:next k%(x::r).length<(x::r).length:=Ws _ (by simp)
   have e:U6 next (fuel+1) k (x::r) out=U6 next fuel (k+1) ((x::r).eraseIdx (next k%(x::r).length)) (out.push (x::r)[next k%(x::r).length]):=by show(match (x::r)[next k%(x::r).length]? with|some y=>U6 next fuel (k+1) ((x::r).eraseIdx (next k%(x::r).length)) (out.push y)|none=>out)=_;rw[RJ q]
   rw[e];refine(B _ _ _ (by rw[W9 q];simp at h⊢;lia)).trans ?_;rw[YA,SZ];exact(kr q).append_left _
def xY(next:Nat->Nat)(xs:Array α):(Vm next xs).toList.Perm xs.toList:=by
 have:=DR next xs.size 0 xs.toList #[] (by simp)
 simpa [Vm]using this
def Ak(D:s.heap.get? a=aa o)(j:o.ExactSet)(hd:o.data=.set es ep t)(L:t.fits es.size=ah)(l:es.size<U9)(g:Tb (w.params.followText "set-order") t)
(Z:∀h' d U ord,NX w h' U a ord 0->(∀b o,s.heap.get? b=aa o->h'.get? b=aa o)->s.heap.objs.size<=U->s.heap.objs.size<=h'.objs.size->ord.Perm (es.toList.map (·.2))->Q (.ref U) {s with heap:=h',drawn:=d}):
 av (R6 prog w) A (pyIter (.ref a)) Q E s:=by
 have h:s.TypeIs (.ref a) "set":=⟨o,D,j.1⟩;refine wpAny_pyIter_slot h Xl (Tg Xl h uI ?_ (PySem.F.args_set_iter_1 _));unfold Builtin.«frozenset.__iter__» Builtin.Frozenset.slot0;refine Rz (Rz (au (au ?_)));refine Rz ?_;unfold Builtin.Frozenset.sizeOf;refine Rz (Wn D hd L (au ?_));refine Rz ?_;unfold setDrawn;refine Rz (Ud D hd L ?_);dsimp only;refine Rz (kT (au ?_));have f:WX (.type "set_iterator") (RV "__next__")=pure (aa (.builtin "set_iterator.__next__")):=kU.lookup;show av _ _ (if(!w.params.followText "set-order"&&(!t.plain&&decide (es.size>1)))=ah then _ else _) _ _ s;have r:a<s.heap.objs.size:=RL D
 by_cases c:(!w.params.followText "set-order"&&(!t.plain&&decide (es.size>1)))=ah
 ·rw[bJ c];refine Rz (xX es.size (Sy es.size) s (by simp) λO d V=>?_);refine Rz ?_;simp only[newTuple];have k:O.length=es.size:=by rw[V.length_eq,List.length_range]
  refine Su ?_ (by
   have:=U5 l;show (List.map (λ(i:Nat)=>UL i) O).toArray.size<=aj;rw[RG,RX];lia)
  refine Rz (wpAny_setEpoch_of (RC _ D) hd L ?_);refine Rz ?_;unfold newFields;refine Su ?_ (by size_fits);refine au ⟨_,rfl,"set_iterator",_,⟨_,RM _ rfl,rfl⟩,f,?_⟩;have J:∀b o,s.heap.get? b=aa o->((s.heap.push {cls:=.type "tuple",data:=.seq (O.map λ(i:Nat)=>UL i).toArray}).push {cls:=.type "set_iterator",data:=.fields #[.ref s.heap.objs.size,UL 0,.ref a,UL es.size,UL ep]}).get? b=aa o:=λb o e=>RC _ (RC _ e);have lt:∀p∈O,p<es.size:=λp W=>List.mem_range.mp (V.mem_iff.mp W);refine Z _ d _ _ ⟨⟨o,es,ep,t,_,J _ _ D,hd,L,RM _ rfl,.B (pl:=O) ⟨_,RC _ (RM _ rfl),rfl,_,rfl⟩ lt⟩⟩ J (by rw[SE];exact TF _) (by rw[SE,SE];exact Nat.le_succ_of_le (TF _)) ?_;have n:=V.filterMap λp=>es[p]?.map (·.2);refine n.trans ?_;have m:(Sy es.size).filterMap (λp=>es[p]?.map (·.2))=es.toList.map (·.2):=by
   refine List.ext_getElem? λi=>?_;rw[eY _ _ (λp W=>by have:=List.mem_range.mp W;simp[this])];rcases R0 i es.size with q|q
   rw[Vf q];simp;rw[RT (by simpa using q),RT (by simpa using q)];rfl
  rw[m]
 ·rw[bK c];refine Rz (au ?_);refine Rz (wpAny_setEpoch_of D hd L ?_);refine Rz ?_;unfold newFields;refine Su ?_ (by size_fits);refine au ⟨_,rfl,"set_iterator",_,⟨_,RM _ rfl,rfl⟩,f,?_⟩;have J:∀b o,s.heap.get? b=aa o->(s.heap.push {cls:=.type "set_iterator",data:=.fields #[UL 0,UL 0,.ref a,UL es.size,UL ep]}).get? b=aa o:=λb o e=>RC _ e;cases M:w.params.followText "set-order" with
  |true =>
   refine Z _ s.drawn _ _ ⟨⟨o,es,ep,t,_,J _ _ D,hd,L,RM _ rfl,.A (z:=0) M⟩⟩ J (RQ _) (by rw[SE];exact TF _) ?_;exact(xY _ es).map _
  |false =>
   rw[M]at c g;have Y:(!t.plain&&decide (es.size>1))=ai:=by
    cases z:(!t.plain&&decide (es.size>1))with
    |false=>rfl|true=>rw[z]at c;exact bL rfl c
   exact Z _ s.drawn _ _ ⟨⟨o,es,ep,t,_,J _ _ D,hd,L,RM _ rfl,.C (i:=0) M Y g⟩⟩ J (RQ _) (by rw[SE];exact TF _) (.refl _)
end
end BX
end
section
namespace BX
open PySem PySem.Spec PyProof.Rows
section
variable{prog:Sb}{w:SH}{A:TJ}{E:aA->RI->Prop}{h:aq}{g:Array GenState}{d:Drawn}{t:Nat}{os:OsState}{a:az}{o:ao}
end
section
variable{prog:Sb}{w:SH}{K:Type}[DecidableEq K]{knd:KeyKind prog w K}{A:TJ}{E:aA->RI->Prop}{s:RI}
end
end BX
end
section
namespace BT
open PySem
def eN{P:Prop}(h:ai=ah):P:=nomatch h
def Ly{P:Prop}(h:ah=ai):P:=nomatch h
def gW{q:Type}{a:q}{P:Prop}(h:(af:Option q)=aa a):P:=nomatch h
inductive D
 |aD|bl(b:Bool)|int(i:Int)|str(x:ay)|aC(xs:List D)|aB(xs:List D)
inductive FK
 |f(x:ay)|m(c x:ay)|l(i:Nat)
 deriving DecidableEq
instance:Coe String FK:=⟨λs=>.f (RV s)⟩
inductive Cp
 |p(d:D)|o(n:Nat)
noncomputable abbrev Ky:=Int ⊕ ay
inductive Kd
 |t(kvs:List (ay×D))|l(kvs:List (Ky×D))
inductive W
 |p(d:D)|r(n:Nat)|k(kvs:Kd)|o(n:Nat)|c(f:FK)(q:List Cp)|x(c:ay)
noncomputable def Cp.w:Cp->W
 |.p d=>.p d|.o n=>.o n
@[simp]theorem Cp.w_p(d:D):Cp.w (.p d)=.p d:=rfl
@[simp]theorem Cp.w_o(n:Nat):Cp.w (.o n)=.o n:=rfl
noncomputable def vR:W->Option Cp
 |.p d=>aa (.p d)|.o n=>aa (.o n)|.r _=>af|.k _=>af|.c _ _=>af|.x _=>af
@[simp]theorem NH(d:D):vR (.p d)=aa (.p d):=rfl
@[simp]theorem NI(n:Nat):vR (.o n)=aa (.o n):=rfl
inductive Cl
 |l(xs:List D)|o(c:ay)(fs:List (ay×W))|d(kvs:List (Ky×D))|z|b(ns:List Nat)
noncomputable abbrev HH:=List Cl
noncomputable abbrev Sl:=List (Option W)
set_option genInjectivity false in
inductive Bin
 |add|sub|mul|mod|fdiv
set_option genInjectivity false in
inductive Cm
 |eq|ne|lt|le|gt|ge|isN|notN|mem|nmem
set_option genInjectivity false in
inductive Sr
 |seq|rng1|rng2|rev|enu|zip2|rng3|itm|chs|zipG
inductive Bi
 |len|int|str|list|tuple|all|isInt|isBool|isStr|isTuple|min2|max2
 |sum|sorted|max1|lzip|sset|min1
set_option genInjectivity false in
inductive Me
 |append|pop|extend|tindex|sindex|dget|count|lindex
inductive Tx
 |join|split|str|intS|all|inS|ninS|dget|pre
inductive Dk
 |of|ks|so|it
set_option genInjectivity false in
mutual
inductive E
 |v(i:Nat)
 |j(d:D)
 |aE(x:ay)
 |bin(o:Bin)(a b:E)
 |neg(a:E)
 |not(a:E)
 |and(a b:E)
 |or(a b:E)
 |z(o:Cm)(a b:E)
 |chain(o o':Cm)(a b c:E)
 |ite(c a b:E)
 |aC(as:Es)
 |aB(mu:Bool)(as:Es)
 |y(a i:E)
 |n(a:E)(lo hi:Es)
 |rvs(a:E)
 |stp(mu:Bool)(k:Int)(a:E)
 |call(f:ay)(as:Es)
 |i(a:E)(f:ay)
 |aF(o:E)(m:ay)(as:Es)
 |make(c:ay)(as:Es)
 |bi(b:Bi)(mu:Bool)(as:Es)
 |lsr(mu:Bool)(q:Sr)(as:Es)
 |me(m:Me)(o:E)(as:Es)
 |comp(mu:Bool)(B:Sr)(J:Es)(tg:List ay)(D:List (Nat×ay))(cond:Es)(q:E)
 |callv(i:Nat)(as:Es)
 |methL(o:E)(m:ay)(as:Es)(L:Nat)(q:List (Nat×ay))
 |obl(a:E)
 |oba(o a:E)
 |obi(o i:E)
 |obn(o:E)
 |sup(c:ay)(as:Es)
inductive Es
 |nil
 |cons(a:E)(as:Es)
end
set_option genInjectivity false in
inductive S
 |nil
 |seq(a b:S)
 |set(i:Nat)(e:E)
 |unp(xs:List (Nat×ay))(e:E)
 |aug(i:Nat)(o:Bin)(e:E)
 |put(i:Nat)(k e:E)
 |setf(o:E)(f:ay)(e:E)
 |augf(o:E)(f:ay)(q:Bin)(e:E)
 |ex(e:E)
 |ret(e:E)
 |v(c:E)(a b:S)
 |j(c:E)(b:S)
 |for(tg:List (Nat×ay))(q:Sr)(B:Es)(b:S)
 |brk|cnt
 |bad
 |rai(c:ay)(e:E)
 |rai2(c:ay)(a e:E)
set_option genInjectivity false in
structure Fn where
 ps:List ay
 ns:List ay
 body:S
noncomputable abbrev Z9(a:E):Es:=.cons a .nil
noncomputable abbrev Z8(a b:E):Es:=.cons a (.cons b .nil)
noncomputable abbrev Z7(a b c:E):Es:=.cons a (.cons b (.cons c .nil))
noncomputable abbrev Z6(a b c d:E):Es:=.cons a (.cons b (.cons c (.cons d .nil)))
noncomputable abbrev Z5(a b c d e:E):Es:=.cons a (.cons b (.cons c (.cons d (.cons e .nil))))
noncomputable abbrev Z4(a b c d e f:E):Es:=.cons a (.cons b (.cons c (.cons d (.cons e (.cons f .nil)))))
noncomputable abbrev Z2(a b c d e f g h:E):Es:=.cons a (.cons b (.cons c (.cons d (.cons e (.cons f (.cons g (.cons h .nil)))))))
noncomputable def bnd{B q:Type}(x:Option (B×HH))(k:B->HH->Option q):Option q :=
 match x with|some (a,h)=>k a h|none=>af
@[simp]theorem eS(a:α)(h:HH)(k:α->HH->Option β):bnd (aa (a,h)) k=k a h:=rfl
@[simp]theorem Lz(k:α->HH->Option β):bnd af k=af:=rfl
@[simp]noncomputable def lim:Nat:=100000
mutual
@[simp]noncomputable def eqv:D->D->Bool
 |.aD,.aD=>ah|.bl a,.bl b=>a==b|.bl a,.int j=>(if a then(1:Int)else 0)==j|.int i,.bl b=>i==(if b then(1:Int)else 0)|.int i,.int j=>i==j|.str x,.str y=>x==y|.aC xs,.aC ys=>o9 xs ys|.aB xs,.aB ys=>o9 xs ys|_,_=>ai
@[simp]noncomputable def o9:List D->List D->Bool
 |[],[]=>ah|x::xs,y::ys=>eqv x y&&o9 xs ys|_,_=>ai
end
noncomputable def nB:Cl->Option (List D)
 |.l q=>aa q|.o _ _=>af|.d _=>af|.z=>af|.b _=>af
def pq:Cl->Option (ay×List (ay×W))
 |.l _=>af|.o c fs=>aa (c,fs)|.d _=>af|.z=>af|.b _=>af
noncomputable def xZ:Cl->Option (List (Ky×D))
 |.l _=>af|.o _ _=>af|.d q=>aa q|.z=>af|.b _=>af
noncomputable def mD:Cl->Option (List Nat)
 |.b q=>aa q|_=>af
@[simp]theorem OZ(ns:List Nat):nB (.b ns)=af:=rfl
@[simp]theorem O0(ns:List Nat):pq (.b ns)=af:=rfl
@[simp]theorem O1(ns:List Nat):xZ (.b ns)=af:=rfl
@[simp]theorem NJ(ns:List Nat):mD (.b ns)=aa ns:=rfl
@[simp]theorem NK(xs:List D):mD (.l xs)=af:=rfl
@[simp]theorem NL(c:ay)(fs:List (ay×W)):mD (.o c fs)=af:=rfl
@[simp]theorem O3(kvs:List (Ky×D)):nB (.d kvs)=af:=rfl
@[simp]theorem O4(kvs:List (Ky×D)):pq (.d kvs)=af:=rfl
@[simp]theorem O5(kvs:List (Ky×D)):xZ (.d kvs)=aa kvs:=rfl
@[simp]theorem O6:nB .z=af:=rfl
@[simp]theorem O7:pq .z=af:=rfl
@[simp]theorem O8:xZ .z=af:=rfl
@[simp]theorem O9(xs:List D):xZ (.l xs)=af:=rfl
@[simp]theorem Pa(c:ay)(fs:List (ay×W)):xZ (.o c fs)=af:=rfl
@[simp]theorem HF(xs:List D):nB (.l xs)=aa xs:=rfl
@[simp]theorem Pb(c:ay)(fs:List (ay×W)):nB (.o c fs)=af:=rfl
@[simp]theorem Pd(xs:List D):pq (.l xs)=af:=rfl
@[simp]theorem HG(c:ay)(fs:List (ay×W)):pq (.o c fs)=aa (c,fs):=rfl
def lat(h:HH)(n:Nat):Option (List D):=(h[n]?).bind nB
def oat(h:HH)(n:Nat):Option (ay×List (ay×W)):=(h[n]?).bind pq
def dat(h:HH)(n:Nat):Option (List (Ky×D)):=(h[n]?).bind xZ
def bat(h:HH)(n:Nat):Option (List Nat):=(h[n]?).bind mD
noncomputable def pA:D->Option Ky
 |.aD=>af|.bl _=>af|.int i=>aa (.inl i)|.str x=>aa (.inr x)|.aC _=>af|.aB _=>af
@[simp]theorem LC(i:Int):pA (.int i)=aa (.inl i):=rfl
@[simp]theorem LD(x:ay):pA (.str x)=aa (.inr x):=rfl
noncomputable def HJ:Ky->D
 |.inl i=>.int i|.inr x=>.str x
@[simp]theorem Pe(i:Int):HJ (.inl i)=.int i:=rfl
@[simp]theorem Pf(x:ay):HJ (.inr x)=.str x:=rfl
noncomputable def fT(kvs:List (Ky×D))(k:Ky):Option D:=(kvs.find? λq=>decide (q.1=k)).map (·.2)
noncomputable def Gu(kvs:List (Ky×D))(k:Ky)(v:D):List (Ky×D) :=
 if(kvs.any λq=>decide (q.1=k))=ah then kvs.map (λq=>if q.1=k then(q.1,v)else q)else kvs++[(k,v)]
def rd(w:W)(h:HH):Option D:=match w with
 |.p d=>aa d|.r n=>(lat h n).map D.aB|.k _=>af|.o _=>af|.c _ _=>af|.x _=>af
@[simp]theorem Rq(d:D)(h:HH):rd (.p d) h=aa d:=rfl
noncomputable def big(i:Int):Bool:=decide (i.natAbs<2^64)
noncomputable def rep(k:Nat)(xs:List D):List D:=(Sd k xs).flatten
def j9:Bin->D->D->Option D
 |.add,.int i,.int j=>aa (.int (i+j))
 |.add,.str x,.str y=>if x.length+y.length<=lim then aa (.str (x++y))else af
 |.add,.aC xs,.aC ys=>if xs.length+ys.length<=lim then aa (.aC (xs++ys))else af
 |.add,.aB xs,.aB ys=>if xs.length+ys.length<=lim then aa (.aB (xs++ys))else af
 |.sub,.int i,.int j=>aa (.int (i-j))
 |.mul,.int i,.int j=>if big i||big j then aa (.int (i*j))else af
 |.mul,.aC xs,.int k=>if 2<=k&&k<=1000&&!xs.isEmpty&&xs.length*k.toNat<=lim then aa (.aC (rep k.toNat xs))else af
 |.mul,.aB xs,.int k=>if -1000<=k&&k<=1000&&xs.length*k.toNat<=lim then aa (.aB (rep k.toNat xs))else af
 |.mod,.int i,.int j=>if 0<j then aa (.int (i%j))else af
 |.fdiv,.int i,.int j=>if 0<j&&j<1073741824 then aa (.int (i/j))else af
 |_,_,_=>af
def nC:Bin->D->D->Option D
 |.add,.int i,.int j=>aa (.int (i+j))|.sub,.int i,.int j=>aa (.int (i-j))
 |.mul,.int i,.int j=>if big i||big j then aa (.int (i*j))else af
 |_,_,_=>af
@[simp]theorem LF(i j:Int):nC .add (.int i) (.int j)=aa (.int (i+j)):=rfl
@[simp]theorem LG(i j:Int):nC .sub (.int i) (.int j)=aa (.int (i-j)):=rfl
@[simp]theorem sH(i j:Int):nC .mul (.int i) (.int j)=if big i||big j then aa (.int (i*j))else af:=rfl
@[simp]noncomputable def place(n:Nat)(i:Int):Option Nat :=
 if 0<=i then(if i<n then aa i.toNat else af)else if -(n:Int)<=i then aa (i+n).toNat else af
@[simp]def atP{q:Type}(xs:List q)(i:Int):Option q:=(place xs.length i).bind λj=>xs[j]?
@[simp]noncomputable def fk(k:ay):List (ay×D)->Option D
 |[]=>af
 |(x,d)::r=>if k=x then aa d else fk k r
def dM:D->D->Option D
 |.aC xs,.int i=>atP xs i|.aB xs,.int i=>atP xs i
 |.str x,.int i=>if x.length<=lim then(atP x.cps.toList i).map λc=>.str ⟨#[c]⟩else af
 |_,_=>af
@[simp]noncomputable def clip(n d:Nat):Option Int->Nat
 |none=>d
 |some v=>if v<0 then(v+(n:Int)).toNat else if v<=(n:Int)then v.toNat else n
@[simp]def cut(xs:List D)(lo hi:Option Int):List D:=(xs.drop (clip xs.length 0 lo)).take (clip xs.length xs.length hi-clip xs.length 0 lo)
@[simp]noncomputable def qE:List D->Option (Option Int)
 |[]=>aa af|[.int i]=>aa (aa i)|_=>af
def qF(x:D)(lo hi:Option Int):Option D:=match x with
 |.aC q=>aa (.aC (cut q lo hi))|.aB q=>aa (.aB (cut q lo hi))|_=>af
noncomputable def dok:Nat->D->Bool
 |_,.aD=>ah|_,.bl _=>ah|_,.int _=>ah|_,.str _=>ah|0,.aC _=>ai|0,.aB _=>ai|n+1,.aC xs=>xs.all (dok n)|n+1,.aB xs=>xs.all (dok n)
@[simp]theorem NN(n:Nat):dok n .aD=ah:=by cases n<;>rfl
@[simp]theorem Ph(n:Nat)(b:Bool):dok n (.bl b)=ah:=by cases n<;>rfl
@[simp]theorem qG(n:Nat)(i:Int):dok n (.int i)=ah:=by cases n<;>rfl
@[simp]theorem NO(n:Nat)(x:ay):dok n (.str x)=ah:=by cases n<;>rfl
@[simp]theorem qH(n:Nat)(xs:List D):dok (n+1) (.aC xs)=xs.all (dok n):=rfl
@[simp]theorem vS(n:Nat)(xs:List D):dok (n+1) (.aB xs)=xs.all (dok n):=rfl
def d7(x y:D):Bool:=dok 100 x||dok 100 y
@[simp]theorem LH(x:D)(y:ay):d7 x (.str y)=ah:=by simp[d7]
@[simp]theorem LJ(x:D)(y:Int):d7 x (.int y)=ah:=by simp[d7]
@[simp]theorem Ka(x:D)(y:ay):d7 (.str y) x=ah:=by simp[d7]
@[simp]theorem Kc(x:D)(y:Int):d7 (.int y) x=ah:=by simp[d7]
@[simp]theorem Ke(x:D):d7 x (.aC [])=ah:=by simp[d7,dok]
@[simp]theorem Kf(x:D):d7 x (.aB [])=ah:=by simp[d7,dok]
@[simp]theorem NP(x:D)(b:Bool):d7 x (.bl b)=ah:=by simp[d7]
def iQ(h:dok 100 y=ah):d7 x y=ah:=by simp[d7,h]
noncomputable def jz:D->Bool
 |.aD=>ah|.bl _=>ai|.int _=>ai|.str _=>ai|.aC _=>ai|.aB _=>ai
@[simp]theorem Kg:jz .aD=ah:=rfl
@[simp]theorem LK(z:Bool):jz (.bl z)=ai:=rfl
@[simp]theorem Kl(z:Int):jz (.int z)=ai:=rfl
@[simp]theorem Km(z:ay):jz (.str z)=ai:=rfl
@[simp]theorem Kn(z:List D):jz (.aC z)=ai:=rfl
@[simp]theorem Ko(z:List D):jz (.aB z)=ai:=rfl
noncomputable def qI(b:Bool):D->Bool
 |.aD=>ai|.bl c=>c==b|.int _=>ai|.str _=>ai|.aC _=>ai|.aB _=>ai
@[simp]theorem LM(b:Bool):qI b .aD=ai:=rfl
@[simp]theorem NQ(b z:Bool):qI b (.bl z)=(z==b):=rfl
@[simp]theorem LN(b:Bool)(z:Int):qI b (.int z)=ai:=rfl
@[simp]theorem LP(b:Bool)(z:ay):qI b (.str z)=ai:=rfl
@[simp]theorem LQ(b:Bool)(z:List D):qI b (.aC z)=ai:=rfl
@[simp]theorem LR(b:Bool)(z:List D):qI b (.aB z)=ai:=rfl
def gi:Cm->D->D->Option Bool
 |.eq,x,y=>if d7 x y then aa (eqv x y)else af
 |.ne,x,y=>if d7 x y then aa (!eqv x y)else af
 |.lt,.int i,.int j=>aa (decide (i<j))|.le,.int i,.int j=>aa (decide (i<=j))|.gt,.int i,.int j=>aa (decide (j<i))|.ge,.int i,.int j=>aa (decide (j<=i))|.isN,x,.aD=>aa (jz x)|.notN,x,.aD=>aa (!jz x)|.notN,x,.bl b=>aa (!qI b x)
 |.mem,x,.aC ys=>if ys.all λy=>d7 y x then aa (ys.any λy=>eqv y x)else af
 |.mem,x,.aB ys=>if ys.all λy=>d7 y x then aa (ys.any λy=>eqv y x)else af
 |.nmem,x,.aC ys=>if ys.all λy=>d7 y x then aa (!ys.any λy=>eqv y x)else af
 |.nmem,x,.aB ys=>if ys.all λy=>d7 y x then aa (!ys.any λy=>eqv y x)else af
 |_,_,_=>af
@[simp]noncomputable def intsOf:List D->Option (List Int)
 |[]=>aa []|.int i::r=>(intsOf r).map (i :: ·)|_=>af
@[simp]noncomputable def allB:List D->Option Bool
 |[]=>aa ah
 |.bl b::r=>if b then allB r else aa ai
 |_=>af
@[simp]noncomputable def anyB:List D->Option Bool
 |[]=>aa ai
 |.bl b::r=>if b then aa ah else anyB r
 |_=>af
noncomputable def isI:D->Bool
 |.aD=>ai|.bl _=>ah|.int _=>ah|.str _=>ai|.aC _=>ai|.aB _=>ai
@[simp]theorem NR:isI .aD=ai:=rfl
@[simp]theorem Pi(z:Bool):isI (.bl z)=ah:=rfl
@[simp]theorem NS(z:Int):isI (.int z)=ah:=rfl
@[simp]theorem NT(z:ay):isI (.str z)=ai:=rfl
@[simp]theorem NU(z:List D):isI (.aC z)=ai:=rfl
@[simp]theorem NV(z:List D):isI (.aB z)=ai:=rfl
noncomputable def isB:D->Bool
 |.aD=>ai|.bl _=>ah|.int _=>ai|.str _=>ai|.aC _=>ai|.aB _=>ai
@[simp]theorem NW:isB .aD=ai:=rfl
@[simp]theorem Pj(z:Bool):isB (.bl z)=ah:=rfl
@[simp]theorem NY(z:Int):isB (.int z)=ai:=rfl
@[simp]theorem NZ(z:ay):isB (.str z)=ai:=rfl
@[simp]theorem N1(z:List D):isB (.aC z)=ai:=rfl
@[simp]theorem N2(z:List D):isB (.aB z)=ai:=rfl
noncomputable def isS:D->Bool
 |.aD=>ai|.bl _=>ai|.int _=>ai|.str _=>ah|.aC _=>ai|.aB _=>ai
@[simp]theorem N3:isS .aD=ai:=rfl
@[simp]theorem Pk(z:Bool):isS (.bl z)=ai:=rfl
@[simp]theorem N4(z:Int):isS (.int z)=ai:=rfl
@[simp]theorem N5(z:ay):isS (.str z)=ah:=rfl
@[simp]theorem N6(z:List D):isS (.aC z)=ai:=rfl
@[simp]theorem N7(z:List D):isS (.aB z)=ai:=rfl
noncomputable def isT:D->Bool
 |.aD=>ai|.bl _=>ai|.int _=>ai|.str _=>ai|.aC _=>ah|.aB _=>ai
@[simp]theorem N8:isT .aD=ai:=rfl
@[simp]theorem Pn(z:Bool):isT (.bl z)=ai:=rfl
@[simp]theorem N9(z:Int):isT (.int z)=ai:=rfl
@[simp]theorem Oa(z:ay):isT (.str z)=ai:=rfl
@[simp]theorem Ob(z:List D):isT (.aC z)=ah:=rfl
@[simp]theorem Oc(z:List D):isT (.aB z)=ai:=rfl
noncomputable def isL:D->Bool
 |.aD=>ai|.bl _=>ai|.int _=>ai|.str _=>ai|.aC _=>ai|.aB _=>ah
noncomputable def sortI(ns:List Int):List Int:=ns.mergeSort λa b=>decide (a<=b)
noncomputable def HK:List Int->Option Int
 |[]=>af|n::ns=>aa (ns.foldl max n)
noncomputable def HL:List Int->Option Int
 |[]=>af|n::ns=>aa (ns.foldl min n)
@[simp]noncomputable def sI:List D->List D->List D
 |x::xs,y::ys=>.aC [x,y]::sI xs ys|_,_=>[]
noncomputable def ded(ns:List Int):List Int:=ns.foldl (fun q v=>if q.any (·==v)then q else q++[v]) []
noncomputable def QX(a b c:Int):Nat:=if a<b then((b-a-1)/c+1).toNat else 0
noncomputable def stepI(a c:Int)(n:Nat):List Int:=(Sy n).map λ(k:Nat)=>a+(k:Int)*c
def biD:Bi->List D->Option D
 |.len,[.aC xs]=>aa (.int xs.length)|.len,[.aB xs]=>aa (.int xs.length)
 |.len,[.str x]=>if x.length<=lim then aa (.int x.length)else af
 |.int,[.int i]=>aa (.int i)|.int,[.bl b]=>aa (.int (if b then 1 else 0))
 |.str,[.int i]=>if big i then aa (.str (toString i))else af
 |.tuple,[.aB xs]=>aa (.aC xs)|.tuple,[.aC xs]=>aa (.aC xs)|.list,[.aB xs]=>aa (.aB xs)|.list,[.aC xs]=>aa (.aB xs)|.all,[.aB xs]=>(allB xs).map .bl|.isInt,[x]=>aa (.bl (isI x))|.isBool,[x]=>aa (.bl (isB x))|.isStr,[x]=>aa (.bl (isS x))|.isTuple,[x]=>aa (.bl (isT x))|.min2,[.int i,.int j]=>aa (.int (if j<i then j else i))|.max2,[.int i,.int j]=>aa (.int (if j>i then j else i))
 |.sorted,[.aB xs]=>(intsOf xs).bind λq=>if q.length<64 then aa (.aB ((sortI q).map .int))else af
 |.max1,[.aB xs]=>(intsOf xs).bind λq=>(HK q).map .int
 |.sum,[.aB xs]=>(intsOf xs).map λq=>.int q.sum
 |.sset,[.aB xs]=>(intsOf xs).bind λq=>if q.length<64 then aa (.aB ((sortI (ded q)).map .int))else af
 |.lzip,[.aC xs,.aC ys]=>if 0<xs.length/\xs.length=ys.length then aa (.aB (sI xs ys))else af
 |.min1,[.aB xs]=>(intsOf xs).bind λq=>(HL q).map .int
 |_,_=>af
@[simp]noncomputable def pW:Nat->List D->List D
 |_,[]=>[]|k,x::r=>.aC [.int k,x]::pW (k+1) r
noncomputable def qJ:D->Option (List D)
 |.aC q=>aa q|.aB q=>aa q|_=>af
noncomputable def upto(lo:Int)(n:Nat):List D:=(Sy n).map λ(k:Nat)=>D.int (lo+(k:Int))
noncomputable def down(a:Int)(n:Nat):List D:=(Sy n).map λi=>.int (a-(i:Nat))
noncomputable def HM(x:ay):List D:=x.cps.toList.map λc=>.str ⟨#[c]⟩
def DS:D->Option (List D)
 |.aC q=>aa q|.aB q=>aa q|.str x=>aa (HM x)|_=>af
def iR:Sr->List D->Option (List D)
 |.seq,[x]=>qJ x
 |.rng1,[.int n]=>if -100000<=n&&n<=100000 then aa (upto 0 n.toNat)else af
 |.rng2,[.int a,.int b]=>if -100000<=a&&a<=100000&&-100000<=b&&b<=100000 then aa (upto a (b-a).toNat)else af
 |.rev,[.aB q]=>aa q.reverse|.enu,[.aB q]=>aa (pW 0 q)|.zip2,[.aB q,.aB ys]=>aa (sI q ys)|.itm,[.aB q]=>aa q|.chs,[.str x]=>aa (HM x)
 |.zipG,[x,y]=>(DS x).bind λq=>(DS y).map (sI q)
 |.rng3,[.int a,.int b,.int c]=>if c=-1/\-100000<=a/\a<=100000/\-100000<=b/\b<=100000 then aa (down a (a-b).toNat)else af
 |_,_=>af
@[simp]def jA(x:D):List D->Nat->Option Nat
 |[],_=>af
 |y::r,k=>if eqv y x then aa k else jA x r (k+1)
@[simp]noncomputable def LS(c:Nat):List Nat->Nat->Option Nat
 |[],_=>af
 |y::r,k=>if y=c then aa k else LS c r (k+1)
@[simp]noncomputable def dH:List W->Option (List D)
 |[]=>aa []|.p d::r=>(dH r).map (d :: ·)|.r _::_=>af|.k _::_=>af|.o _::_=>af|.c _ _::_=>af|.x _::_=>af
def meD:Me->D->List D->Option D
 |.tindex,.aC xs,[x]=>if xs.all λy=>d7 y x then(jA x xs 0).map λ(q:Nat)=>D.int (q:Int)else af
 |.sindex,.str x,[.str y]=>match UA x y 0 x.length 1 with
  |i::_=>aa (.int (i:Int))|[]=>af
 |.count,.aB xs,[x]=>if xs.all λy=>d7 y x then aa (.int ((xs.countP λy=>eqv y x:Nat):Int))else af
 |.lindex,.aB xs,[x]=>if xs.all λy=>d7 y x then(jA x xs 0).map λ(q:Nat)=>D.int (q:Int)else af
 |_,_,_=>af
theorem HN:meD .count (.aB xs) [x]=if xs.all λy=>d7 y x then aa (.int ((xs.countP λy=>eqv y x:Nat):Int))else af:=rfl
theorem Al:meD .tindex (.aC xs) [x]=if xs.all λy=>d7 y x then(jA x xs 0).map λ(q:Nat)=>D.int (q:Int)else af:=rfl
theorem Am:meD .sindex (.str x) [.str y]=match UA x y 0 x.length 1 with
 |i::_=>aa (.int (i:Int))|[]=>af:=rfl
def meW(m:Me)(o:W)(as:List W)(h:HH):Option (W×HH):=match m,o,as with
 |.append,.r n,[.p d]=>match lat h n with
  |some q=>if q.length<lim then aa (.p .aD,h.set n (.l (q++[d])))else af
  |none=>af
 |.pop,.r n,[]=>match lat h n with
  |some q=>match q.getLast? with
   |some d=>aa (.p d,h.set n (.l q.dropLast))|none=>af
  |none=>af
 |.extend,.r n,[w]=>match lat h n,(rd w h).bind qJ with
  |some q,aa ys=>if q.length+ys.length<=lim then aa (.p .aD,h.set n (.l (q++ys)))else af
  |_,_=>af
 |.dget,.k (.t kvs),[.p (.str x)]=>aa (.p ((fk x kvs).getD .aD),h)|.dget,.k (.t _),[.p .aD]=>aa (.p .aD,h)|.dget,.k (.t kvs),[.p (.str x),.p d]=>aa (.p ((fk x kvs).getD d),h)
 |m,.p d,as=>match dH as with
  |some B=>(meD m d B).map λx=>(.p x,h)
  |none=>af
 |_,_,_=>af
section
variable(n:Nat)(d:D)(h:HH)(kvs:List (ay×D))(x:ay)(as:List W)
@[simp]theorem ku:meW .append (.r n) [.p d] h=match lat h n with
 |some q=>if q.length<lim then aa (.p .aD,h.set n (.l (q++[d])))else af
 |none=>af:=rfl
@[simp]theorem DT:meW .pop (.r n) [] h=match lat h n with
 |some q=>match q.getLast? with
  |some d=>aa (.p d,h.set n (.l q.dropLast))|none=>af
 |none=>af:=rfl
@[simp]theorem uJ(w:W):meW .extend (.r n) [w] h=match lat h n,(rd w h).bind qJ with
 |some xs,aa ys=>if xs.length+ys.length<=lim then aa (.p .aD,h.set n (.l (xs++ys)))else af
 |_,_=>af:=rfl
@[simp]theorem nE:meW .tindex (.p d) as h=match dH as with
 |some q=>(meD .tindex d q).map λx=>(.p x,h)
 |none=>af:=rfl
@[simp]theorem ya:meW .count (.p d) as h=match dH as with
 |some q=>(meD .count d q).map λx=>(.p x,h)
 |none=>af:=rfl
@[simp]theorem HP:meW .lindex (.p d) as h=match dH as with
 |some q=>(meD .lindex d q).map λx=>(.p x,h)
 |none=>af:=rfl
@[simp]theorem nF:meW .sindex (.p d) as h=match dH as with
 |some q=>(meD .sindex d q).map λx=>(.p x,h)
 |none=>af:=rfl
end
noncomputable def new(mu:Bool)(xs:List D)(h:HH):W×HH:=if mu then(.r h.length,h++[.l xs])else(.p (.aB xs),h)
@[simp]theorem QY(xs:List D)(h:HH):new ai xs h=(.p (.aB xs),h):=rfl
@[simp]theorem QZ(xs:List D)(h:HH):new ah xs h=(.r h.length,h++[.l xs]):=rfl
@[simp]def rds(ws:List W)(h:HH):Option (List D):=match ws with
 |[]=>aa []
 |w::r=>(rd w h).bind λd=>(rds r h).map (d :: ·)
noncomputable def unpack(n:Nat):D->Option (List D)
 |.aC q=>if q.length=n then aa q else af
 |.aB q=>if q.length=n then aa q else af
 |_=>af
def target(n:Nat)(d:D):Option (List D):=if n=1 then aa [d]else unpack n d
section
variable(i j k a b:Int)(c:Bool)(x y:ay)(xs ys:List D)(kvs:List (ay×D))(d e:D)(lo hi:Option Int)
@[simp]theorem sJ:j9 .add (.int i) (.int j)=aa (.int (i+j)):=rfl
@[simp]theorem nG:j9 .add (.str x) (.str y)=if x.length+y.length<=lim then aa (.str (x++y))else af:=rfl
@[simp]theorem nH:j9 .add (.aC xs) (.aC ys)=if xs.length+ys.length<=lim then aa (.aC (xs++ys))else af:=rfl
@[simp]theorem gj:j9 .add (.aB xs) (.aB ys)=if xs.length+ys.length<=lim then aa (.aB (xs++ys))else af:=rfl
@[simp]theorem nI:j9 .sub (.int i) (.int j)=aa (.int (i-j)):=rfl
@[simp]theorem sL:j9 .mul (.int i) (.int j)=if big i||big j then aa (.int (i*j))else af:=rfl
@[simp]theorem nJ:j9 .mul (.aC xs) (.int k)=if 2<=k&&k<=1000&&!xs.isEmpty&&xs.length*k.toNat<=lim then aa (.aC (rep k.toNat xs))else af:=rfl
@[simp]theorem nK:j9 .mul (.aB xs) (.int k)=if -1000<=k&&k<=1000&&xs.length*k.toNat<=lim then aa (.aB (rep k.toNat xs))else af:=rfl
@[simp]theorem nL:j9 .mod (.int i) (.int j)=if 0<j then aa (.int (i%j))else af:=rfl
@[simp]theorem lP:j9 .fdiv (.int i) (.int j)=if 0<j&&j<1073741824 then aa (.int (i/j))else af:=rfl
@[simp]theorem gX:dM (.aC xs) (.int i)=atP xs i:=rfl
@[simp]theorem dU:dM (.aB xs) (.int i)=atP xs i:=rfl
@[simp]theorem jB:dM (.str x) (.int i)=if x.length<=lim then(atP x.cps.toList i).map λc=>.str ⟨#[c]⟩else af:=rfl
@[simp]theorem qK:qF (.aC xs) lo hi=aa (.aC (cut xs lo hi)):=rfl
@[simp]theorem Po:qF (.aB xs) lo hi=aa (.aB (cut xs lo hi)):=rfl
@[simp]theorem DU:gi .eq d e=if d7 d e then aa (eqv d e)else af:=rfl
@[simp]theorem kW:gi .ne d e=if d7 d e then aa (!eqv d e)else af:=rfl
@[simp]theorem kX:gi .lt (.int i) (.int j)=aa (decide (i<j)):=rfl
@[simp]theorem mU:gi .le (.int i) (.int j)=aa (decide (i<=j)):=rfl
@[simp]theorem mV:gi .gt (.int i) (.int j)=aa (decide (j<i)):=rfl
@[simp]theorem mW:gi .ge (.int i) (.int j)=aa (decide (j<=i)):=rfl
@[simp]theorem kY:gi .isN d .aD=aa (jz d):=rfl
@[simp]theorem jW:gi .notN d .aD=aa (!jz d):=rfl
@[simp]theorem yb{b:Bool}:gi .notN d (.bl b)=aa (!qI b d):=rfl
@[simp]theorem gk:gi .mem d (.aC ys)=if ys.all λy=>d7 y d then aa (ys.any λy=>eqv y d)else af:=rfl
@[simp]theorem gY:gi .mem d (.aB ys)=if ys.all λy=>d7 y d then aa (ys.any λy=>eqv y d)else af:=rfl
@[simp]theorem gD:gi .nmem d (.aC ys)=if ys.all λy=>d7 y d then aa (!ys.any λy=>eqv y d)else af:=rfl
@[simp]theorem iB:gi .nmem d (.aB ys)=if ys.all λy=>d7 y d then aa (!ys.any λy=>eqv y d)else af:=rfl
@[simp]theorem pX:biD .len [.aC xs]=aa (.int xs.length):=rfl
@[simp]theorem Kp:biD .len [.aB xs]=aa (.int xs.length):=rfl
@[simp]theorem yc:biD .len [.str x]=if x.length<=lim then aa (.int x.length)else af:=rfl
@[simp]theorem Od:biD .int [.int i]=aa (.int i):=rfl
@[simp]theorem Kq:biD .int [.bl c]=aa (.int (if c then 1 else 0)):=rfl
@[simp]theorem Oe:biD .str [.int i]=if big i then aa (.str (toString i))else af:=rfl
@[simp]theorem Gv:biD .tuple [.aB xs]=aa (.aC xs):=rfl
@[simp]theorem Gw:biD .tuple [.aC xs]=aa (.aC xs):=rfl
theorem uK:biD .sorted [.aB xs]=(intsOf xs).bind λns=>if ns.length<64 then aa (.aB ((sortI ns).map .int))else af:=rfl
theorem sM:biD .sset [.aB xs]=(intsOf xs).bind λns=>if ns.length<64 then aa (.aB ((sortI (ded ns)).map .int))else af:=rfl
theorem An{ys:List D}:biD .lzip [.aC xs,.aC ys]=if 0<xs.length/\xs.length=ys.length then aa (.aB (sI xs ys))else af:=rfl
theorem DV:biD .sum [.aB xs]=(intsOf xs).map λns=>.int ns.sum:=rfl
theorem Ao:biD .min1 [.aB xs]=(intsOf xs).bind λns=>(HL ns).map .int:=rfl
theorem Aq:biD .max1 [.aB xs]=(intsOf xs).bind λns=>(HK ns).map .int:=rfl
def sortI_perm(ns:List Int):(sortI ns).Perm ns:=List.mergeSort_perm _ _
def nM(ns:List Int):(sortI ns).Pairwise (·<=·):=by have:=List.pairwise_mergeSort (le:=λ(a b:Int)=>decide (a<=b)) (λa b c B q=>by simp only[bM]at *;lia) (λa b=>by simp only[Uq,bM];lia) ns;exact this.imp λh=>bP h
def foldl_max(l:List Int):∀n:Int,(l.foldl max n=n\/l.foldl max n∈l)/\n<=l.foldl max n/\∀a∈l,a<=l.foldl max n:=by
 induction l with
 |nil=>intro n;exact⟨.inl rfl,Int.le_refl _,λa h=>nomatch h⟩
 |cons x l D =>
  intro n;obtain⟨L,M,J⟩:=D (max n x);rw[WS];refine⟨?_,by lia,λa B=>?_⟩
  ·rcases L with h|h
   ·rw[h];rcases Int.le_total n x with q|q
    exact .inr (by rw[show max n x=x by lia];exact RZ);exact .inl (by lia)
   exact .inr (RP _ h)
  ·rcases List.mem_cons.mp B with rfl|B
   lia;exact J a B
theorem foldl_min:∀(l:List Int)(n:Int),(l.foldl min n=n\/l.foldl min n∈l)/\l.foldl min n<=n/\∀a∈l,l.foldl min n<=a
 |[],n=>⟨.inl rfl,Int.le_refl _,λa h=>bL h (by simp)⟩
 |b::l,n=>by
  obtain⟨J,L,D⟩:=foldl_min l (min n b);rw[WS];refine⟨?_,by lia,λa B=>?_⟩
  ·rcases J with h|h
   ·rw[h];rcases Int.le_total n b with q|q
    exact .inl (by lia);exact .inr (by rw[show min n b=b by lia];exact RZ)
   exact .inr (RP _ h)
  ·rcases List.mem_cons.mp B with rfl|B
   lia;exact D a B
def yd{ns:List Int}{M:Int}(h:HL ns=aa M):M∈ns/\∀a∈ns,M<=a:=by
 cases ns with
 |nil=>cases h
 |cons n l =>
  cases h;obtain⟨L,J,D⟩:=foldl_min l n;refine⟨?_,λa B=>?_⟩
  ·rcases L with q|q
   rw[q];exact RZ;exact RP _ q
  ·rcases List.mem_cons.mp B with rfl|B
   exact J;exact D a B
def ye(h:HK ns=aa M):M∈ns/\∀a∈ns,a<=M:=by
 cases ns with
 |nil=>cases h
 |cons n l =>
  cases h;obtain⟨L,J,D⟩:=foldl_max l n;refine⟨?_,λa B=>?_⟩
  ·rcases L with q|q
   rw[q];exact RZ;exact RP _ q
  ·rcases List.mem_cons.mp B with rfl|B
   exact J;exact D a B
@[simp]theorem HQ:biD .list [.aB xs]=aa (.aB xs):=rfl
@[simp]theorem HR:biD .list [.aC xs]=aa (.aB xs):=rfl
@[simp]theorem Of:biD .all [.aB xs]=(allB xs).map .bl:=rfl
@[simp]theorem Kr:biD .isInt [d]=aa (.bl (isI d)):=rfl
@[simp]theorem HS:biD .isBool [d]=aa (.bl (isB d)):=rfl
@[simp]theorem Ks:biD .isStr [d]=aa (.bl (isS d)):=rfl
@[simp]theorem Gx:biD .isTuple [d]=aa (.bl (isT d)):=rfl
@[simp]theorem Og:biD .min2 [.int i,.int j]=aa (.int (if j<i then j else i)):=rfl
@[simp]theorem Oh:biD .max2 [.int i,.int j]=aa (.int (if j>i then j else i)):=rfl
@[simp]theorem Pp:qJ (.aC xs)=aa xs:=rfl
@[simp]theorem Pq:qJ (.aB xs)=aa xs:=rfl
@[simp]theorem Ar:iR .seq [d]=qJ d:=rfl
@[simp]theorem jX:iR .rng1 [.int a]=if -100000<=a&&a<=100000 then aa (upto 0 a.toNat)else af:=rfl
@[simp]theorem lQ:iR .rng2 [.int a,.int b]=if -100000<=a&&a<=100000&&-100000<=b&&b<=100000 then aa (upto a (b-a).toNat)else af:=rfl
@[simp]theorem LU:iR .rev [.aB xs]=aa xs.reverse:=rfl
@[simp]theorem LV{x:ay}:iR .chs [.str x]=aa (HM x):=rfl
@[simp]theorem Ku{x y:D}:iR .zipG [x,y]=(DS x).bind λxs=>(DS y).map (sI xs):=rfl
@[simp]theorem LW:iR .itm [.aB xs]=aa xs:=rfl
@[simp]theorem HU:meD .tindex (.aC xs) [d]=if xs.all λy=>d7 y d then(jA d xs 0).map λ(q:Nat)=>D.int (q:Int)else af:=rfl
@[simp]theorem sN(n:Nat):unpack n (.aB xs)=if xs.length=n then aa xs else af:=rfl
@[simp]theorem sO(n:Nat):unpack n (.aC xs)=if xs.length=n then aa xs else af:=rfl
end
@[simp]theorem nN(d:D):target 1 d=aa [d]:=rfl
@[simp]theorem LY(d:D):target 2 d=unpack 2 d:=rfl
noncomputable def vU(o:Option D)(out:List D)(h:HH):Option (List D×HH):=aa (match o with|some x=>x::out|none=>out,h)
def DW(r:HH->Option (List D×HH))(o:Option D)(h:HH):Option (List D×HH):=bnd (r h) (vU o)
@[simp]theorem As(o:Option D)(out:List D)(h:HH):vU o out h=aa (match o with|some x=>x::out|none=>out,h):=rfl
@[simp]theorem DX(r:HH->Option (List D×HH))(o:Option D)(h:HH):DW r o h=bnd (r h) (vU o):=rfl
def eH(f:List D->HH->Option (Option D×HH))(n:Nat):List D->HH->Option (List D×HH)
 |[],h=>aa ([],h)
 |d::r,h=>match target n d with
  |some q=>bnd (f q h) (DW (eH f n r))|none=>af
noncomputable def gn(d:D):Option W:=aa (.p d)
noncomputable abbrev EH:=HH->Option (W×HH)
noncomputable abbrev OpW:=W->W->HH->Option (W×HH)
@[simp]def k2(B:EH)(q:OpW)(x:W)(h:HH):Option (W×HH):=bnd (B h) (q x)
@[simp]def qL(o:Bin)(x y:W)(h:HH):Option (W×HH):=match rd x h,rd y h with
 |some d,aa e=>(j9 o d e).map λz=>(.p z,h)
 |_,_=>af
def inT(o:Cm)(x:W)(kvs:List (ay×D)):Option Bool:=match o,x with
 |.mem,.p (.str s)=>aa (fk s kvs).isSome|.mem,.p .aD=>aa ai|.nmem,.p (.str s)=>aa (!(fk s kvs).isSome)|_,_=>af
def inL(o:Cm)(x:W)(kvs:List (Ky×D)):Option Bool:=match o,x with
 |.mem,.p d=>(pA d).map λk=>(fT kvs k).isSome
 |_,_=>af
def inK(o:Cm)(x:W)(q:Kd):Option Bool:=match q with
 |.t B=>inT o x B|.l B=>inL o x B
noncomputable def memC:Cm->Bool
 |.mem=>ah|.nmem=>ah|_=>ai
def nO{o:Cm}{x:W}{q:Kd}{b:Bool}(h:memC o=ai):¬inK o x q=aa b:=by intro e;cases o<;>first|exact Ly h|exact gW e|(cases q<;>first|exact gW e|(cases x<;>exact gW e))
@[simp]def kB(o:Cm)(x y:W)(h:HH):Option (W×HH):=match y with
 |.k q=>(inK o x q).map λz=>(.p (.bl z),h)
 |y=>match rd x h,rd y h with
  |some d,aa e=>(gi o d e).map λz=>(.p (.bl z),h)
  |_,_=>af
def atT(kvs:List (ay×D))(y:W):Option D:=match y with
 |.p (.str s)=>fk s kvs|_=>af
def atL(kvs:List (Ky×D))(y:W):Option D:=match y with
 |.p d=>(pA d).bind (fT kvs)|_=>af
def atK(q:Kd)(y:W):Option D:=match q with
 |.t B=>atT B y|.l B=>atL B y
@[simp]theorem Q0(kvs:List (ay×D))(x:ay):atK (.t kvs) (.p (.str x))=fk x kvs:=rfl
@[simp]theorem Q2(kvs:List (Ky×D))(i:Int):atK (.l kvs) (.p (.int i))=fT kvs (.inl i):=rfl
@[simp]theorem Q3(kvs:List (ay×D))(x:ay):inK .mem (.p (.str x)) (.t kvs)=aa (fk x kvs).isSome:=rfl
@[simp]theorem Q4(kvs:List (ay×D))(x:ay):inK .nmem (.p (.str x)) (.t kvs)=aa (!(fk x kvs).isSome):=rfl
@[simp]theorem Q5(kvs:List (ay×D)):inK .mem (.p .aD) (.t kvs)=aa ai:=rfl
@[simp]theorem Q6(kvs:List (Ky×D))(i:Int):inK .mem (.p (.int i)) (.l kvs)=aa (fT kvs (.inl i)).isSome:=rfl
@[simp]def DY(x y:W)(h:HH):Option (W×HH):=match x with
 |.k q=>(atK q y).map λz=>(.p z,h)
 |x=>match rd x h,rd y h with
  |some d,aa e=>(dM d e).map λz=>(.p z,h)
  |_,_=>af
@[simp]noncomputable def DZ(x:W)(h:HH):Option (W×HH):=match x with|.p (.int i)=>aa (.p (.int (-i)),h)|_=>af
@[simp]noncomputable def D0(x:W)(h:HH):Option (W×HH):=match x with|.p (.bl b)=>aa (.p (.bl (!b)),h)|_=>af
@[simp]noncomputable def D3(q:EH)(x:W)(h:HH):Option (W×HH):=match x with|.p (.bl c)=>if c then q h else aa (.p (.bl ai),h)|_=>af
@[simp]noncomputable def kOr(q:EH)(x:W)(h:HH):Option (W×HH):=match x with|.p (.bl c)=>if c then aa (.p (.bl ah),h)else q h|_=>af
@[simp]noncomputable def D4(B q:EH)(x:W)(h:HH):Option (W×HH):=match x with|.p (.bl c)=>if c then B h else q h|_=>af
@[simp]def LZ(o':Cm)(e:D)(z:W)(h:HH):Option (W×HH):=match rd z h with
 |some f=>(gi o' e f).map λr=>(.p (.bl r),h)
 |none=>af
@[simp]def oCh(o o':Cm)(q:EH)(x y:W)(h:HH):Option (W×HH):=match rd x h,y with
 |some d,.p e=>match gi o d e with
  |some ah=>bnd (q h) (LZ o' e)|some ai=>aa (.p (.bl ai),h)|none=>af
 |_,_=>af
@[simp]def HV(ws:List W)(h:HH):Option (W×HH):=match dH ws with|some q=>if q.length<=lim then aa (.p (.aC q),h)else af|none=>af
@[simp]def HW(mu:Bool)(ws:List W)(h:HH):Option (W×HH):=match dH ws with|some q=>if q.length<=lim then aa (new mu q h)else af|none=>af
@[simp]def L0(x:W)(l u:List W)(h:HH):Option (W×HH):=match rd x h,(dH l).bind qE,(dH u).bind qE with
 |some d,aa l',aa u'=>(qF d l' u').map λz=>(.p z,h)
 |_,_,_=>af
@[simp]def L1(q:HH->Option (List W×HH))(x:W)(l:List W)(h:HH):Option (W×HH):=bnd (q h) (L0 x l)
@[simp]def L3(B q:HH->Option (List W×HH))(x:W)(h:HH):Option (W×HH):=bnd (B h) (L1 q x)
@[simp]noncomputable def Pr(x:W)(h:HH):Option (W×HH):=match x with
 |.p (.aC xs)=>aa (.p (.aC xs.reverse),h)|_=>af
noncomputable def mE(k:Int)(xs:List D):List D:=(VF (SA af af (aa k) xs.length).1 (SA af af (aa k) xs.length).2.1 (SA af af (aa k) xs.length).2.2).filterMap λi=>xs[i]?
@[simp]def HX(mu:Bool)(k:Int)(x:W)(h:HH):Option (W×HH):=match rd x h with
 |some (.aB xs)=>aa (new mu (mE k xs) h)|_=>af
@[simp]def kBi(b:Bi)(mu:Bool)(ws:List W)(h:HH):Option (W×HH):=match rds ws h with
 |some B=>match biD b B with
  |some d=>if mu then(match d with|.aB q=>aa (new ah q h)|_=>af)else aa (.p d,h)
  |none=>af
 |none=>af
def lR(x:W)(h:HH):Bool:=match x with
 |.r n=>(lat h n).isSome|.k (.l _)=>ai|_=>ah
@[simp]theorem Pu(n:Nat)(h:HH):lR (.r n) h=(lat h n).isSome:=rfl
@[simp]theorem Pv(d:D)(h:HH):lR (.p d) h=ah:=rfl
@[simp]theorem Pw(d:List (ay×D))(h:HH):lR (.k (.t d)) h=ah:=rfl
@[simp]def kMe(m:Me)(q:HH->Option (List W×HH))(x:W)(h:HH):Option (W×HH):=if lR x h then bnd (q h) (meW m x)else af
@[simp]def kLs(mu:Bool)(B:Sr)(ws:List W)(h:HH):Option (W×HH):=match (rds ws h).bind (iR B)with
 |some q=>if q.length<=lim then aa (new mu q h)else af
 |none=>af
@[simp]def pB(w:W)(h:HH):Option (Option D×HH):=match w with|.p d=>aa (aa d,h)|_=>af
def vV(q:EH)(B:List W)(h:HH):Option (Option D×HH):=match B with
 |[]=>bnd (q h) pB|[.p (.bl ah)]=>bnd (q h) pB|[.p (.bl ai)]=>aa (af,h)|_=>af
@[simp]theorem Oi(q:EH)(h:HH):vV q [] h=bnd (q h) pB:=rfl
@[simp]theorem Oj(q:EH)(h:HH):vV q [.p (.bl ah)] h=bnd (q h) pB:=rfl
@[simp]theorem Ol(q:EH)(h:HH):vV q [.p (.bl ai)] h=aa (af,h):=rfl
@[simp]def iC(B:Sl->HH->Option (List W×HH))(q:Sl->EH)(fs:Sl)(xs:List D)(h:HH):Option (Option D×HH) :=
 bnd (B (xs.map gn++fs) h) (vV (q (xs.map gn++fs)))
@[simp]def iW(mu:Bool)(out:List D)(h:HH):Option (W×HH):=if out.length<=lim then aa (new mu out h)else af
def dN(f:ay):List (ay×W)->Option W
 |[]=>af
 |(x,w)::r=>if f=x then aa w else dN f r
def eB(f:ay)(w:W):List (ay×W)->List (ay×W)
 |[]=>[(f,w)]
 |(x,u)::r=>if f=x then(f,w)::r else(x,u)::eB f w r
@[simp]theorem L4(f:ay):dN f []=af:=rfl
@[simp]theorem pY(f x:ay)(w:W)(r:List (ay×W)):dN f ((x,w)::r)=if f=x then aa w else dN f r:=rfl
@[simp]theorem L5(f:ay)(w:W):eB f w []=[(f,w)]:=rfl
@[simp]theorem yf(f x:ay)(w u:W)(r:List (ay×W)):eB f w ((x,u)::r)=if f=x then(f,w)::r else(x,u)::eB f w r:=rfl
noncomputable def attrOk:W->Bool
 |.p _=>ah|.r _=>ah|.k _=>ai|.o _=>ah|.c _ _=>ai|.x _=>ai
@[simp]theorem L6(d:D):attrOk (.p d)=ah:=rfl
@[simp]theorem L7(n:Nat):attrOk (.r n)=ah:=rfl
@[simp]theorem L8(n:Nat):attrOk (.o n)=ah:=rfl
def D5(f:ay)(x:W)(h:HH):Option (W×HH):=match x with
 |.o n=>match oat h n with
  |some (_,fs)=>(dN f fs).map λw=>(w,h)
  |none=>af
 |_=>af
@[simp]theorem HY(f:ay)(n:Nat)(h:HH):D5 f (.o n) h=match oat h n with
 |some (_,fs)=>(dN f fs).map λw=>(w,h)
 |none=>af:=rfl
noncomputable def uL(F:FK->List W->HH->Option (W×HH))(q:FK)(n:Nat)(ws:List W)(h:HH):Option (W×HH):=F q (.o n::ws) h
@[simp]theorem Kv(F:FK->List W->HH->Option (W×HH))(q:FK)(n:Nat)(ws:List W)(h:HH):uL F q n ws h=F q (.o n::ws) h:=rfl
def Au(F:FK->List W->HH->Option (W×HH))(m:ay)(q:HH->Option (List W×HH))(x:W)(h:HH):Option (W×HH):=match x with
 |.o n=>match oat h n with
  |some (c,fs)=>if(dN m fs).isNone then bnd (q h) (uL F (.m c m) n)else af
  |none=>af
 |_=>af
@[simp]theorem D6(F:FK->List W->HH->Option (W×HH))(m:ay)(q:HH->Option (List W×HH))(n:Nat)(h:HH):Au F m q (.o n) h=match oat h n with
 |some (c,fs)=>if(dN m fs).isNone then bnd (q h) (uL F (.m c m) n)else af
 |none=>af:=rfl
noncomputable def vW(n:Nat)(x:W)(h:HH):Option (W×HH):=match x with
 |.p .aD=>aa (.o n,h)|_=>af
@[simp]theorem Om(n:Nat)(h:HH):vW n (.p .aD) h=aa (.o n,h):=rfl
def Gy(F:FK->List W->HH->Option (W×HH))(c:ay)(ws:List W)(h:HH):Option (W×HH):=bnd (F (.m c "__init__") (.o h.length::ws) (h++[.o c []])) (vW h.length)
@[simp]theorem Av(F:FK->List W->HH->Option (W×HH))(c:ay)(ws:List W)(h:HH):Gy F c ws h=bnd (F (.m c "__init__") (.o h.length::ws) (h++[.o c []])) (vW h.length):=rfl
noncomputable def jb:List W->Bool
 |[]=>ah|.p _::r=>jb r|_=>ai
open Classical in
def chk(q:Nat)(ds:List D)(f:List D->HH->Option (Option D×HH))(xs:List D)(h:HH):Option (Option D×HH):=match f xs h with
 |some (o,h')=>if lat h' q=aa ds then aa (o,h')else af
 |none=>af
def uM(mu:Bool)(B:Sr)(n:Nat)(f:List D->HH->Option (Option D×HH))(ws:List W)(ds:List D)(h:HH):Option (W×HH):=match ws,B with
 |[.r q],.seq=>bnd (eH (chk q ds f) n ds h) (iW mu)|_,_=>af
theorem Aw(mu:Bool)(n:Nat)(f:List D->HH->Option (Option D×HH))(q:Nat)(ds:List D)(h:HH):uM mu .seq n f [.r q] ds h=bnd (eH (chk q ds f) n ds h) (iW mu):=rfl
@[simp]def nP(mu:Bool)(q:Sr)(n:Nat)(fs:Option Sl)(D:Sl->HH->Option (List W×HH))(B:Sl->EH)(ws:List W)(h:HH):Option (W×HH) :=
 match (rds ws h).bind (iR q),fs with
 |some ds,aa fs=>if jb ws then bnd (eH (iC D B fs) n ds h) (iW mu)else uM mu q n (iC D B fs) ws ds h
 |_,_=>af
@[simp]def jc(w:W)(ws:List W)(h:HH):Option (List W×HH):=aa (w::ws,h)
@[simp]def kZ(q:HH->Option (List W×HH))(w:W)(h:HH):Option (List W×HH):=bnd (q h) (jc w)
@[simp]def frees(s:Sl):List (Nat×ay)->Option Sl
 |[]=>aa []
 |q::r=>match s[q.1]? with
  |some w=>(frees s r).map (w :: ·)|none=>af
def caps(s:Sl):List (Nat×ay)->Option (List Cp)
 |[]=>aa []
 |q::r=>match s[q.1]? with
  |some (aa w)=>(vR w).bind λx=>(caps s r).map (x :: ·)
  |_=>af
@[simp]theorem Ma(s:Sl):caps s []=aa []:=rfl
@[simp]theorem Kw(s:Sl)(q:Nat×ay)(r:List (Nat×ay)):caps s (q::r)=match s[q.1]? with
 |some (aa w)=>(vR w).bind λx=>(caps s r).map (x :: ·)
 |_=>af:=rfl
noncomputable def noC:List W->Bool
 |[]=>ah|.p _::r=>noC r|.r _::r=>noC r|.k _::_=>ai|.o _::r=>noC r|.c _ _::_=>ai|.x _::_=>ai
@[simp]theorem On:noC []=ah:=rfl
@[simp]theorem Q7(d:D)(r:List W):noC (.p d::r)=noC r:=rfl
@[simp]theorem Q8(d:Nat)(r:List W):noC (.r d::r)=noC r:=rfl
@[simp]theorem Q9(d:Nat)(r:List W):noC (.o d::r)=noC r:=rfl
def Ax(F:FK->List W->HH->Option (W×HH))(o:Option (Option W))(ws:List W)(h:HH):Option (W×HH):=match o with
 |some (aa (.c k cs))=>if noC ws then F k (ws++cs.map Cp.w) h else af
 |_=>af
@[simp]theorem Mb(F:FK->List W->HH->Option (W×HH))(k:FK)(q:List Cp)(ws:List W)(h:HH):Ax F (aa (aa (.c k q))) ws h=if noC ws then F k (ws++q.map Cp.w) h else af:=rfl
def Ay(w:W)(h:HH):Option (W×HH):=match w with
 |.c _ _=>af|.x _=>af|.k _=>af|w=>aa (w,h)
@[simp]theorem Px(d:D)(h:HH):Ay (.p d) h=aa (.p d,h):=rfl
@[simp]theorem Py(n:Nat)(h:HH):Ay (.r n) h=aa (.r n,h):=rfl
@[simp]theorem Pz(n:Nat)(h:HH):Ay (.o n) h=aa (.o n,h):=rfl
def qM(F:FK->List W->HH->Option (W×HH))(q:FK)(n:Nat)(L:Nat)(B:Option (List Cp))(ws:List W)(h:HH):Option (W×HH):=match B with
 |some B=>bnd (F q (.o n::(ws++[.c (.l L) B])) h) Ay|none=>af
@[simp]theorem Kx(F:FK->List W->HH->Option (W×HH))(q:FK)(n:Nat)(L:Nat)(B:List Cp)(ws:List W)(h:HH):qM F q n L (aa B) ws h=bnd (F q (.o n::(ws++[.c (.l L) B])) h) Ay:=rfl
def Az(F:FK->List W->HH->Option (W×HH))(m:ay)(q:HH->Option (List W×HH))(L:Nat)(B:Option (List Cp))(x:W)(h:HH):Option (W×HH):=match x with
 |.o n=>match oat h n with
  |some (c,fs)=>if(dN m fs).isNone then bnd (q h) (qM F (.m c m) n L B)else af
  |none=>af
 |_=>af
@[simp]theorem Mc(F:FK->List W->HH->Option (W×HH))(m:ay)(q:HH->Option (List W×HH))(L:Nat)(B:Option (List Cp))(n:Nat)(h:HH):Az F m q L B (.o n) h=match oat h n with
 |some (c,fs)=>if(dN m fs).isNone then bnd (q h) (qM F (.m c m) n L B)else af
 |none=>af:=rfl
noncomputable def PB(c q:ay):Bool:=q==c||q=="TapeError"||q=="ValueError"
noncomputable def PC(c q:ay):Bool:=!(c=="NoText"&&q=="NoRun")
noncomputable def strsOf:List D->Option (List ay)
 |[]=>aa []|.str x::r=>(strsOf r).map (x :: ·)|_=>af
noncomputable def boolsOf:List D->Option (List Bool)
 |[]=>aa []|.bl b::r=>(boolsOf r).map (b :: ·)|_=>af
def txD:Tx->List D->Option D
 |.join,[.str x,.aB ys]=>(strsOf ys).bind λq=>if q.length<=4000/\x.length<=10/\∀t∈q,t.length<=4000 then aa (.str (Str.join x q))else af
 |.split,[.str x,.str y]=>if y.length=1/\x.length<=lim then aa (.aB ((Txt.split x y).map .str))else af
 |.str,[.int i]=>if big i then aa (.str (toString i))else af
 |.str,[.str x]=>aa (.str x)
 |.intS,[.str x]=>if x.length<=640 then(PySem.intText? x).map .int else af
 |.all,[.aB xs]=>(boolsOf xs).map λbs=>.bl (bs.all id)
 |.inS,[.str x,.str y]=>aa (.bl (Txt.contains y x))|.ninS,[.str x,.str y]=>aa (.bl (!Txt.contains y x))
 |.pre,[.str x,.int i]=>if 0<=i/\x.length<=lim then aa (.str ⟨x.cps.extract 0 i.toNat⟩)else if i=-1/\x.length<=lim then aa (.str ⟨x.cps.extract 0 (x.length-1)⟩)else af
 |_,_=>af
def AA(kvs:List (ay×D))(as:List W)(h:HH):Option (W×HH):=match as with
 |[.p .aD]=>aa (.p .aD,h)|[.p (.str x)]=>aa (.p ((fk x kvs).getD .aD),h)|[.p (.str x),.p d]=>aa (.p ((fk x kvs).getD d),h)|_=>af
def uN(kvs:List (Ky×D))(as:List W)(h:HH):Option (W×HH):=match as with
 |[.p (.str x)]=>aa (.p ((fT kvs (.inr x)).getD .aD),h)|[.p (.str x),.p d]=>aa (.p ((fT kvs (.inr x)).getD d),h)|_=>af
def kTx(k:Tx)(ws:List W)(h:HH):Option (W×HH):=match k,ws with
 |.dget,.k (.t kvs)::as=>AA kvs as h|.dget,.k (.l kvs)::as=>uN kvs as h
 |k,ws=>(rds ws h).bind λq=>(txD k q).map λd=>(.p d,h)
def Mf(w:W)(h:HH):Option (W×HH):=match w with
 |.o n=>aa (.r h.length,h++[.b [n]])|_=>af
def HZ(r:Nat)(y:W)(h:HH):Option (W×HH):=match y with
 |.o n=>(bat h r).bind λq=>if q.length<lim then aa (.p .aD,h.set r (.b (q++[n])))else af
 |_=>af
def Mg(q:EH)(x:W)(h:HH):Option (W×HH):=match x with
 |.r r=>if(bat h r).isSome then bnd (q h) (HZ r)else af
 |_=>af
def Ia(x y:W)(h:HH):Option (W×HH):=match x,y with
 |.r r,.p (.int i)=>(bat h r).bind λq=>(atP q i).map λn=>(.o n,h)
 |_,_=>af
def Mh(x:W)(h:HH):Option (W×HH):=match x with
 |.r r=>(bat h r).bind λq=>if q.length<=lim then aa (.p (.int q.length),h)else af
 |_=>af
@[simp]theorem PD(n:Nat)(h:HH):Mf (.o n) h=aa (.r h.length,h++[.b [n]]):=rfl
@[simp]theorem Ib(r n:Nat)(h:HH):HZ r (.o n) h=(bat h r).bind λns=>if ns.length<lim then aa (.p .aD,h.set r (.b (ns++[n])))else af:=rfl
@[simp]theorem Ic(q:EH)(r:Nat)(h:HH):Mg q (.r r) h=if(bat h r).isSome then bnd (q h) (HZ r)else af:=rfl
@[simp]theorem D7(r:Nat)(i:Int)(h:HH):Ia (.r r) (.p (.int i)) h=(bat h r).bind λns=>(atP ns i).map λn=>(.o n,h):=rfl
@[simp]theorem Ie(r:Nat)(h:HH):Mh (.r r) h=(bat h r).bind λns=>if ns.length<=lim then aa (.p (.int ns.length),h)else af:=rfl
section
variable(F:FK->List W->HH->Option (W×HH))(G:ay->Option W)
mutual
@[simp]noncomputable def ev:E->Sl->HH->Option (W×HH)
 |.v i,s,h=>match s[i]? with|some (aa w)=>aa (w,h)|_=>af
 |.j d,_,h=>aa (.p d,h)
 |.aE x,_,h=>(G x).map λw=>(w,h)
 |.bin o a b,s,h=>bnd (ev a s h) (k2 (ev b s) (qL o))|.neg a,s,h=>bnd (ev a s h) DZ|.not a,s,h=>bnd (ev a s h) D0|.and a b,s,h=>bnd (ev a s h) (D3 (ev b s))|.or a b,s,h=>bnd (ev a s h) (kOr (ev b s))|.z o a b,s,h=>bnd (ev a s h) (k2 (ev b s) (kB o))|.chain o o' a b c,s,h=>bnd (ev a s h) (k2 (ev b s) (oCh o o' (ev c s)))|.ite c a b,s,h=>bnd (ev c s h) (D4 (ev a s) (ev b s))|.aC as,s,h=>bnd (evs as s h) HV|.aB mu as,s,h=>bnd (evs as s h) (HW mu)|.y a i,s,h=>bnd (ev a s h) (k2 (ev i s) DY)|.n a lo hi,s,h=>bnd (ev a s h) (L3 (evs lo s) (evs hi s))|.rvs a,s,h=>bnd (ev a s h) Pr|.stp mu k a,s,h=>bnd (ev a s h) (HX mu k)|.call f as,s,h=>bnd (evs as s h) (F (.f f))|.i a f,s,h=>bnd (ev a s h) (D5 f)|.aF o m as,s,h=>bnd (ev o s h) (Au F m (evs as s))|.make c as,s,h=>bnd (evs as s h) (Gy F c)|.bi b mu as,s,h=>bnd (evs as s h) (kBi b mu)|.lsr mu sr as,s,h=>bnd (evs as s h) (kLs mu sr)|.me m o as,s,h=>bnd (ev o s h) (kMe m (evs as s))|.comp mu sr sa tg fv cond elt,s,h=>bnd (evs sa s h) (nP mu sr tg.length (frees s fv) (evs cond) (ev elt))|.callv i as,s,h=>bnd (evs as s h) (Ax F s[i]?)|.methL o m as L fv,s,h=>bnd (ev o s h) (Az F m (evs as s) L (caps s fv))|.obl a,s,h=>bnd (ev a s h) Mf|.oba o a,s,h=>bnd (ev o s h) (Mg (ev a s))|.obi o i,s,h=>bnd (ev o s h) (k2 (ev i s) Ia)|.obn o,s,h=>bnd (ev o s h) Mh|.sup c as,s,h=>bnd (evs as s h) (F (.m c "__init__"))
@[simp]noncomputable def evs:Es->Sl->HH->Option (List W×HH)
 |.nil,_,h=>aa ([],h)|.cons a as,s,h=>bnd (ev a s h) (kZ (evs as s))
end
inductive Fl
 |nx(s:Sl)(h:HH)|rt(w:W)(h:HH)|bk(s:Sl)(h:HH)|ct(s:Sl)(h:HH)
def Mi(k:Bool->HH->Option Fl)(w:W)(h:HH):Option Fl:=match w with|.p (.bl b)=>k b h|_=>af
def tst(x:Option (W×HH))(k:Bool->HH->Option Fl):Option Fl:=bnd x (Mi k)
@[simp]theorem jC(b:Bool)(h:HH)(k:Bool->HH->Option Fl):tst (aa (.p (.bl b),h)) k=k b h:=rfl
noncomputable def mF(x:Option Fl)(k:Sl->HH->Option Fl):Option Fl:=match x with
 |some (.nx s h)=>k s h|y=>y
@[simp]theorem Mj(s:Sl)(h:HH)(k:Sl->HH->Option Fl):mF (aa (.nx s h)) k=k s h:=rfl
@[simp]theorem Ml(w:W)(h:HH)(k:Sl->HH->Option Fl):mF (aa (.rt w h)) k=aa (.rt w h):=rfl
@[simp]theorem Mm(s:Sl)(h:HH)(k:Sl->HH->Option Fl):mF (aa (.bk s h)) k=aa (.bk s h):=rfl
@[simp]theorem Mn(s:Sl)(h:HH)(k:Sl->HH->Option Fl):mF (aa (.ct s h)) k=aa (.ct s h):=rfl
@[simp]theorem Ig(k:Sl->HH->Option Fl):mF af k=af:=rfl
noncomputable def jv(x:Option Fl)(k:Sl->HH->Option Fl):Option Fl:=match x with
 |some (.nx s h)=>k s h|some (.ct s h)=>k s h|some (.bk s h)=>aa (.nx s h)|y=>y
@[simp]theorem fU(s:Sl)(h:HH)(k:Sl->HH->Option Fl):jv (aa (.nx s h)) k=k s h:=rfl
@[simp]theorem Mp(s:Sl)(h:HH)(k:Sl->HH->Option Fl):jv (aa (.ct s h)) k=k s h:=rfl
@[simp]theorem Mq(s:Sl)(h:HH)(k:Sl->HH->Option Fl):jv (aa (.bk s h)) k=aa (.nx s h):=rfl
@[simp]theorem Mr(w:W)(h:HH)(k:Sl->HH->Option Fl):jv (aa (.rt w h)) k=aa (.rt w h):=rfl
@[simp]theorem Ih(k:Sl->HH->Option Fl):jv af k=af:=rfl
@[simp]noncomputable def sets:List (Nat×ay)->List D->Sl->Sl
 |(i,_)::r,d::ds,s=>sets r ds (s.set i (aa (.p d)))|_,_,s=>s
def Ii(b:Sl->HH->Option Fl)(again:Sl->HH->Option Fl)(s:Sl)(t:Bool)(h:HH):Option Fl:=if t then jv (b s h) again else aa (.nx s h)
@[simp]theorem nQ(b again:Sl->HH->Option Fl)(s:Sl)(h:HH):Ii b again s ah h=jv (b s h) again:=rfl
@[simp]theorem nR(b again:Sl->HH->Option Fl)(s:Sl)(h:HH):Ii b again s ai h=aa (.nx s h):=rfl
def fO(c:Sl->HH->Option (W×HH))(b:Sl->HH->Option Fl):Nat->Sl->HH->Option Fl
 |0,_,_=>af|n+1,s,h=>tst (c s h) (Ii b (fO c b n) s)
@[simp]def eW(b:Sl->HH->Option Fl)(tg:List (Nat×ay)):List D->Sl->HH->Option Fl
 |[],s,h=>aa (.nx s h)
 |d::r,s,h=>match target tg.length d with
  |some q=>jv (b (sets tg q s) h) (eW b tg r)|none=>af
noncomputable def turns:Nat:=100000
@[simp]def AB(s:Sl)(i:Nat)(w:W)(h:HH):Option Fl:=aa (.nx (s.set i (aa w)) h)
@[simp]def Ij(s:Sl)(xs:List (Nat×ay))(w:W)(h:HH):Option Fl:=match w with
 |.p d=>match unpack xs.length d with|some q=>aa (.nx (sets xs q s) h)|none=>af
 |_=>af
@[simp]def Ms(s:Sl)(i:Nat)(o:Bin)(w:W)(h:HH):Option Fl:=match s[i]?,w with
 |some (aa (.p d)),.p d'=>(nC o d d').map λz=>.nx (s.set i (aa (.p z))) h
 |_,_=>af
@[simp]def Gz(s:Sl)(n:Nat)(d:D)(q:W)(h:HH):Option Fl:=match q,lat h n with
 |.p (.int j),aa xs=>match place xs.length j with
  |some m=>aa (.nx s (h.set n (.l (xs.set m d))))|none=>af
 |_,_=>af
@[simp]def Ik(q:EH)(s:Sl)(i:Nat)(w:W)(h:HH):Option Fl:=match w,s[i]? with
 |.p d,aa (aa (.r n))=>bnd (q h) (Gz s n d)|_,_=>af
def AC(s:Sl)(n:Nat)(d:D)(q:W)(h:HH):Option Fl:=match q with
 |.p k=>(dat h n).bind λB=>(pA k).bind λy=>if B.length<lim then aa (.nx s (h.set n (.d (Gu B y d))))else af
 |_=>af
@[simp]theorem Mt(s:Sl)(n:Nat)(d k:D)(h:HH):AC s n d (.p k) h=(dat h n).bind λkvs=>(pA k).bind λy=>if kvs.length<lim then aa (.nx s (h.set n (.d (Gu kvs y d))))else af:=rfl
def Rc(q:EH)(s:Sl)(i:Nat)(w:W)(h:HH):Option Fl:=match w,s[i]? with
 |.p d,aa (aa (.r n))=>bnd (q h) (AC s n d)|_,_=>af
def qN(s:Sl)(f:ay)(v:W)(x:W)(h:HH):Option Fl:=match x with
 |.o n=>match oat h n with
  |some (c,fs)=>if attrOk v&&fs.length<1000 then aa (.nx s (h.set n (.o c (eB f v fs))))else af
  |none=>af
 |_=>af
@[simp]theorem AD(s:Sl)(f:ay)(v:W)(n:Nat)(h:HH):qN s f v (.o n) h=match oat h n with
 |some (c,fs)=>if attrOk v&&fs.length<1000 then aa (.nx s (h.set n (.o c (eB f v fs))))else af
 |none=>af:=rfl
def AE(q:EH)(s:Sl)(f:ay)(v:W)(h:HH):Option Fl:=bnd (q h) (qN s f v)
@[simp]theorem AF(q:EH)(s:Sl)(f:ay)(v:W)(h:HH):AE q s f v h=bnd (q h) (qN s f v):=rfl
def qO(s:Sl)(f:ay)(q:Bin)(n:Nat)(c:ay)(d:D)(v:W)(h:HH):Option Fl:=match v,oat h n with
 |.p e,aa (c',fs)=>match nC q d e with
  |some z=>if c'=c/\fs.length<1000 then aa (.nx s (h.set n (.o c' (eB f (.p z) fs))))else af
  |none=>af
 |_,_=>af
@[simp]theorem AG(s:Sl)(f:ay)(q:Bin)(n:Nat)(c:ay)(d e:D)(h:HH):qO s f q n c d (.p e) h=match oat h n with
 |some (c',fs)=>match nC q d e with
  |some z=>if c'=c/\fs.length<1000 then aa (.nx s (h.set n (.o c' (eB f (.p z) fs))))else af
  |none=>af
 |none=>af:=by unfold qO;cases oat h n<;>rfl
def vX(B:EH)(s:Sl)(f:ay)(q:Bin)(x:W)(h:HH):Option Fl:=match x with
 |.o n=>match oat h n with
  |some (c,fs)=>match dN f fs with
   |some (.p d)=>bnd (B h) (qO s f q n c d)|_=>af
  |none=>af
 |_=>af
@[simp]theorem D8(B:EH)(s:Sl)(f:ay)(q:Bin)(n:Nat)(h:HH):vX B s f q (.o n) h=match oat h n with
 |some (c,fs)=>match dN f fs with
  |some (.p d)=>bnd (B h) (qO s f q n c d)|_=>af
 |none=>af:=rfl
@[simp]noncomputable def kEx(s:Sl)(_:W)(h:HH):Option Fl:=aa (.nx s h)
@[simp]def yg(w:W)(h:HH):Option Fl:=aa (.rt w h)
@[simp]noncomputable def kIf(B q:HH->Option Fl)(t:Bool)(h:HH):Option Fl:=if t then B h else q h
@[simp]def kFor(b:Sl->HH->Option Fl)(tg:List (Nat×ay))(q:Sr)(s:Sl)(ws:List W)(h:HH):Option Fl:=match (rds ws h).bind (iR q)with
 |some B=>if jb ws then eW b tg B s h else af
 |none=>af
@[simp]def evS:S->Sl->HH->Option Fl
 |.nil,s,h=>aa (.nx s h)|.seq a b,s,h=>mF (evS a s h) (evS b)|.set i e,s,h=>bnd (ev F G e s h) (AB s i)|.unp xs e,s,h=>bnd (ev F G e s h) (Ij s xs)|.aug i o e,s,h=>bnd (ev F G e s h) (Ms s i o)|.put i k e,s,h=>bnd (ev F G e s h) (Ik (ev F G k s) s i)|.setf o f e,s,h=>bnd (ev F G e s h) (AE (ev F G o s) s f)|.augf o f op e,s,h=>bnd (ev F G o s h) (vX (ev F G e s) s f op)|.ex e,s,h=>bnd (ev F G e s h) (kEx s)|.ret e,s,h=>bnd (ev F G e s h) yg|.v c a b,s,h=>tst (ev F G c s h) (kIf (evS a s) (evS b s))|.j c b,s,h=>fO (ev F G c) (evS b) turns s h|.for tg sr sa b,s,h=>bnd (evs F G sa s h) (kFor (evS b) tg sr s)|.brk,s,h=>aa (.bk s h)|.cnt,s,h=>aa (.ct s h)|.bad,_,_=>af|.rai _ _,_,_=>af|.rai2 _ _ _,_,_=>af
open Classical in
def fin(h:HH)(w:W)(h':HH):Option (W×HH) :=
 if h'.length=h.length then aa (w,h')
 else if h'.take h.length=h then (match w with
  |.p d=>aa (.p d,h)
  |.r n=>if n<h.length then aa (.r n,h)else(lat h' n).map λq=>(.p (.aB q),h)
  |.o n=>if n<h.length then aa (.o n,h)else aa (.o n,h')
  |.k _=>af|.c _ _=>af
  | .x _=>af)
 else aa (w,h')
@[simp]noncomputable def fJ(n:Nat)(ws:List W):Sl:=ws.map aa++Sd (n-ws.length) af
def kC(x:Option Fl)(k:W->HH->Option (W×HH)):Option (W×HH):=match x with
 |some (.rt w h)=>k w h|some (.nx _ h)=>k (.p .aD) h|_=>af
@[simp]theorem mX(w:W)(h:HH)(k:W->HH->Option (W×HH)):kC (aa (.rt w h)) k=k w h:=rfl
@[simp]theorem Oo(s:Sl)(h:HH)(k:W->HH->Option (W×HH)):kC (aa (.nx s h)) k=k (.p .aD) h:=rfl
@[simp]theorem Kz(k:W->HH->Option (W×HH)):kC af k=af:=rfl
end
section
variable(T:FK->Option Fn)(G:ay->Option W)
def runN:Nat->FK->List W->HH->Option (W×HH)
 |0,_,_,_=>af
 |k+1,f,ws,h=>match T f with
  |some fn=>if ws.length=fn.ps.length then kC (evS (runN k) G fn.body (fJ fn.ns.length ws) h) (fin h)else af
  |none=>af
def run_eq{T:FK->Option Fn}{G:ay->Option W}{f:FK}{fn:Fn}{ws:List W}{h:HH}{k:Nat}(B:T f=aa fn)(q:ws.length=fn.ps.length):
 runN T G (k+1) f ws h=kC (evS (runN T G k) G fn.body (fJ fn.ns.length ws) h) (fin h):=by
 rw[runN,B];exact bJ q
end
def PF:Fn:=⟨["state","thing"],["state","thing"],.ret (.call "worth_in" (Z8 (.v 0) (.v 1)))⟩
def PJ:Fn:=⟨["state","thing","worth"],["state","thing","worth"],.ret (.z .ne (.call "worth_in" (Z8 (.v 0) (.v 1))) (.v 2))⟩
def PK:Fn:=⟨["state","thing","worth"],["state","thing","worth"],.ret (.z .ne (.call "worth_in" (Z8 (.v 0) (.v 1))) (.v 2))⟩
def PL:Fn:=⟨["state","term"],["state","term"],.ret (.call "reckoned" (Z8 (.v 1) (.v 0)))⟩
def PM:Fn:=⟨["state","term"],["state","term"],.ret (.z .ne (.call "reckoned" (Z8 (.v 1) (.v 0))) (.j (.int 0)))⟩
def PN:Fn:=⟨["state","term"],["state","term"],.ret (.z .ne (.call "reckoned" (Z8 (.v 1) (.v 0))) (.j (.int 0)))⟩
noncomputable def PP:Fn:=⟨["state"],["state"],.ret (.y (.v 0) (.aE "ROW"))⟩
noncomputable def PR:Fn:=⟨["state","row"],["state","row"],.ret (.z .eq (.y (.v 0) (.aE "ROW")) (.v 1))⟩
def PU:Fn:=⟨["state","number"],["state","number"],.ret (.z .gt (.bi .len ai (Z9 (.y (.v 0) (.aE "SAID")))) (.v 1))⟩
def PV:Fn:=⟨["state","bound"],["state","bound"],.ret (.z .le (.call "open_in" (Z9 (.v 0))) (.v 1))⟩
def Mu:Fn:=⟨["state","bound"],["state","bound"],.ret (.z .le (.call "open_in" (Z9 (.v 0))) (.v 1))⟩
noncomputable def Mv:Fn:=⟨["state","wanted"],["state","wanted"],.ret (.and (.z .eq (.y (.v 0) (.aE "NAMES")) (.y (.v 1) (.aE "NAMES"))) (.z .eq (.y (.v 0) (.aE "CELLS")) (.y (.v 1) (.aE "CELLS"))))⟩
def Mw:Fn:=⟨["state","tape","thing"],["state","tape","thing"],.ret (.z .eq (.call "written_next" (Z8 (.v 1) (.v 0))) (.v 2))⟩
noncomputable def Mx:Fn:=⟨[],[],.ret (.j .aD)⟩
noncomputable def Mz:Fn:=⟨[],[],.ret (.j .aD)⟩
def Il(i:Nat):Option Fn:=([PF,PJ,PK,PL,PM,PN,PP,PR,PU,PV,Mu,Mv,Mw,Mx,Mz]:List Fn)[i]?
noncomputable def iE:List ay:=["worths_of","last_change","next_change","moments_so","last_so","next_so","visits","last_visit","when_said","next_within","last_within","first_other","writer_of","judged","remade"]
def GA(i:Nat):ay:=iE.getD i ""
noncomputable def jD(x:ay):ay:="<"++x++">"
end BT
end
open BT renaming ev->aL,D->aM,W->aN,HH->aO,meW->aP,eqv->aQ,rds->aR,evS->aS,eN->aT,E->aU,runN->aV,rd->aW,evs->aX,Es->aY,dH->aZ,target->bf,lat->bg,ded->bq,oat->bw,Sl->bx,Fn->bz,Bin->bA,bnd->bB,kB->bC,fT->bD,sortI_perm->bE,fk->bF,sortI->bG,upto->bH,gW->bI
section
namespace BS
open PySem PySem.Spec PyProof.Rows L2
variable{K:RB}
def dw{q:Type}{c:Prop}[Decidable c]{a b:q}(h:(if c then aa a else af)=aa b):c/\a=b:=by
 by_cases z:c
 rw[bJ z]at h;exact⟨z,RO h⟩;rw[bK z]at h;exact nomatch h
def cU{q:Type}{a:q}{P:Prop}(h:(af:Option q)=aa a):P:=nomatch h
noncomputable def attrName(f:ay):Bool:=(["program","asked","gap","most","kept","farthest","front","now","origins","branches","tape","named"]:List ay).contains f
def sP:BT.Bi->Option (String×(aM->Bool))
 |.isInt=>aa ("int",BT.isI)|.isBool=>aa ("bool",BT.isB)|.isStr=>aa ("str",BT.isS)|.isTuple=>aa ("tuple",BT.isT)|_=>af
noncomputable def sR(sc:Tu)(x:ay):Bool:=match sc.names.lookup x with
 |some .local=>ah|some .cell=>ah|some .free=>ah|_=>ai
noncomputable def dJ(sc:Tu)(x:ay):Bool:=sc.names.lookup x==aa .globalImplicit
noncomputable def fK(x:ay):Bool:=!(x=="__debug__")&&!(x=="__classdict__")&&!(x=="__name__")
noncomputable def noStar:RN->Bool
 |.Starred _ _=>ai|_=>ah
noncomputable def k8:RN->Bool
 |.Slice _ _ _ _=>ai|_=>ah
noncomputable def dS:RN->Bool
 |.Name _ _=>ah|.Constant _ _ _=>ah|.Subscript _ _ _=>ah|.Attribute _ _ _=>ah|.Call (.Attribute _ _ _) _ _ _=>ah|.Dict _ _ _=>ah|_=>ai
noncomputable def MA:bA->Wc
 |.add=>.Add|.sub=>.Sub|.mul=>.Mult|.mod=>.Mod|.fdiv=>.FloorDiv
def GB(o:bA)(q:Wc):Bool:=decide (q=MA o)
noncomputable def PX:BT.Cm->CmpOp
 |.eq=>.Eq|.ne=>.NotEq|.lt=>.Lt|.le=>.LtE|.gt=>.Gt|.ge=>.GtE|.isN=>.Is|.notN=>.IsNot|.mem=>.In|.nmem=>.NotIn
def D9(o:BT.Cm)(q:CmpOp):Bool:=decide (q=PX o)
noncomputable def GC:aM->Const->Bool
 |.aD,.none=>ah|.bl a,.bool b=>a==b|.int i,.int j=>i==j|.str x,.str y=>x==y&&PyData.strOk x|_,_=>ai
noncomputable def AH:BT.Bi->Bool->Option ay
 |.len,ai=>aa "len"|.int,ai=>aa "int"|.list,_=>aa "list"|.tuple,ai=>aa "tuple"|.sorted,_=>aa "sorted"|.max1,ai=>aa "max"|.min1,ai=>aa "min"|.sum,ai=>aa "sum"|_,_=>af
def GD(b:BT.Bi)(mu:Bool)(x:ay):Bool:=AH b mu==aa x
noncomputable def AI:BT.Bi->ay->Bool
 |.min2,x=>x=="min"|.max2,x=>x=="max"|_,_=>ai
noncomputable def Ea:RN->Option Const
 |.Constant c _ _=>aa c|_=>af
noncomputable def cInt:Const->Option Int
 |.int j=>aa j|_=>af
noncomputable def unE:RN->Option RN
 |.UnaryOp o e _=>if o=.USub then aa e else af
 |_=>af
def qP(k:Int)(e:RN):Bool:=((Ea e).bind cInt==aa k&&decide (0<k))||(((unE e).bind Ea).bind cInt==aa (-k)&&decide (k<0))
noncomputable def AJ:BT.Me->ay
 |.append=>"append"|.pop=>"pop"|.extend=>"extend"|.tindex=>"index"|.sindex=>"index"|.dget=>"get"|.count=>"count"|.lindex=>"index"
noncomputable def uO:aU->Bool
 |.aE _=>ah|_=>ai
def Eb(m:BT.Me)(o:aU):Bool:=match m with
 |.append=>ah|.pop=>ah|.extend=>ah|.sindex=>ah|.tindex=>uO o|.dget=>ai|.count=>ah|.lindex=>ai
noncomputable def GE(c:ay):Bool:=(["NoMoment","NoThing","NoRun","NoText"]:List ay).contains c
def Re(q:ay):Bool:=GE q||q=="ValueError"
noncomputable def fV(N:List ay):Bool:=!N.contains "_law_flags"
noncomputable def tOK:aU->Bool
 |.ite _ _ _=>ai|.not a=>tOK a|.and a b=>tOK a&&tOK b|.or a b=>tOK a&&tOK b|.aC _=>ai|.aB _ _=>ai|.obl _=>ai|.comp _ _ _ _ _ _ _=>ai|_=>ah
noncomputable def kD:RN->Bool
 |.Set _ _ _=>ai|_=>ah
noncomputable def sU:BT.Sr->RN->Bool
 |.zip2,.Tuple _ _ _=>ah|.enu,.Tuple _ _ _=>ah|.itm,.Tuple _ _ _=>ah|.zipG,.Tuple _ _ _=>ah|.zip2,_=>ai|.enu,_=>ai|.itm,_=>ai|.zipG,_=>ai|_,_=>ah
noncomputable def d8(q sc:Tu):Tu :=
 {q with names:=q.names.map λ(n,k)=>if(k==.free&&sc.kind==.function&&sc.names.lookup n==aa .cell)then(n,.cell)else(n,k)}
noncomputable def nmE:RN->Option ay
 |.Name y _=>aa y|_=>af
noncomputable def Im:RN->List RN
 |.Tuple q _ _=>q|_=>[]
def sV(sc:Tu)(tg:List ay)(te:RN):Bool:=((tg.map aa==[nmE te])||(Nat.ble 2 tg.length&&tg.map aa==(Im te).map nmE))&&tg.all λx=>sc.names.lookup x==aa .local
noncomputable def nU:List ay->Bool
 |[]=>ah|x::r=>!r.contains x&&nU r
def kE(sc:Tu)(N:List ay)(tg:List ay)(D:List (Nat×ay))(B:Tu):Bool :=
 B.kind==.function&&sc.kind==.function&&B.names.all (λy=>!(y.2==.cell))&&B.names.all (λy=>!(y.2==.local)||B.names.lookup y.1==aa .local) &&
 B.names.all (λy=>!(y.2==.free)||sc.names.lookup y.1==aa .cell) &&
 D.all (λq=>N[q.1]?==aa q.2&&B.names.contains (q.2,.free)&&sc.names.lookup q.2==aa .cell&&(d8 B sc).names.lookup q.2==aa .cell)&&nU (tg++D.map (·.2))
noncomputable def dlQ:aM->PyData
 |.str x=>.str x|.int i=>.int i|_=>.none
noncomputable def MB:aM->Bool
 |.str x=>PyData.strOk x|.int _=>ah|_=>ai
def dlD(kvs:List (ay×aM)):List (PyData×PyData):=kvs.map λp=>(.str p.1,dlQ p.2)
def dlV:List (ay×aM)->Bool
 |[]=>ah|p::r=>PyData.strOk p.1&&MB p.2&&dlV r
def dlB(kvs:List (ay×aM))(q:List (Option RN))(B:List RN):Bool:=dlV kvs&&(q.all λx=>x.isSome)&&decide (q.length=B.length)&&!q.isEmpty&&decide (q.length<=15)&&decide (kvs.length<=15)
inductive Tq
 |e(a:aU)(x:RN)|es(as:aY)(xs:List RN)|o(as:aY)(x:Option RN)|c(as:aY)(xs:List RN)|i(q:BT.Sr)(B:aY)(x:RN)
set_option autoImplicit true in
class inductive CQ:Tu->List ay->Tq->Prop where
 |v(h1:N[i]?=aa x)(h2:sR sc x=ah)(q:fK x=ah):CQ sc N (.e (.v i) (.Name x p))
 |j(h:GC d c=ah):CQ sc N (.e (.j d) (.Constant c k p))
 |aE(h2:dJ sc x=ah)(q:fK x=ah):CQ sc N (.e (.aE x) (.Name x p))
 |bin(h:GB o op=ah)(q:CQ sc N (.e a l))(B:CQ sc N (.e b r)):CQ sc N (.e (.bin o a b) (.BinOp l op r p))
 |neg(q:CQ sc N (.e a x)):CQ sc N (.e (.neg a) (.UnaryOp .USub x p))
 |not(q:CQ sc N (.e a x)):CQ sc N (.e (.not a) (.UnaryOp .Not x p))
 |and2(q:CQ sc N (.e a x))(B:CQ sc N (.e b y)):CQ sc N (.e (.and a b) (.BoolOp .And [x,y] p))
 |and3(q:CQ sc N (.e a x))(B:CQ sc N (.e b (.BoolOp .And (y::z::r) p))):CQ sc N (.e (.and a b) (.BoolOp .And (x::y::z::r) p))
 |or2(q:CQ sc N (.e a x))(B:CQ sc N (.e b y)):CQ sc N (.e (.or a b) (.BoolOp .Or [x,y] p))
 |or3(q:CQ sc N (.e a x))(B:CQ sc N (.e b (.BoolOp .Or (y::z::r) p))):CQ sc N (.e (.or a b) (.BoolOp .Or (x::y::z::r) p))
 |z(h:D9 o op=ah)(q:CQ sc N (.e a l))(B:CQ sc N (.e b r))(D:Yr op r=ai):CQ sc N (.e (.z o a b) (.Compare l [op] [r] p))
 |chain(h:D9 o op=ah)(h':D9 o' op'=ah)(q:CQ sc N (.e a l))(B:CQ sc N (.e b r))(J:CQ sc N (.e c r'))(D:lastMarks [op,op'] [r,r']=ai):CQ sc N (.e (.chain o o' a b c) (.Compare l [op,op'] [r,r'] p))
 |ite(h:tOK c=ah)(D:CQ sc N (.e c t))(q:CQ sc N (.e a x))(B:CQ sc N (.e b y)):CQ sc N (.e (.ite c a b) (.IfExp t x y p))
 |aC(h:CQ sc N (.es as es)):CQ sc N (.e (.aC as) (.Tuple es k p))
 |aB(h:CQ sc N (.es as es)):CQ sc N (.e (.aB mu as) (.List es p))
 |y(q:CQ sc N (.e a x))(hi:CQ sc N (.e i sl))(B:k8 sl=ah):CQ sc N (.e (.y a i) (.Subscript x sl p))
 |n{lo:aY}(B:CQ sc N (.e a x))(q:CQ sc N (.o lo l))(D:CQ sc N (.o hi u)):CQ sc N (.e (.n a lo hi) (.Subscript x (.Slice l u af p2) p))
 |call(q:dJ sc f=ah)(hn:fK f=ah)(B:CQ sc N (.es as es)):CQ sc N (.e (.call f as) (.Call (.Name f np) es [] p))
 |sset(D:fV N=ah)(B:dJ sc "sorted"=ah)(q:dJ sc "set"=ah)(J:noStar e=ah)(h:CQ sc N (.e a e)):
  CQ sc N (.e (.bi .sset ai (.cons a .nil)) (.Call (.Name "sorted" np) [.Call (.Name "set" zp) [e] [] pos] [] p))
 |lrng(D:fV N=ah)(B:dJ sc "list"=ah)(q:dJ sc "range"=ah)(J:noStar e=ah)(h:CQ sc N (.e a e)):
  CQ sc N (.e (.lsr mu .rng1 (.cons a .nil)) (.Call (.Name "list" np) [.Call (.Name "range" zp) [e] [] pos] [] p))
 |bi(D:fV N=ah)(B:GD b mu x=ah)(L:dJ sc x=ah)(J:noStar e=ah)(q:CQ sc N (.e a e)):CQ sc N (.e (.bi b mu (.cons a .nil)) (.Call (.Name x np) [e] [] p))
 |inst(D:sP b=aa (c,f))(J:dJ sc "isinstance"=ah)(q:dJ sc (RV c)=ah)(L:noStar e=ah)(B:CQ sc N (.e a e)):
  CQ sc N (.e (.bi b ai (.cons a .nil)) (.Call (.Name "isinstance" np) [e,.Name (RV c) p2] [] p))
 |me(h1:Eb m o=ah)(h2:name=AJ m)(q:dS oe=ah)(L:(apos.endLine==cpos.line)=ah)(J:es.length<20)(D:CQ sc N (.e o oe))(B:CQ sc N (.es as es)):
  CQ sc N (.e (.me m o as) (.Call (.Attribute oe name apos) es [] cpos))
 |comp{cond:aY}
  (B:fV N=ah) (L:kE sc N tg fv scope=ah) (q:sV (d8 scope sc) tg te=ah) (hz:sU sr te=ah) (D:kD iter=ah) (hi:CQ sc N (.i sr sa iter))
  (M:CQ (d8 scope sc) (tg++fv.map (·.2)) (.c cond ifs)) (J:CQ (d8 scope sc) (tg++fv.map (·.2)) (.e elt elt')):CQ sc N (.e (.comp mu sr sa tg fv cond elt) (.ListComp elt' [⟨te,iter,ifs,0⟩] scope pos))
 |i(B:dS x=ah)(D:attrName f=ah)(q:CQ sc N (.e a x)):CQ sc N (.e (.i a f) (.Attribute x f p))
 |aF(q:dS oe=ah)(L:(apos.endLine==cpos.line)=ah)(J:es.length<20)(D:CQ sc N (.e o oe))(B:CQ sc N (.es as es)):
  CQ sc N (.e (.aF o m as) (.Call (.Attribute oe m apos) es [] cpos))
 |stp(q:qP k se=ah)(B:CQ sc N (.e a x)):CQ sc N (.e (.stp mu k a) (.Subscript x (.Slice af af (aa se) p2) p))
 |bi2(J:fV N=ah)(D:AI b x=ah)(L:dJ sc x=ah)(B:noStar e1=ah)(q:noStar e2=ah)(h1:CQ sc N (.e a1 e1))(h2:CQ sc N (.e a2 e2)):
  CQ sc N (.e (.bi b ai (.cons a1 (.cons a2 .nil))) (.Call (.Name x np) [e1,e2] [] p))
 |lzip(J:fV N=ah)(L:dJ sc "list"=ah)(D:dJ sc "zip"=ah)(B:noStar e1=ah)(q:noStar e2=ah)(h1:CQ sc N (.e a1 e1))(h2:CQ sc N (.e a2 e2)):
  CQ sc N (.e (.bi .lzip ai (.cons a1 (.cons a2 .nil))) (.Call (.Name "list" np) [.Call (.Name "zip" zp) [e1,e2] [] pos] [] p))
 |make(q:dJ sc c=ah)(hn:fK c=ah)(B:CQ sc N (.es as es)):CQ sc N (.e (.make c as) (.Call (.Name c np) es [] p))
 |obl(q:noStar e=ah)(h:CQ sc N (.e a e)):CQ sc N (.e (.obl a) (.List [e] p))
 |oba(q:dS oe=ah)(L:(apos.endLine==cpos.line)=ah)(J:noStar e=ah)(D:CQ sc N (.e o oe))(B:CQ sc N (.e a e)):CQ sc N (.e (.oba o a) (.Call (.Attribute oe "append" apos) [e] [] cpos))
 |obi(q:CQ sc N (.e a x))(hi:CQ sc N (.e i sl))(B:k8 sl=ah):CQ sc N (.e (.obi a i) (.Subscript x sl p))
 |obn(q:dJ sc "len"=ah)(B:noStar e=ah)(h:CQ sc N (.e a e)):CQ sc N (.e (.obn a) (.Call (.Name "len" np) [e] [] p))
 |sup(q:dJ sc c=ah)(hn:fK c=ah)(D:(apos.endLine==cpos.line)=ah)(J:(e::es).length<20)(B:CQ sc N (.es as (e::es))):CQ sc N (.e (.sup c as) (.Call (.Attribute (.Name c np) "__init__" apos) (e::es) [] cpos))
 |es_nil:CQ sc N (.es .nil [])
 |es_cons(D:noStar e=ah)(B:CQ sc N (.e a e))(q:CQ sc N (.es as es)):CQ sc N (.es (.cons a as) (e::es))
 |o_nil:CQ sc N (.o .nil af)
 |o_one(q:CQ sc N (.e a e)):CQ sc N (.o (.cons a .nil) (aa e))
 |c_nil:CQ sc N (.c .nil [])
 |c_one(B:tOK a=ah)(q:CQ sc N (.e a e)):CQ sc N (.c (.cons a .nil) [e])
 |rng1(q:dJ sc "range"=ah)(B:noStar e=ah)(h:CQ sc N (.e a e)):CQ sc N (.i .rng1 (.cons a .nil) (.Call (.Name "range" p) [e] [] pos))
 |rng2(L:dJ sc "range"=ah)(J:noStar x=ah)(q:noStar y=ah)(B:CQ sc N (.e a x))(D:CQ sc N (.e b y)):CQ sc N (.i .rng2 (.cons a (.cons b .nil)) (.Call (.Name "range" p) [x,y] [] pos))
 |rev(q:dJ sc "reversed"=ah)(B:noStar e=ah)(h:CQ sc N (.e a e)):CQ sc N (.i .rev (.cons a .nil) (.Call (.Name "reversed" p) [e] [] pos))
 |seq(h:CQ sc N (.e a x)):CQ sc N (.i .seq (.cons a .nil) x)
noncomputable abbrev CE'(sc:Tu)(N:List ay)(a:aU)(x:RN):Prop:=CQ sc N (.e a x)
noncomputable abbrev CEs(sc:Tu)(N:List ay)(as:aY)(xs:List RN):Prop:=CQ sc N (.es as xs)
noncomputable abbrev CC(sc:Tu)(N:List ay)(as:aY)(xs:List RN):Prop:=CQ sc N (.c as xs)
noncomputable abbrev CI(sc:Tu)(N:List ay)(q:BT.Sr)(B:aY)(x:RN):Prop:=CQ sc N (.i q B x)
inductive LPa:XN->List ay->Prop
 |one{p:Pos}:LPa ⟨[],[⟨"state",af,p⟩],af,[],[],af,[]⟩ ["state"]
 |two{p q:Pos}:LPa ⟨[],[⟨"row",af,p⟩,⟨"state",af,q⟩],af,[],[],af,[]⟩ ["row","state"]
def AK(ps fs:List ay)(sc:Tu):Bool :=
 sc.kind==.function&&!sc.isCoroutine&&!sc.isGenerator&&sc.names.all (λy=>!(y.2==.cell))&&ps.all (λx=>sc.names.lookup x==aa .local) &&
 fs.all (λx=>sc.names.lookup x==aa .free&&sc.names.contains (x,.free))&&sc.names.all (λy=>!(y.2==.free)||fs.contains y.1)&&nU (ps++fs)
noncomputable def MC(sc:Tu)(N:List ay)(B:List (Nat×ay)):Bool:=B.all λq=>N[q.1]?==aa q.2&&sc.names.lookup q.2==aa .cell
inductive CL(sc:Tu)(N:List ay):aU->ay->aY->Nat->List (Nat×ay)->RN->Prop
 |zero{o bt:aU}{m:ay}{L:Nat}{B:List (Nat×ay)}{D J:RN}{apos cpos O:Pos}{M:XN}{q:Tu}{ns ps:List ay}(hl:BT.Il L=aa ⟨ns,ns,.ret bt⟩)(hp:LPa M ps)(hn:ns=ps++B.map (·.2))(hk:AK ps (B.map (·.2)) q=ah)(W:MC sc N B=ah)
  (U:N.contains (BT.jD (BT.GA L))=ah) (hc:CE' q ns bt J) (Y:dS D=ah) (V:(apos.endLine==cpos.line)=ah) (Z:CE' sc N o D):CL sc N o m .nil L B (.Call (.Attribute D m apos) [.Lambda M J q O] [] cpos)
 |one{o bt a:aU}{m:ay}{L:Nat}{B:List (Nat×ay)}{D J e:RN}{apos cpos O:Pos}{M:XN}{q:Tu}{ns ps:List ay}(Y:BT.Il L=aa ⟨ns,ns,.ret bt⟩)(hp:LPa M ps)(hn:ns=ps++B.map (·.2))(Z:AK ps (B.map (·.2)) q=ah)(hv:MC sc N B=ah)
  (ht:N.contains (BT.jD (BT.GA L))=ah) (hc:CE' q ns bt J) (h3:dS D=ah) (h6:(apos.endLine==cpos.line)=ah) (W:CE' sc N o D) (V:noStar e=ah) (U:CE' sc N a e):CL sc N o m (.cons a .nil) L B (.Call (.Attribute D m apos) [e,.Lambda M J q O] [] cpos)
def KT(K:RB)(a:az)(xs:List V):Prop :=
 ∃(o:ao) (q:Array aA) (n:Nat),(K.lookup a=aa o/\o.cls=.type "tuple"/\o.data=.seq q n/\q.size<=aj/\dg xs q.toList)/\o.dict=af
def KL(K:RB)(a:az)(xs:List V):Prop:=∃(q:List aA) (n:Nat),K.lookup a=aa {cls:=.type "list",data:=.seq q.toArray n}/\q.length<=aj/\dg xs q
def LL(K:RB)(H:Hp)(a:az)(xs:List V):Prop:=Rd H a (.aB xs)\/KL K a xs
def LL.sq(h:LL K H a xs):SqL K H a xs:=by
 rcases h with h|⟨its,n,h1,h2,h3⟩
 exact .inl h;exact .inr ⟨_,its.toArray,n,h1,rfl,rfl,rfl,by simpa using h2,by simpa using h3⟩
def KD(P:Sb)(w:SH)(K:RB)(a:az)(es:List (ay×V)):Prop :=
 (a==U4)=ai/\∃B:List (Key×aA),KV (es.map λq=>(Sum.inr q.1,q.2)) B/\∀h:aq,K.In h->h.DictOf (dF P w) a B
mutual
inductive RD(K:RB)(m:List az)(H:Hp):V->aM->Prop
 |aD:RD K m H .aD .aD
 |bl(b:Bool):RD K m H (.bl b) (.bl b)
 |int(i:Int):RD K m H (.int i) (.int i)
 |str(x:ay)(h:PyData.strOk x=ah):RD K m H (.str x) (.str x)
 |aC{a:az}{vs:List V}{ds:List aM}(h:(Rd H a (.aC vs)/\a∉m)\/KT K a vs)(r:RDs K m H vs ds):RD K m H (.ref a) (.aC ds)
 |aB{a:az}{vs:List V}{ds:List aM}(h:(Rd H a (.aB vs)/\a∉m)\/KL K a vs)(r:RDs K m H vs ds):RD K m H (.ref a) (.aB ds)
inductive RDs(K:RB)(m:List az)(H:Hp):List V->List aM->Prop
 |nil:RDs K m H [] []
 |cons{v:V}{d:aM}{vs:List V}{ds:List aM}(r:RD K m H v d)(t:RDs K m H vs ds):RDs K m H (v::vs) (d::ds)
end
inductive RDk(K:RB):List (ay×V)->List (ay×aM)->Prop
 |nil:RDk K [] []
 |cons{x:ay}{v:V}{d:aM}{es:List (ay×V)}{kvs:List (ay×aM)}(r:∀m H,RD K m H v d)(t:RDk K es kvs):RDk K ((x,v)::es) ((x,d)::kvs)
inductive RA(K:RB)(m:List az)(H:Hp):V->aN->Prop
 |p{v:V}{d:aM}(r:RD K m H v d):RA K m H v (.p d)
 |r{a:az}{n:Nat}(h:m[n]?=aa a):RA K m H (.ref a) (.r n)
 |o{a:az}{n:Nat}(h:m[n]?=aa a):RA K m H (.ref a) (.o n)
def Tr(m:List az)(H:Hp)(a:az)(o:ao):Prop:=H a=aa (.frz o (.own 0))/\a∉m
noncomputable def PY(x:ay):ay:=x++".<locals>."++"<lambda>"
inductive uP(m:List az)(H:Hp)(cl:List (ay×az)):List ay->List V->Prop
 |nil:uP m H cl [] []
 |cons{x:ay}{c:az}{o:ao}{u:aA}{v:V}{xs:List ay}{vs:List V}(h1:cl.lookup x=aa c)(h2:Tr m H c o)(q:o.data=.cell (aa u))(r:RelV v u)(t:uP m H cl xs vs):uP m H cl (x::xs) (v::vs)
inductive pZ(m:List az)(H:Hp)(f:az)(L:Nat)(vs:List V):Prop
 |mk(bt:_)(ps:_)(fs:_)(M:_)(J:_)(sc:_)(cl:_)(pm:_)(B:_)(D:_)(O:_)(os:_)(t:_)(q:_)(h1:BT.Il L=aa ⟨ps++fs,ps++fs,.ret bt⟩)(h2:LPa M ps)(h3:AK ps fs sc=ah)(h4:CE' sc (ps++fs) bt J)(Z:(∀x y c,cl.lookup x=aa c->cl.lookup y=aa c->x=y))(h6:(∀x c,cl.lookup x=aa c->x∈fs))(h7:Tr m H f (PySem.W.kla_obj "<lambda>" q M J sc cl pm D B))(h8:Tr m H D O)(h9:O.data=.fields os)(Y:os[1]?=aa (.str q t))(U:uP m H cl fs vs):pZ m H f L vs
inductive RCs(K:RB)(m:List az)(H:Hp):List V->List BT.Cp->Prop
 |nil:RCs K m H [] []
 |cons{v:V}{x:BT.Cp}{vs:List V}{xs:List BT.Cp}(r:RA K m H v x.w)(t:RCs K m H vs xs):RCs K m H (v::vs) (x::xs)
def TB(K:RB)(H:Hp):Prop:=∀x∈BT.iE,∀c P,TU K x=aa (c,P)->∃q,H P=aa (.tbl q)/\TriplesOk q.toList ∧
 ∀B v,codeAmong B q.toList=aa v->∃J D os t,v=.ref J/\H J=aa (.frz D (.own 0))/\D.data=.fields os/\os[1]?=aa (.str (PY x) t)
def TB.mono(h:TB K H)(h1:∀P ps,H P=aa (.tbl ps)->H' P=aa (.tbl ps))(h2:∀a o vs,o.data=.fields vs->H a=aa (.frz o (.own 0))->H' a=aa (.frz o (.own 0))):TB K H':=λx O c P e=>by obtain⟨ps,e1,e2,U⟩:=h x O c P e;refine⟨ps,h1 _ _ e1,e2,λB v q=>?_⟩;obtain⟨V,M,os,t,L,J,D⟩:=U B v q;exact⟨V,M,os,t,L,h2 _ _ _ D.1 J,D⟩
def CN(K:RB)(c:ay)(C:az):Prop:=SN K R8 c=aa (aa (.ref C))
structure XT(K:RB)(c:ay)(C:az):Prop where
 ga:Sk K (.ref C) "__getattribute__"=aa (aa (.builtin "BaseException.__getattribute__"))
 nga:Sk K (.ref C) "__getattr__"=aa af
 mrb:VW K C (.type "BaseException")=aa ah
 dct:Uk K C=ah
 fnd:Sk K (.ref C) "__class__"=aa (aa (.builtin "object.__class__"))
 spc:Uj K (.builtin "object.__class__") "__get__"=aa (aa (.builtin "getset_descriptor.__get__"))
 tak:Vv K (.builtin "object.__class__")=aa ah
 mro:VW K C (.type "object")=aa ah
 own:∀cn,GE cn=ah->BT.PC c cn=ah->∃D,CN K cn D/\TZ K (.ref C) (.ref D)=aa (BT.PB c cn)
 val:TZ K (.ref C) (.type "ValueError")=aa ah
def excAt(K:RB)(c:ay)(a:az):aq->Prop:=λh=>∃o C,CN K c C/\XT K c C/\h.get? a=aa o/\o.cls=.ref C
inductive RKs(K:RB)(m:List az)(H:Hp):List (Key×V)->List (BT.Ky×aM)->Prop
 |nil:RKs K m H [] []
 |cons{k:Key}{v:V}{d:aM}{vs:List (Key×V)}{kvs:List (BT.Ky×aM)}(q:RD K m H (kV k) (BT.HJ k))(r:RD K m H v d)(t:RKs K m H vs kvs):RKs K m H ((k,v)::vs) ((k,d)::kvs)
inductive RW(P:Sb)(w:SH)(K:RB)(m:List az)(H:Hp):V->aN->Prop
 |p{v:V}{d:aM}(r:RD K m H v d):RW P w K m H v (.p d)
 |r{a:az}{n:Nat}(h:m[n]?=aa a):RW P w K m H (.ref a) (.r n)
 |k{a:az}{es:List (ay×V)}{kvs:List (ay×aM)}(h:KD P w K a es)(r:RDk K es kvs):RW P w K m H (.ref a) (.k (.t kvs))
 |kl{a:az}{o:ao}{vs:List (Key×V)}{kvs:List (BT.Ky×aM)}(h:H a=aa (.frz o (.dK vs))/\a∉m)(r:RKs K m H vs kvs):RW P w K m H (.ref a) (.k (.l kvs))
 |o{a:az}{n:Nat}(h:m[n]?=aa a):RW P w K m H (.ref a) (.o n)
 |c{f:az}{L:Nat}{vs:List V}{q:List BT.Cp}(h:pZ m H f L vs)(r:RCs K m H vs q):RW P w K m H (.ref f) (.c (.l L) q)
 |x{a:az}{c:ay}(h:H a=aa (.ext (excAt K c a)))(n:a∉m)(q:∃C,XT K c C):RW P w K m H (.ref a) (.x c)
 |g{f:az}{x:ay}(h:SN K R8 x=aa (aa (.ref f)))(r:Tw K (.ref f)=ah):RW P w K m H (.ref f) (.c (.f x) [])
inductive RFs(K:RB)(m:List az)(H:Hp):List (ay×V)->List (ay×aN)->Prop
 |nil:RFs K m H [] []
 |cons{f:ay}{v:V}{x:aN}{vs:List (ay×V)}{fs:List (ay×aN)}(r:RA K m H v x)(t:RFs K m H vs fs):RFs K m H ((f,v)::vs) ((f,x)::fs)
def CN.inj(h:CN K c C)(h':CN K c C'):C=C':=by have e:=h.symm.trans h';simpa using e
structure nV(K:RB)(c:ay)(C:az):Prop where
 cn:CN K c C
 cls:Cls K C
 no:∀f,attrName f=ah->jy K C f
 rd:Wq K C (.type "type")=ah
inductive RBs(m:List az):List V->List Nat->Prop
 |nil:RBs m [] []
 |cons{n:Nat}{a:az}{vs:List V}{ns:List Nat}(h:m[n]?=aa a)(t:RBs m vs ns):RBs m (.ref a::vs) (n::ns)
def jE(K:RB)(m:List az)(H:Hp)(a:az):BT.Cl->Prop
 |.l D=>∃q,H a=aa (.aB q)/\RDs K m H q D|.o c fs=>∃C L q,H a=aa (.ins C L q)/\nV K c C/\RFs K m H q fs|.d B=>∃q,H a=aa (.dK q)/\RKs K m H q B|.z=>∃ob q,H a=aa (.frz ob (.dK q))|.b J=>∃q,H a=aa (.aB q)/\RBs m q J
inductive RWs(P:Sb)(w:SH)(K:RB)(m:List az)(H:Hp):List V->List aN->Prop
 |nil:RWs P w K m H [] []
 |cons{v:V}{x:aN}{vs:List V}{xs:List aN}(r:RW P w K m H v x)(t:RWs P w K m H vs xs):RWs P w K m H (v::vs) (x::xs)
structure RH(K:RB)(m:List az)(H:Hp)(h:aO):Prop where
 nd:m.Nodup
 len:m.length=h.length
 cl:∀(i:Nat)(a:az)(c:BT.Cl),m[i]?=aa a->h[i]?=aa c->jE K m H a c
 tb:TB K H
def AL(e:bg h n=aa xs):h[n]?=aa (.l xs):=by
 unfold bg at e;cases g:h[n]? with
 |none=>rw[g]at e;exact cU e|some c=>rw[g]at e;cases c<;>simp[BT.nB]at e;rw[e]
def AM(e:bw h n=aa (c,fs)):h[n]?=aa (.o c fs):=by
 unfold bw at e;cases g:h[n]? with
 |none=>rw[g]at e;exact cU e|some c=>rw[g]at e;cases c<;>simp[BT.pq]at e;rw[e.1,e.2]
def AN{h:aO}{n:Nat}{ns:List Nat}(e:BT.bat h n=aa ns):h[n]?=aa (.b ns):=by
 unfold BT.bat at e;cases g:h[n]? with
 |none=>rw[g]at e;exact cU e|some c=>rw[g]at e;cases c<;>simp[BT.mD]at e;rw[e]
def RH.vY{m:List az}{H:Hp}{h:aO}(R:RH K m H h)(i:Nat)(a:az)(ns:List Nat)(e:m[i]?=aa a)(g:BT.bat h i=aa ns):∃vs,H a=aa (.aB vs)/\RBs m vs ns:=R.cl i a _ e (AN g)
def RH.cell(R:RH K m H h)(i:Nat)(a:az)(xs:List aM)(e:m[i]?=aa a)(g:bg h i=aa xs):∃vs,H a=aa (.aB vs)/\RDs K m H vs xs:=R.cl i a _ e (AL g)
inductive OC(K:RB)(m:List az)(H:Hp)(a:az)(c:ay)(fs:List (ay×aN)):Prop
 |mk(C:az)(dx:_)(vs:_)(h1:H a=aa (.ins C dx vs))(h2:nV K c C)(q:RFs K m H vs fs):OC K m H a c fs
def RH.sW(R:RH K m H h)(i:Nat)(a:az)(c:ay)(fs:List (ay×aN))(e:m[i]?=aa a)(g:bw h i=aa (c,fs)):OC K m H a c fs:=by obtain⟨C,L,q,J,D,B⟩:=R.cl i a _ e (AM g);exact⟨C,L,q,J,D,B⟩
structure RS(P:Sb)(w:SH)(K:RB)(m:List az)(H:Hp)(σ:L2.St)(s:bx):Prop where
 len:σ.length=s.length
 get:∀(i:Nat)(x:aN),s[i]?=aa (aa x)->∃v,σ[i]?=aa (aa v)/\RW P w K m H v x
noncomputable def GF:HO->Bool
 |.tbl _=>ah|_=>ai
structure Ext(m:List az)(H:Hp)(m':List az)(H':Hp):Prop where
 pre:∃e,m'=m++e/\∀a∈e,H a=af
 keep:∀a o,H a=aa o->a∉m->GF o=ai->H' a=aa o
 live:∀a,H' a=af->H a=af
 frz:∀a ob vs,H a=aa (.frz ob (.dK vs))->H' a=aa (.frz ob (.dK vs))
def Ext.refl(m:List az)(H:Hp):Ext m H m H:=⟨⟨[],by simp,by simp⟩,λ_ _ h _ _=>h,λ_ h=>h,λ_ _ _ h=>h⟩
def Ext.jF(x:Ext m H m' H')(h:H a=aa o)(n:a∉m):a∉m':=by
 obtain⟨e,rfl,B⟩:=x.pre;intro q;rcases List.mem_append.mp q with q|q
 exact n q;rw[B a q]at h;exact cU h
def Ext.trans(x:Ext m H m1 H1)(y:Ext m1 H1 m2 H2):Ext m H m2 H2:=by
 obtain⟨e,rfl,J⟩:=x.pre;obtain⟨M,rfl,B⟩:=y.pre;refine⟨⟨e++M,by rw[SZ],λa L=>?_⟩,λa o h n t=>y.keep a o (x.keep a o h n t) (x.jF h n) t,λa h=>x.live a (y.live a h),λa ob D h=>y.frz a ob D (x.frz a ob D h)⟩;rcases List.mem_append.mp L with q|q
 exact J a q;exact x.live a (B a q)
def Rd.ext(x:Ext m H m' H')(h:Rd H a u)(n:a∉m)(t:GF u=ai:=by rfl):Rd H' a u/\a∉m':=by
 rcases h with h|⟨o,h⟩
 exact⟨.inl (x.keep _ _ h n t),x.jF h n⟩;exact⟨.inr ⟨o,x.keep _ _ h n rfl⟩,x.jF h n⟩
def Tr.ext(x:Ext m H m' H')(h:Tr m H a o):Tr m' H' a o:=⟨x.keep _ _ h.1 h.2 rfl,x.jF h.1 h.2⟩
def uP.ext(x:Ext m H m' H')(r:uP m H cl xs vs):uP m' H' cl xs vs:=by
 induction r with
 |nil=>exact .nil|cons J D B r t q=>exact .cons J (D.ext x) B r q
def pZ.ext(x:Ext m H m' H')(h:pZ m H f L vs):pZ m' H' f L vs:=by obtain⟨k,M,fs,U,l,J,cl,O,D,j,V,os,t,q,i,g,e,d,c,b,a,Z,Y,W,B⟩:=h;exact⟨k,M,fs,U,l,J,cl,O,D,j,V,os,t,q,i,g,e,d,c,b,a.ext x,Z.ext x,Y,W,B.ext x⟩
section
variable{K:RB}
mutual
theorem RD.ext(x:Ext m H m' H'):∀{v:V}{d:aM},RD K m H v d->RD K m' H' v d
 |_,_,.aD=>.aD|_,_,.bl b=>.bl b|_,_,.int i=>.int i|_,_,.str y h=>.str y h|_,_,.aC h r=>.aC (h.elim (λq=>.inl (Rd.ext x q.1 q.2)) .inr) (RDs.ext x r)|_,_,.aB h r=>.aB (h.elim (λq=>.inl (Rd.ext x q.1 q.2)) .inr) (RDs.ext x r)
theorem RDs.ext(x:Ext m H m' H'):∀{vs:List V}{ds:List aM},RDs K m H vs ds->RDs K m' H' vs ds
 |_,_,.nil=>.nil|_,_,.cons r t=>.cons (RD.ext x r) (RDs.ext x t)
end
def RA.rw(r:RA K m H v d):RW P w K m H v d:=by
 cases r with
 |p r=>exact .p r|r h=>exact .r h|o h=>exact .o h
def RW.ra(r:RW P w K m H v d)(q:BT.attrOk d=ah):RA K m H v d:=by
 cases r with
 |p r=>exact .p r|r h=>exact .r h|o h=>exact .o h|_=>exact aT q
def Ext.ix(x:Ext m H m' H'){n:Nat}(h:m[n]?=aa a):m'[n]?=aa a:=by obtain⟨e,rfl,_⟩:=x.pre;rw[RE (by rcases R0 _ m.length with q|q;exact q;rw[RT q]at h;exact cU h)];exact h
def RA.ext(x:Ext m H m' H')(r:RA K m H v d):RA K m' H' v d:=by
 cases r with
 |p r=>exact .p (r.ext x)|r h=>exact .r (x.ix h)|o h=>exact .o (x.ix h)
def RCs.ext(x:Ext m H m' H')(r:RCs K m H vs cs):RCs K m' H' vs cs:=by
 induction r with
 |nil=>exact .nil|cons r t q=>exact .cons (r.ext x) q
def RKs.ext(x:Ext m H m' H')(r:RKs K m H vs kvs):RKs K m' H' vs kvs:=by
 induction r with
 |nil=>exact .nil|cons B r t q=>exact .cons (B.ext x) (r.ext x) q
def RW.ext(x:Ext m H m' H')(r:RW P w K m H v d):RW P w K m' H' v d:=by
 cases r with
 |p r=>exact .p (r.ext x)
 |r h =>
  obtain⟨e,rfl,_⟩:=x.pre;refine .r ?_;rw[RE (by rcases R0 _ m.length with q|q;exact q;rw[RT q]at h;exact cU h)];exact h
 |k h r=>exact .k h r|kl h r=>exact .kl ⟨x.keep _ _ h.1 h.2 rfl,x.jF h.1 h.2⟩ (r.ext x)|c h r=>exact .c (h.ext x) (r.ext x)|g h r=>exact .g h r|x h n B=>exact .x (x.keep _ _ h n rfl) (x.jF h n) B
 |o h =>
  obtain⟨e,rfl,_⟩:=x.pre;refine .o ?_;rw[RE (by rcases R0 _ m.length with q|q;exact q;rw[RT q]at h;exact cU h)];exact h
def RFs.ext(x:Ext m H m' H')(r:RFs K m H vs fs):RFs K m' H' vs fs:=by
 induction r with
 |nil=>exact .nil|cons r t q=>exact .cons (r.ext x) q
def RBs.ext(x:Ext m H m' H'){vs:List V}{ns:List Nat}(r:RBs m vs ns):RBs m' vs ns:=by
 induction r with
 |nil=>exact .nil|cons h t q=>exact .cons (x.ix h) q
def jE.ext(x:Ext m H m' H')(e:H' a=H a)(r:jE K m H a c):jE K m' H' a c:=by
 cases c with
 |o c fs=>obtain⟨C,L,q,B,D,J⟩:=r;exact⟨C,L,q,e.trans B,D,J.ext x⟩|z=>obtain⟨ob,q,B⟩:=r;exact⟨ob,q,e.trans B⟩|_=>obtain⟨q,B,D⟩:=r;exact⟨q,e.trans B,D.ext x⟩
def jE.some(r:jE K m H a c):∃o,H a=aa o:=by
 cases c with
 |o c fs=>obtain⟨C,L,B,q,D,J⟩:=r;exact⟨_,q⟩|z=>obtain⟨ob,B,q⟩:=r;exact⟨_,q⟩|_=>obtain⟨B,q,D⟩:=r;exact⟨_,q⟩
def RWs.ext(x:Ext m H m' H')(r:RWs P w K m H vs ds):RWs P w K m' H' vs ds:=by
 induction r with
 |nil=>exact .nil|cons r t q=>exact .cons (r.ext x) q
def RS.ext(x:Ext m H m' H')(r:RS P w K m H σ s):RS P w K m' H' σ s :=
 ⟨r.len,λi y e=>by obtain⟨v,h,q⟩:=r.get i y e;exact⟨v,h,q.ext x⟩⟩
theorem RDs.length:∀{vs:List V}{ds:List aM},RDs K m H vs ds->vs.length=ds.length
 |_,_,.nil=>rfl
 |_,_,.cons _ t=>by rw[RY,RY,RDs.length t]
theorem RWs.length:∀{vs:List V}{ds:List aN},RWs P w K m H vs ds->vs.length=ds.length
 |_,_,.nil=>rfl
 |_,_,.cons _ t=>by rw[RY,RY,RWs.length t]
theorem RDs.get:∀{vs:List V}{ds:List aM}{i:Nat}{d:aM},RDs K m H vs ds->ds[i]?=aa d->∃v,vs[i]?=aa v/\RD K m H v d
 |_,_,_,_,.nil,e=>by simp at e
 |_,_,0,_,.cons r _,e=>by simp at e;subst e;exact⟨_,rfl,r⟩
 |_,_,i+1,d,.cons _ t,e=>by obtain⟨u,B,q⟩:=RDs.get (i:=i) (d:=d) t (by simpa using e);exact⟨u,by simpa using B,q⟩
theorem RDs.append:∀{vs ws:List V}{ds es:List aM},RDs K m H vs ds->RDs K m H ws es->RDs K m H (vs++ws) (ds++es)
 |_,_,_,_,.nil,s=>s|_,_,_,_,.cons r t,s=>.cons r (RDs.append t s)
theorem RDs.take:∀{vs:List V}{ds:List aM}(n:Nat),RDs K m H vs ds->RDs K m H (vs.take n) (ds.take n)
 |_,_,0,_=>.nil|_,_,_+1,.nil=>.nil|_,_,n+1,.cons r t=>.cons r (RDs.take n t)
theorem RDs.drop:∀{vs:List V}{ds:List aM}(n:Nat),RDs K m H vs ds->RDs K m H (vs.drop n) (ds.drop n)
 |_,_,0,r=>r|_,_,_+1,.nil=>.nil|_,_,n+1,.cons _ t=>RDs.drop n t
theorem RDs.set(r:RD K m H v d):∀{vs:List V}{ds:List aM}(i:Nat),RDs K m H vs ds->RDs K m H (vs.set i v) (ds.set i d)
 |_,_,_,.nil=>.nil|_,_,0,.cons _ t=>.cons r t|_,_,i+1,.cons q t=>.cons q (RDs.set r i t)
theorem RDs.pick(r:RDs K m H vs ds):∀l:List Nat,RDs K m H (l.filterMap λi=>vs[i]?) (l.filterMap λi=>ds[i]?)
 |[]=>.nil
 |i::l=>by
  rw[SX,SX];cases g:ds[i]? with
  |none =>
   have:vs[i]?=af:=by have h:=r.length;rw[Xe]at g⊢;lia
   rw[this];exact RDs.pick r l
  |some d =>
   obtain⟨v,e,q⟩:=r.get g;rw[e];exact .cons q (RDs.pick r l)
theorem RDs.dropLast:∀{vs:List V}{ds:List aM},RDs K m H vs ds->RDs K m H vs.dropLast ds.dropLast
 |_,_,.nil=>.nil|_,_,.cons _ .nil=>.nil|_,_,.cons r (.cons q t)=>.cons r (RDs.dropLast (.cons q t))
theorem RDs.rep(r:RDs K m H vs ds):∀k:Nat,RDs K m H (Sd k vs).flatten (Sd k ds).flatten
 |0=>.nil
 |k+1=>by rw[TQ,TQ,Uu,Uu];exact RDs.append r (RDs.rep r k)
def qa{N:List az}(D:N.Nodup){i j:Nat}{x:az}(a:N[i]?=aa x)(b:N[j]?=aa x):i=j:=by
 have B:i<N.length:=by
  rcases R0 i N.length with z|z
  exact z;rw[RT z]at a;exact cU a
 have q:j<N.length:=by
  rcases R0 j N.length with z|z
  exact z;rw[RT z]at b;exact cU b
 rw[RJ B]at a;rw[RJ q]at b;exact(Wz D).mp ((RO a).trans (RO b).symm)
inductive RR(K:RB)(m:List az)(H:Hp):V->aM->Prop
 |d{v:V}{d:aM}(r:RD K m H v d):RR K m H v d
 |l{a:az}{vs:List V}{ds:List aM}(h:H a=aa (.aB vs))(r:RDs K m H vs ds):RR K m H (.ref a) (.aB ds)
def dX(B:RH K m H h)(r:RW P w K m H v x)(e:aW x h=aa d):RR K m H v d:=by
 cases r with
 |p r=>cases e;exact .d r
 |@r a n q =>
  simp only[aW]at e;cases g:bg h n with
  |none=>rw[g]at e;exact cU e
  |some D =>
   rw[g]at e;cases e;obtain⟨M,L,J⟩:=B.cell n a D q g;exact .l L J
 |_=>exact cU e
inductive RLs(K:RB)(m:List az)(H:Hp)(v:V)(ds:List aM):Prop
 |mk(a:az)(vs:List V)(e:v=.ref a)(l:LL K H a vs)(r:RDs K m H vs ds):RLs K m H v ds
inductive RTs(K:RB)(m:List az)(H:Hp)(v:V)(ds:List aM):Prop
 |mk(a:az)(vs:List V)(e:v=.ref a)(l:SqT K H a vs)(r:RDs K m H vs ds):RTs K m H v ds
theorem RR.aB{v:V}{ds:List aM}(r:RR K m H v (.aB ds)):RLs K m H v ds:=by
 cases r with
 |d r=>cases r with|aB h r=>exact⟨_,_,rfl,h.elim (λq=>.inl q.1) .inr,r⟩
 |l h r=>exact⟨_,_,rfl,.inl (.inl h),r⟩
theorem RR.aC{v:V}{ds:List aM}(r:RR K m H v (.aC ds)):RTs K m H v ds:=by
 cases r with
 |d r=>cases r with|aC h r=>exact⟨_,_,rfl,h.elim (λq=>.inl q.1) (λ⟨o,its,n,q,_⟩=>.inr ⟨o,its,n,q⟩),r⟩
def RR.int{v:V}{i:Int}(r:RR K m H v (.int i)):v=.int i:=by cases r with|d r=>cases r;rfl
theorem RR.str{v:V}{x:ay}(r:RR K m H v (.str x)):v=.str x/\PyData.strOk x=ah:=by cases r with|d r=>cases r with|str _ h=>exact⟨rfl,h⟩
def RR.bl{v:V}{b:Bool}(r:RR K m H v (.bl b)):v=.bl b:=by cases r with|d r=>cases r;rfl
def RR.aD(r:RR K m H v .aD):v=.aD:=by cases r with|d r=>cases r;rfl
def TB.new(q:H p=af)(h:TB K H):TB K (upd H p o) :=
 h.mono (λP B e=>by rw[dB (dR e q)];exact e) λa o _ _ e=>by rw[dB (dR e q)];exact e
def jY(B:H p=af):Ext m H m (upd H p o) :=
 ⟨⟨[],by simp,by simp⟩,λa q h _ _=>by rw[dB (dR h B)];exact h,λa h=>by
  by_cases e:a=p
  rw[e];exact B
  ·rw[dB e] at h;exact h,λa ob D h=>by rw[dB (dR h B)];exact h⟩
def RH.jF(R:RH K m H h)(D:H p=af):p∉m:=by
 intro q;obtain⟨i,B⟩:=Uy q;have J:i<h.length:=by
  rw[←R.len];rcases R0 i m.length with z|z
  exact z;rw[RT z]at B;exact cU B
 obtain⟨o,e⟩:=(R.cl i p h[i] B (RJ J)).some;rw[e]at D;cases D
def Le(H H':Hp):Prop:=∀a u,H a=aa u->H' a=aa u
def Le.tb(q:Le H H')(t:TB K H):TB K H':=t.mono (λ_ _ e=>q _ _ e) λ_ _ _ _ e=>q _ _ e
def Io(q:H p=af):Le H (upd H p o):=λa u e=>by rw[dB (dR e q)];exact e
def RH.ext(R:RH K m H h)(x:Ext m H m H')(k:Le H H'):RH K m H' h :=
 ⟨R.nd,R.len,λi a c e1 e2=>by obtain⟨o,e⟩:=(R.cl i a c e1 e2).some;exact(R.cl i a c e1 e2).ext x (by rw[e];exact k _ _ e),k.tb R.tb⟩
noncomputable def MD:HO->Bool
 |.aB _=>ah|.ins _ _ _=>ah|.dK _=>ah|_=>ai
noncomputable def ME:HO->Bool
 |.frz _ (.dK _)=>ah|.aB _=>ah|.ins _ _ _=>ah|.dK _=>ah|_=>ai
def RH.mu(R:RH K m H h)(L:a∈m):∃o,H a=aa o/\ME o=ah:=by
 obtain⟨i,B⟩:=Uy L;have J:i<h.length:=by
  rw[←R.len];rcases R0 i m.length with z|z
  exact z;rw[RT z]at B;exact cU B
 have z:=R.cl i a h[i] B (RJ J);cases g:h[i]with
 |o c fs=>rw[g]at z;obtain⟨C,U,D,q,M,O⟩:=z;exact⟨_,q,rfl⟩|z=>rw[g]at z;obtain⟨ob,D,q⟩:=z;exact⟨_,q,rfl⟩|_=>rw[g]at z;obtain⟨D,q,M⟩:=z;exact⟨_,q,rfl⟩
def RH.new(R:RH K m H h)(q:H p=af):RH K m (upd H p o) h :=
 R.ext (jY q) (Io q)
def iX(B:H p=af):Ext m H (m++[p]) (upd H p o) :=
 ⟨⟨[p],rfl,by simpa using B⟩,λa q h _ _=>by rw[dB (dR h B)];exact h,λa h=>by
  by_cases e:a=p
  rw[e];exact B
  ·rw[dB e] at h;exact h,λa ob D h=>by rw[dB (dR h B)];exact h⟩
def RH.Ip(R:RH K m H h)(q:H p=af)(r:jE K (m++[p]) (upd H p o) p c):RH K (m++[p]) (upd H p o) (h++[c]):=by
 have B:=R.jF q;have x:Ext m H (m++[p]) (upd H p o):=iX q;refine⟨List.nodup_append.mpr ⟨R.nd,by simp,λa M b D=>by simp at D;subst D;exact λe=>B (e ▸ M)⟩,by simp[R.len],λi a J e1 e2=>?_,R.tb.new q⟩
 by_cases c:i<m.length
 ·rw[RE c]at e1;rw[RE (by rw[←R.len];exact c)]at e2;have L:a≠p:=by intro e;subst e;exact B (RU e1)
  exact(R.cl i a J e1 e2).ext x (dB L)
 ·have e:i=m.length:=by
   rcases R0 i (m++[p]).length with z|z
   simp at z;lia;rw[RT z]at e1;exact cU e1
  subst e;simp at e1;rw[R.len]at e2;simp at e2;subst e1 e2;exact r
def RH.PZ(R:RH K m H h)(q:H p=af)(r:RDs K m H vs xs):RH K (m++[p]) (upd H p (.aB vs)) (h++[.l xs]) :=
 R.Ip q ⟨vs,d9,r.ext (iX q)⟩
def TB.set(B:∃u,H a=aa u/\ME u=ah)(h:TB K H):TB K (upd H a o):=by obtain⟨w,hw,q⟩:=B;refine h.mono (λP D e=>?_) λb ob _ _ e=>?_;rw[dB (λz=>by subst z;rw[hw]at e;cases e;exact aT q)];exact e;rw[dB (λz=>by subst z;rw[hw]at e;cases e;exact aT q)];exact e
def nW{a:az}{o:HO}(M:a∈m)(B:∃u,H a=aa u/\MD u=ah):Ext m H m (upd H a o) :=
 ⟨⟨[],by simp,by simp⟩,λb u q n _=>by
  have D:b≠a:=by intro e;subst e;exact n M
  rw[dB D];exact q,λb q=>by
  by_cases e:b=a
  subst e;rw[d9]at q;cases q
  ·rw[dB e]at q;exact q,λb ob O q=>by
  obtain ⟨u,J,L⟩:=B;rw[dB (λz=>by subst z;rw[J] at q;cases q;exact aT L)];exact q⟩
def gZ(q:a∈m)(h:H a=aa (.aB us)):Ext m H m (upd H a (.aB vs)):=nW q ⟨_,h,rfl⟩
def RH.setC{h:aO}(R:RH K m H h){n:Nat}{a:az}{o:HO}{c:BT.Cl}(hn:m[n]?=aa a)(B:∃u,H a=aa u/\MD u=ah)(r:jE K m (upd H a o) a c):RH K m (upd H a o) (h.set n c):=by
 have x:Ext m H m (upd H a o):=nW (RU hn) B;refine⟨R.nd,by simp[R.len],λi b q e1 e2=>?_,R.tb.set (R.mu (RU hn))⟩
 by_cases c:i=n
 ·subst c;rw[hn]at e1;cases e1;have J:i<h.length:=by
   rw[←R.len];rcases R0 i m.length with z|z
   exact z;rw[RT z]at hn;exact cU hn
  rw[Sw J]at e2;cases e2;exact r
 ·rw[Sg (SM c)]at e2;have D:b≠a:=by intro e;subst e;exact c (qa R.nd e1 hn)
  exact(R.cl i b q e1 e2).ext x (dB D)
def RH.set(R:RH K m H h)(hn:m[n]?=aa a)(q:H a=aa (.aB us))(r:RDs K m H vs xs):RH K m (upd H a (.aB vs)) (h.set n (.l xs)) :=
 R.setC hn ⟨_,q,rfl⟩ ⟨vs,d9,r.ext (gZ (RU hn) q)⟩
end
end BS
end
section
namespace BS
open PySem PySem.Spec PyProof.Rows L2 PySem.SeqAt
def mL{E:aA->RI->Prop}(f:Nat->β->Sem (ForInStep β))(n:Nat)(I:Nat->β->RI->Prop)(Q:β->RI->Prop)
(turn:∀i b s,i<n->I i b s->av M A (f i b) (λr s'=>match r with|.yield D=>I (i+1) D s'|.done D=>Q D s') E s)
(fin:∀b s,I n b s->Q b s)(b:β)(h:I 0 b s):av M A (forIn [:n] b f) Q E s:=by
 rw[Std.Legacy.Range.forIn_eq_forIn_range'];have e:Yg [:n].start [:n].size [:n].step=Yg 0 (n-0):=by simp[Std.Legacy.Range.size]
 rw[e];refine wpAny_forIn_list f (λrest b s=>∃i,i<=n/\rest=Yg i (n-i)/\I i b s) Q (λx rest b s ⟨i,hi,hr,q⟩=>?_) (λb s ⟨i,hi,hr,q⟩=>?_) _ b ⟨0,SV _,rfl,h⟩
 ·have B:i<n:=by
   rcases R0 i n with z|z
   exact z;rw[show n-i=0 by lia]at hr;simp at hr
  rw[show n-i=(n-(i+1))+1 by lia,List.range'_succ]at hr
  injection hr with e1 e2
  subst e1;refine Ue (turn x b s B q) (λr s' z=>?_) λ_ _ z=>z;cases r with
  |yield D=>exact⟨x+1,B,e2,z⟩|done D=>exact z
 ·have:i=n:=by
   rcases R0 i n with z|z
   rw[show n-i=(n-(i+1))+1 by lia,List.range'_succ]at hr;simp at hr;lia
  subst this;exact fin b s q
def pC(l:az)(items:Array aA)(n:Nat)(dd:Option az)(O:Array (Option aA))(x:aA)(e:aA->Bool)(j:Nat)(Z:j<items.size)
(L:e items[j]=ah)(J:∀m (Y:m<items.size),m<j->e items[m]=ai):
 Meets (Builtin.«tuple.index» ⟨[.ref l,x],[]⟩)
  (λA R s=>s.heap.get? l=aa {cls:=.type "tuple",dict:=dd,data:=.seq items n,slots:=O}/\(∀y,y∈items->EqAt A.in1 s y x (e y))/\R (.ok (.ret (.int j s.toks))) {s with toks:=s.toks+1}) :=
 .of_wp λB w A R s h=>by
 obtain⟨U,g,d,M,os⟩:=s;obtain⟨V,W,h⟩:=h
 wp_walk using UV V,mL _ _ (λi b D=>i<=j/\b.1=af/\D=⟨U,g,d,M,os⟩) _
 case turn =>
  rintro i b D hi ⟨hij,hb,rfl⟩
  have q:i<items.size:=by lia
  rw[Sq q];refine Rz (W _ (Array.getElem_mem q) B w _ _ ?_)
  by_cases c:i=j
  ·subst c;rw[L]
   wp_walk
   exact⟨_,rfl,h⟩
  ·rw[J i q (by lia)]
   wp_walk
   exact⟨by lia,rfl,rfl⟩
 case fin =>
  rintro b D ⟨hij,_,_⟩
  lia
 case h=>exact⟨SV _,rfl,rfl⟩
def uQ(l:az)(items:Array aA)(n:Nat)(dd:Option az)(U:Array (Option aA))(k:Int)(t:Tok)(h1:-1000<=k)(h2:k<=1000)(D:¬items.isEmpty=ah)(V:k≠1)(i:0<k)(hz:items.size*k.toNat<=aj):
 Meets (Builtin.«tuple.__mul__» ⟨[.ref l,.int k t],[]⟩)
  (λA R s=>s.heap.get? l=aa {cls:=.type "tuple",dict:=dd,data:=.seq items n,slots:=U}/\R (.ok (.ret (.ref s.heap.objs.size))) {s with heap:=s.heap.push {cls:=.type "tuple",data:=.seq ((Sd k.toNat items).foldl (λB q=>B++q) #[])} }) :=
 .of_wp λM w A R s h=>by
 obtain⟨e,g,d,b,os⟩:=s;obtain⟨L,h⟩:=h;have f:=X5;have Z:¬(decide (k < -2^63)||decide (k ≥ 2^63))=ah:=by simp;lia
 have o:¬(items.isEmpty||k==1)=ah:=by simp at D⊢;exact⟨D,V⟩
 have m:¬(decide (k<=0)||items.isEmpty)=ah:=by simp at D⊢;exact⟨by lia,D⟩
 have O:(k.toNat:Int)=k:=by lia
 have Y:¬((items.size:Int)*k>(2^63-1)/8):=by
  have z:((items.size*k.toNat:Nat):Int)<=(aj:Nat):=Int.ofNat_le.mpr hz;rw[Int.natCast_mul,O]at z;have a:((aj:Nat):Int)<=(2^63-1)/8:=by decide
  lia
 have j:¬VY ((items.size:Int)*k)=ah:=by have z:((items.size*k.toNat:Nat):Int)<=(aj:Nat):=Int.ofNat_le.mpr hz;rw[Int.natCast_mul,O]at z;simp only[VY,bM];lia
 have J:sizeOk (.seq ((Sd k.toNat items).foldl (λB q=>B++q) #[])):=by show((Sd k.toNat items).foldl (λB q=>B++q) #[]).size<=aj;rw[AutoListH.size_joined,Array.size_empty,UK];lia
 wp_walk using UV L
 rw[bK Z]
 wp_walk using UV L
 refine V1 (λc=>bL c ?_) (λ_=>?_);intro c;have W:=Y;simp at W c;lia
 wp_walk using UV L
 refine wpAny_ite_false (bN (Nat.not_lt.mpr J)) ?_
 wp_walk
 exact⟨_,rfl,h⟩
def lT:fillsNumberSlot (.type "tuple") "mul"=pure ai :=
 PySem.fillsNumberSlot_seq (id:="tuple.__mul__") (r:=aa (.builtin "tuple.__rmul__")) F.slot_tuple_mul.lookup (by decide +kernel) F.slot_tuple_rmul.lookup (by decide +kernel)
def qQ:seqRepeat? (.type "tuple")=pure (aa (.builtin "tuple.__mul__")):=by unfold seqRepeat?;rw[PySem.seqSlot_of (T:="tuple") (name:="__mul__") (id:="tuple.__mul__") F.slot_tuple_mul.lookup (by decide +kernel),PySem.seqSlot_of (T:="tuple") (name:="__rmul__") (id:="tuple.__rmul__") F.slot_tuple_rmul.lookup (by decide +kernel)];rfl
def nX(a:Int)(t:Tok)(l:az)(items:Array aA)(n:Nat)(dd:Option az)(B:Array (Option aA)):
 Meets (Builtin.«int.__rmul__» ⟨[.int a t,.ref l],[]⟩) (λ_ R s=>s.heap.get? l=aa {cls:=.type "tuple",dict:=dd,data:=.seq items n,slots:=B}/\R (.ok (.ret Value.notImplemented)) s) :=
 .of_wp λq w A R s h=>by obtain⟨J,g,d,D,os⟩:=s;obtain⟨L,h⟩:=h;wp_walk;exact⟨_,rfl,h⟩
def mO(l:az)(items:Array aA)(n:Nat)(b:az)(q:Array aA)(U:Nat)(dd:Option az)(O:Array (Option aA))(V:¬(!items.isEmpty&&Tz (items.size+q.size))=ah)(J:items.size<=aj)(D:items.size+q.size<=aj+1):
 Meets (Builtin.«list.extend» ⟨[.ref l,.ref b],[]⟩) (λ_ R s=>s.heap.get? l=aa {cls:=.type "list",dict:=af,data:=.seq items n,slots:=#[]}/\s.heap.get? b=aa {cls:=.type "tuple",dict:=dd,data:=.seq q U,slots:=O}/\R (.ok (.ret TL)) {s with heap:=s.heap.update l (Ti λx=>x++q),toks:=s.toks}) :=
 .of_wp λL w A R s h=>by
  obtain⟨Z,g,d,Y,os⟩:=s;obtain⟨M,W,h⟩:=h;have i:=X5;have f:=AutoSeq1.sub_tuple_tuple;have e:=AutoSeq1.sub_list_list;have c:=AutoSeq1.sub_tuple_list;have a:=AutoSeq1.sub_list_tuple;have B:(items++q).size<=aj+1:=by rw[Array.size_append];exact D
  wp_walk using (Uc M rfl (hz:=J) (_hz':=B)),UV M,UV W;exact⟨_,rfl,h⟩
end BS
end
section
namespace BS
open PySem PySem.Spec PyProof.Rows L2
inductive Bnd{α β:Type}(x:Option (α×aO))(k:α->aO->Option β)(r:β):Prop
 |mk(a:α)(g:aO)(h1:x=aa (a,g))(h2:k a g=aa r):Bnd x k r
inductive MF{α β:Type}(x:Option α)(f:α->β)(r:β):Prop
 |mk(a:α)(h1:x=aa a)(h2:f a=r):MF x f r
inductive Bind(o:bA)(x y:aN)(h:aO)(z:aN)(h':aO):Prop
 |mk(d d' q:aM)(h1:aW x h=aa d)(h2:aW y h=aa d')(D:BT.j9 o d d'=aa q)(J:z=.p q)(B:h'=h):Bind o x y h z h'
def cY{D B:Type}{x:Option (D×aO)}{k:D->aO->Option B}{r:B}(h:bB x k=aa r):Bnd x k r:=by
 cases x with
 |none=>exact cU h|some q=>exact⟨q.1,q.2,rfl,h⟩
def dh{B q:Type}{x:Option B}{f:B->q}{r:q}(h:x.map f=aa r):MF x f r:=by
 cases x with
 |none=>exact cU h|some a=>exact⟨a,rfl,RO h⟩
def Post(P:Sb)(w:SH)(K:RB)(m:List az)(H:Hp)(z:aN)(h':aO)(Q:VK):Prop :=
 ∀v q B,Ext m H B q->RH K B q h'->RW P w K B q v z->Q v q
inductive rOp(P:Sb)(w:SH)(K:RB)(f:aN->aN->aO->Option (aN×aO))(v u:V)(H:Hp)(Q:VK):Prop
 |mk(m:List az)(h:aO)(x y z:aN)(h':aO)(R:RH K m H h)(B:RW P w K m H v x)(q:RW P w K m H u y)(e:f x y h=aa (z,h'))(p:Post P w K m H z h' Q):rOp P w K f v u H Q
def k9{o:bA}{x y:aN}{h:aO}{z:aN}{h':aO}(e:BT.qL o x y h=aa (z,h')):Bind o x y h z h':=by
 unfold BT.qL at e;cases e1:aW x h with
 |none=>rw[e1]at e;exact cU e
 |some d =>
  cases e2:aW y h with
  |none=>rw[e1,e2]at e;exact cU e
  |some D =>
   rw[e1,e2]at e;obtain⟨q,eq,B⟩:=dh e;cases B;exact⟨d,D,q,e1,e2,eq,rfl,rfl⟩
section
variable{X:Cx}
def fW:BT.lim<=aj:=by decide
inductive MG(s:RI)(a:az)(xs:List V):Prop
 |mk(z:xs.length<=aj)(q:List aA)(n:Nat)(r:dg xs q)(l:xs.length=q.length)(e:s.heap.get? a=aa {cls:=.type "list",data:=.seq q.toArray n}):MG s a xs
def rdL(I:Inv X zt σ H s)(r:LL X.K H a xs):MG s a xs:=by
 rcases r with r|⟨q,n,h1,h2,h3⟩
 ·obtain⟨z,q,n,r,e⟩:=r.ok I.aJ;exact⟨z,q,n,r,r.length,e⟩
 exact⟨by rw[h3.length];exact h2,q,n,h3,h3.length,I.kIn a _ h1⟩
def AO(I:Inv X zt σ H s)(O:LL X.K H a xs)(M:LL X.K H b ys)(hz:xs.length+ys.length<=aj)
(q:∀p,H p=af->Q (.ref p) (upd H p (.aB (xs++ys)))):av (R6 X.prog X.w) X.A (T8 .Add (.ref a) (.ref b)) (EP X zt σ Q) X.xe s:=by
 obtain⟨z,D,n,r,Y,e⟩:=rdL I O;obtain⟨V,B,W,J,L,e2⟩:=rdL I M;refine PySem.P.add_list e e2 ?_ (by rw[RG,RG];lia);have U:D.toArray++B.toArray=(D++B).toArray:=by simp
 rw[U];exact⟨.ref _,_,I.Ls (t':=s.toks) (r.append J) (by rw[Sh];lia),rfl,q _ I.fresh⟩
def yh(I:Inv X zt σ H s)(Z:SqT X.K H a xs)(Y:SqT X.K H b ys)(hz:xs.length+ys.length<=aj)
(i:xs=[]->Q (.ref b) H)(h:ys=[]->Q (.ref a) H)(q:∀p,H p=af->Q (.ref p) (upd H p (.aC (xs++ys)))):av (R6 X.prog X.w) X.A (T8 .Add (.ref a) (.ref b)) (EP X zt σ Q) X.xe s:=by
 by_cases c:xs=[]
 ·obtain⟨D,g,k,_⟩:=I.tuple Z;obtain⟨B,o,j,_⟩:=I.tuple Y;obtain⟨⟨m,dd,d,f⟩,V,W,n,hd⟩:=id k;obtain⟨⟨e,U,data2,O⟩,J,M,l,L⟩:=id j;simp only at W hd M L;subst W hd M L;have z:D=[]:=g.kP.mpr c;exact concat_meets ⟨_,V,rfl⟩ ⟨_,J,rfl⟩ Xi Yk Vr Vo (Vj _ _)
   (tuple_addW0 a b D.toArray B.toArray n l dd U f O (by simp[z])) ⟨V,J,⟨.ref b,H,I,rfl,i c⟩⟩
 exact DG zt s σ H (.ref a) (.ref b) _ _ Q I rfl rfl ⟨a,b,xs,ys,rfl,rfl,Z,Y,c,hz,h,λ_=>q⟩
def lg(R:RH X.K m H h)(q:H p=af)(r:RDs X.K m H vs ds)(B:Post X.prog X.w X.K m H (.p (.aC ds)) h Q):Q (.ref p) (upd H p (.aC vs)) :=
 B _ _ m (jY q) (R.new q) (.p (.aC (.inl ⟨.inl d9,R.jF q⟩) (r.ext (jY q))))
def jd(R:RH X.K m H h)(q:H p=af)(r:RDs X.K m H vs ds)(B:Post X.prog X.w X.K m H (.p (.aB ds)) h Q):Q (.ref p) (upd H p (.aB vs)) :=
 B _ _ m (jY q) (R.new q) (.p (.aB (.inl ⟨.inl d9,R.jF q⟩) (r.ext (jY q))))
def qR(R:RH X.K m H h)(q:H p=af)(r:RDs X.K m H vs ds)(B:Post X.prog X.w X.K m H (.r h.length) (h++[.l ds]) Q):Q (.ref p) (upd H p (.aB vs)) :=
 B _ _ (m++[p]) (iX q) (R.PZ q r) (.r (by rw[←R.len];simp))
def mY(R:RH X.K m H h)(B:H p=af)(r:RDs X.K m H vs ds)(q:Post X.prog X.w X.K m H (BT.new mu ds h).1 (BT.new mu ds h).2 Q):Q (.ref p) (upd H p (.aB vs)):=by
 cases mu with
 |false=>exact jd R B r q|true=>exact qR R B r q
def Post.here(R:RH X.K m H h)(q:Post X.prog X.w X.K m H (.p d) h Q)(r:RD X.K m H v d):Q v H:=q v H m (.refl _ _) R (.p r)
def qS(B:PyData.strOk x=ah)(q:PyData.strOk y=ah):PyData.strOk (x++y)=ah:=by show(x.cps++y.cps).all _=ah;rw[Array.all_append];simp only[PyData.strOk]at B q;rw[B,q];rfl
def Iq:OpR X (T8 .Add) (rOp X.prog X.w X.K (BT.qL .add)):=by
 intro f s Z H v u E F Q I O U h;obtain⟨m,h,x,y,z,G,R,k,j,e,D⟩:=h;obtain⟨d,C,q,e1,e2,B,rfl,rfl⟩:=k9 e;have M:=dX R k e1;have L:=dX R j e2;cases d<;>cases C<;>first|exact cU B|simp only[BT.sJ,BT.nG,BT.nH,BT.gj,BT.nI,BT.sL,BT.nJ,BT.nK,BT.nL,BT.lP]at B
 ·cases B;cases M.int;cases L.int;exact G9 f s Z H _ _ _ _ Q I O U ⟨_,_,rfl,rfl,D.here R (.int _)⟩
 ·obtain⟨c,B⟩:=dw B;cases B;obtain⟨ev,l⟩:=M.str;obtain⟨A,n⟩:=L.str;subst ev;subst A;have:=fW;exact uz f s Z H _ _ _ _ Q I O U ⟨_,_,rfl,rfl,by lia,D.here R (.str _ (qS l n))⟩
 ·obtain⟨c,B⟩:=dw B;cases B;obtain⟨a,g,rfl,Y,ra⟩:=M.aC;obtain⟨b,i,rfl,W,J⟩:=L.aC;cases O;cases U;have t:=ra.length;have o:=J.length;have:=fW;refine yh I Y W (by lia) (λz=>?_) (λz=>?_) λp V=>lg R V (ra.append J) D
  ·subst z;cases ra;cases L with|d r=>exact D.here R r
  ·subst z;cases J;rw[Tt]at D;cases M with|d r=>exact D.here R r
 ·obtain⟨c,B⟩:=dw B;cases B;obtain⟨a,g,rfl,Y,ra⟩:=M.aB;obtain⟨b,i,rfl,W,J⟩:=L.aB;cases O;cases U;have t:=ra.length;have o:=J.length;have:=fW;exact AO I Y W (by lia) λp V=>jd R V (ra.append J) D
noncomputable def P0:bA->Bool
 |.add=>ai|.mul=>ai|_=>ah
def qT{o:bA}{d d' z:aM}(q:P0 o=ah)(e:BT.j9 o d d'=aa z):∃i j,d=.int i/\d'=.int j:=by cases o<;>first|exact aT q|(cases d<;>first|exact cU e|(cases d'<;>first|exact cU e|exact⟨_,_,rfl,rfl⟩))
def Ir:OpR X (T8 .Sub) (rOp X.prog X.w X.K (BT.qL .sub)):=by intro J s D H v u W Y Q I U V h;obtain⟨m,h,x,y,z,Z,R,O,M,e,L⟩:=h;obtain⟨d,a,q,e1,e2,B,rfl,rfl⟩:=k9 e;obtain⟨i,j,rfl,rfl⟩:=qT rfl B;rw[BT.nI]at B;cases B;cases (dX R O e1).int;cases (dX R M e2).int;exact Hf J s D H _ _ _ _ Q I U V ⟨_,_,rfl,rfl,L.here R (.int _)⟩
def Iu:OpR X (T8 .Mod) (rOp X.prog X.w X.K (BT.qL .mod)):=by intro J s D H v u W Y Q I U V h;obtain⟨m,h,x,y,z,Z,R,O,M,e,L⟩:=h;obtain⟨d,a,q,e1,e2,B,rfl,rfl⟩:=k9 e;obtain⟨i,j,rfl,rfl⟩:=qT rfl B;rw[BT.nL]at B;obtain⟨c,B⟩:=dw B;cases B;cases (dX R O e1).int;cases (dX R M e2).int;exact Hh J s D H _ _ _ _ Q I U V ⟨_,_,rfl,rfl,c,L.here R (.int _)⟩
def Ec:OpR X (T8 .FloorDiv) (rOp X.prog X.w X.K (BT.qL .fdiv)):=by intro J s D H v u W Y Q I U V h;obtain⟨m,h,x,y,z,Z,R,O,M,e,L⟩:=h;obtain⟨d,a,q,e1,e2,B,rfl,rfl⟩:=k9 e;obtain⟨i,j,rfl,rfl⟩:=qT rfl B;rw[BT.lP]at B;obtain⟨c,B⟩:=dw B;simp only[RK,bM]at c;cases B;cases (dX R O e1).int;cases (dX R M e2).int;exact Dr J s D H _ _ _ _ Q I U V ⟨_,_,rfl,rfl,⟨c.1,c.2⟩,L.here R (.int _)⟩
def qU(h:BT.big i=ah):-(2^64)<i/\i<2^64:=by unfold BT.big at h;have:=bP h;lia
def yi(I:Inv X zt σ H s)(g:SqT X.K H a xs)(h1:2<=k)(h2:k<=1000)(J:xs≠[])(hz:xs.length*k.toNat<=aj)
(q:∀p,H p=af->Q (.ref p) (upd H p (.aC (Sd k.toNat xs).flatten))):av (R6 X.prog X.w) X.A (T8 .Mult (.ref a) (.int k t)) (EP X zt σ Q) X.xe s:=by
 obtain⟨B,r,p,_⟩:=I.tuple g;obtain⟨⟨i,dd,O,L⟩,e,M,n,hd⟩:=id p;simp only at M hd;subst M hd;have c:=r.length;have D:B.toArray.size*k.toNat<=aj:=by rw[RG,←c];exact hz
 have h:Xm (λY W=>Y++W) #[] (Sd k.toNat B.toArray)=(Sd k.toNat B).flatten.toArray:=by have:=foldl_rep B k.toNat [];rw[UN]at this;exact this
 have d:¬B.toArray.isEmpty=ah:=by
  intro z;have V:B=[]:=by simpa using z
  exact J (r.kP.mp V)
 refine XW (T:="tuple") (U:="int") (by decide) ⟨_,e,rfl⟩ (λZ=>typeIs_int Z k t) lT F.fills_int_mul F.slot_int_rmul qQ F.slot_int_index.lookup
  (US F.slot_int_rmul (typeIs_int s k t) F.entry_int_rmul (F.args_int_rmul_2 _ _) (nX k t a B.toArray n dd L)
   ⟨e,rfl,⟨_,e,rfl⟩,US F.slot_tuple_mul ⟨_,e,rfl⟩ F.entry_tuple_mul (F.args_tuple_mul_2 _ _) (uQ a B.toArray n dd L k t (by lia) h2 d (by lia) (by lia) D) ⟨e,?_⟩⟩)
 rw[h];have f:H s.heap.objs.size=af:=I.aJ.fresh (RQ _);refine⟨.ref s.heap.objs.size,_,I.laid (t':=s.toks) (o:=.aC (Sd k.toNat xs).flatten) (λb ob q=>RC _ q) (RQ _) ?_,rfl,q _ f⟩;exact⟨by rw[len_rep,UK];exact hz,_,r.rep k.toNat,IsTup.new _ _⟩
def AQ(I:Inv X zt σ H s)(c:LL X.K H l xs)(h1:-(2^63)<=k)(h2:k<=1000)(hz:xs.length*k.toNat<=aj)
(q:∀p,H p=af->Q (.ref p) (upd H p (.aB (Sd k.toNat xs).flatten))):av (R6 X.prog X.w) X.A (T8 .Mult (.ref l) (.int k t)) (EP X zt σ Q) X.xe s:=by
 have Y:k<2^63:=by lia
 obtain⟨z,B,n,r,b,e⟩:=rdL I c;have L:B.toArray.size*k.toNat<=aj:=by rw[RG,←b];exact hz
 have O:¬B.toArray.size*k.toNat>(2^63-1)/8:=by
  have:(aj:Nat)<=(2^63-1)/8:=by decide
  lia
 have M:¬(!Builtin.List.listFitsIndex k)=ah:=by rw[fitsIndex_both h1 Y];exact Sn
 have D:¬Tz (B.toArray.size*k.toNat)=ah:=by rw[ny L];exact Sn
 have J:Xm (λW V=>W++V) #[] (Sd (if B.toArray.isEmpty=ah then 0 else k.toNat) B.toArray)=(Sd k.toNat B).flatten.toArray:=by
  have d:∀m:Nat,Xm (λW V=>W++V) #[] (Sd m B.toArray)=(Sd m B).flatten.toArray:=λm=>by have:=foldl_rep B m [];rw[UN]at this;exact this
  rw[d];cases B with
  |nil=>simp|cons a f=>rw[bK (by simp)]
 refine XW (T:="list") (U:="int") (by decide) ⟨_,e,rfl⟩ (λZ=>typeIs_int Z k t) noFill_list_mul F.fills_int_mul F.slot_int_rmul repeat_list F.slot_int_index.lookup
  (US F.slot_int_rmul (typeIs_int s k t) F.entry_int_rmul (F.args_int_rmul_2 _ _) (int___rmul___int_list k t l B.toArray n)
   ⟨e,rfl,⟨_,e,rfl⟩,US F.slot_list_mul ⟨_,e,rfl⟩ F.entry_list_mul (F.args_list_mul_2 _ _) (AutoListH.list___mul___list_int_3 l B.toArray n k t M O D) ⟨e,?_⟩⟩)
 rw[J];exact⟨.ref _,_,I.Ls (t':=s.toks) (r.rep k.toNat) (by rw[len_rep,UK];exact hz),rfl,q _ I.fresh⟩
def Iv:OpR X (T8 .Mult) (rOp X.prog X.w X.K (BT.qL .mul)):=by
 intro Z s Y H v u j k Q I J L h;obtain⟨m,h,x,y,z,l,R,g,f,e,D⟩:=h;obtain⟨d,i,q,e1,e2,B,rfl,rfl⟩:=k9 e;have O:=dX R g e1;have M:=dX R f e2;cases d<;>cases i<;>first|exact cU B|simp only[BT.sJ,BT.nG,BT.nH,BT.gj,BT.nI,BT.sL,BT.nJ,BT.nK,BT.nL,BT.lP]at B
 ·obtain⟨c,B⟩:=dw B;cases B;cases O.int;cases M.int;refine Hg Z s Y H _ _ _ _ Q I J L ⟨_,_,rfl,rfl,?_,D.here R (.int _)⟩;rcases Uq _ _ ▸ c with c|c
  exact .inl (qU c);exact .inr (qU c)
 ·obtain⟨c,B⟩:=dw B;simp only[RK,bM]at c;cases B;obtain⟨a,b,rfl,W,ra⟩:=O.aC;cases M.int;obtain⟨t,rfl⟩:=L;cases J;have U:=ra.length;have:=fW;simp only[Wl,List.isEmpty_eq_false_iff]at c;refine yi I W (by lia) (by lia) (λz=>?_) (by rw[U];lia) λp V=>lg R V (ra.rep _) D;subst z;cases ra;exact c.1.2 rfl
 ·obtain⟨c,B⟩:=dw B;simp only[RK,bM]at c;cases B;obtain⟨a,b,rfl,W,ra⟩:=O.aB;cases M.int;obtain⟨t,rfl⟩:=L;cases J;have U:=ra.length;have:=fW;refine AQ I W (by lia) (by lia) (by rw[U];lia) λp V=>jd R V (ra.rep _) D
end
mutual
noncomputable def pd:aM->PyData
 |.aD=>.none|.bl b=>.bool b|.int i=>.int i|.str x=>.str x|.aC q=>.tuple (pds q)|.aB q=>.list (pds q)
noncomputable def pds:List aM->List PyData
 |[]=>[]|x::r=>pd x::pds r
end
mutual
theorem nY:∀x y:aM,PyData.eqv (pd x) (pd y)=aQ x y
 |.aD,.aD=>rfl|.aD,.bl _=>rfl|.aD,.int _=>rfl|.aD,.str _=>rfl
 |.aD,.aC _=>by simp[pd,PyData.eqv,aQ]
 |.aD,.aB _=>by simp[pd,PyData.eqv,aQ]
 |.bl _,.aD=>rfl|.bl _,.bl _=>rfl|.bl _,.int _=>rfl|.bl _,.str _=>rfl
 |.bl _,.aC _=>by simp[pd,PyData.eqv,aQ]
 |.bl _,.aB _=>by simp[pd,PyData.eqv,aQ]
 |.int _,.aD=>rfl|.int _,.bl _=>rfl|.int _,.int _=>rfl|.int _,.str _=>rfl
 |.int _,.aC _=>by simp[pd,PyData.eqv,aQ]
 |.int _,.aB _=>by simp[pd,PyData.eqv,aQ]
 |.str _,.aD=>rfl|.str _,.bl _=>rfl|.str _,.int _=>rfl|.str _,.str _=>rfl
 |.str _,.aC _=>by simp[pd,PyData.eqv,aQ]
 |.str _,.aB _=>by simp[pd,PyData.eqv,aQ]
 |.aC _,.aD=>by simp[pd,PyData.eqv,aQ]
 |.aC _,.bl _=>by simp[pd,PyData.eqv,aQ]
 |.aC _,.int _=>by simp[pd,PyData.eqv,aQ]
 |.aC _,.str _=>by simp[pd,PyData.eqv,aQ]
 |.aC xs,.aC ys=>by simp only[pd,PyData.eqv,aQ];exact qV xs ys
 |.aC _,.aB _=>by simp[pd,PyData.eqv,aQ]
 |.aB _,.aD=>by simp[pd,PyData.eqv,aQ]
 |.aB _,.bl _=>by simp[pd,PyData.eqv,aQ]
 |.aB _,.int _=>by simp[pd,PyData.eqv,aQ]
 |.aB _,.str _=>by simp[pd,PyData.eqv,aQ]
 |.aB _,.aC _=>by simp[pd,PyData.eqv,aQ]
 |.aB xs,.aB ys=>by simp only[pd,PyData.eqv,aQ];exact qV xs ys
theorem qV:∀xs ys:List aM,PyData.eqvAll (pds xs) (pds ys)=BT.o9 xs ys
 |[],[]=>by simp[pds,PyData.eqvAll,BT.o9]
 |[],_::_=>by simp[pds,PyData.eqvAll,BT.o9]
 |_::_,[]=>by simp[pds,PyData.eqvAll,BT.o9]
 |x::xs,y::ys=>by simp only[pds,PyData.eqvAll,BT.o9];rw[nY x y,qV xs ys]
end
theorem jG:∀{xs:List aM},(∀x∈xs,(pd x).depth<=n)->PyData.depthAll (pds xs)<=n
 |[],_=>by simp[pds,PyData.depthAll]
 |x::xs,h=>by simp only[pds,PyData.depthAll];exact Nat.max_le.mpr ⟨h x RZ,jG λy q=>h y (RP _ q)⟩
theorem jZ:∀(n:Nat)(d:aM),BT.dok n d=ah->(pd d).depth<=n
 |n,.aD,_=>by simp[pd,PyData.depth]
 |n,.bl _,_=>by simp[pd,PyData.depth]
 |n,.int _,_=>by simp[pd,PyData.depth]
 |n,.str _,_=>by simp[pd,PyData.depth]
 |0,.aC _,h=>by simp[BT.dok]at h
 |0,.aB _,h=>by simp[BT.dok]at h
 |n+1,.aC xs,h=>by simp only[pd,PyData.depth];rw[BT.qH,Ug]at h;exact Nat.succ_le_succ (jG λx q=>jZ n x (h x q))
 |n+1,.aB xs,h=>by simp only[pd,PyData.depth];rw[BT.vS,Ug]at h;exact Nat.succ_le_succ (jG λx q=>jZ n x (h x q))
section
variable{K:RB}
mutual
theorem gT:∀{v:V}{d:aM},RD K m H v d->(pd d).canLay0=ah
 |_,_,.aD=>rfl|_,_,.bl _=>rfl|_,_,.int _=>rfl
 |_,_,.str _ h=>by simpa [pd,PyData.canLay0]using h
 |_,_,.aC _ r=>by simp only[pd,PyData.canLay0];exact jf r
 |_,_,.aB _ r=>by simp only[pd,PyData.canLay0];exact jf r
theorem jf:∀{vs:List V}{ds:List aM},RDs K m H vs ds->PyData.canLayAll0 (pds ds)=ah
 |_,_,.nil=>by simp[pds,PyData.canLayAll0]
 |_,_,.cons r t=>by simp only[pds,PyData.canLayAll0];rw[gT r,jf t];rfl
end
mutual
theorem jH(I:Inv X zt σ H s):∀{v:V}{d:aM}{u:aA},RD X.K m H v d->RelV v u->∃as,Reads s.heap u (pd d) as
 |_,_,_,.aD,r=>by cases r;exact⟨_,.none⟩
 |_,_,_,.bl b,r=>by cases r;exact⟨_,.bool b⟩
 |_,_,_,.int i,r=>by obtain⟨t,rfl⟩:=r;exact⟨_,.int i t⟩
 |_,_,_,.str x _,r=>by obtain⟨t,rfl⟩:=r;exact⟨_,.str x t⟩
 |_,_,_,.aC h r,q=>by cases q;obtain⟨B,D,⟨o,e1,e2,n,J⟩,_⟩:=I.tuple (h.elim (λq=>.inl q.1) (λ⟨o,B,n,q,_⟩=>.inr ⟨o,B,n,q⟩));obtain⟨as,ra⟩:=j0 I r D;exact⟨_,.tuple e1 e2 J (by simpa using ra)⟩
 |_,_,_,.aB h r,q=>by cases q;obtain⟨z,B,n,D,_,e⟩:=rdL I (h.elim (λq=>.inl q.1) .inr);obtain⟨as,ra⟩:=j0 I r D;exact⟨_,.list e rfl rfl (by simpa using ra)⟩
theorem j0(I:Inv X zt σ H s):∀{vs:List V}{ds:List aM}{us:List aA},RDs X.K m H vs ds->dg vs us->∃as,ReadsAll s.heap us (pds ds) as
 |_,_,_,.nil,q=>by cases q;exact⟨_,.nil⟩
 |_,_,_,.cons r t,q=>by
  cases q with
  |cons J D =>
   obtain⟨as,ra⟩:=jH I r J;obtain⟨bs,B⟩:=j0 I t D;exact⟨_,.cons ra B⟩
end
def jI(I:Inv X zt σ H s)(r:RR X.K m H v d)(q:RelV v u):∃as,Reads s.heap u (pd d) as:=by
 cases r with
 |d r=>exact jH I r q
 |l h r =>
  cases q;obtain⟨z,D,n,B,_,e⟩:=rdL I (.inl (.inl h));obtain⟨as,ra⟩:=j0 I r B;exact⟨_,.list e rfl rfl (by simpa using ra)⟩
def iY(r:RR K m H v d):(pd d).canLay0=ah:=by
 cases r with
 |d r=>exact gT r|l h r=>simp only[pd,PyData.canLay0];exact jf r
def qW(h:BT.d7 x y=ah):min (pd x).depth (pd y).depth<=100:=by
 unfold BT.d7 at h;rcases Uq _ _ ▸ h with h|h
 have:=jZ 100 x h;lia;have:=jZ 100 y h;lia
def jg(e:bC o x y h=aa (z,h')):
 (∃kvs b,y=.k kvs/\BT.inK o x kvs=aa b/\z=.p (.bl b)/\h'=h)\/∃d d' b,aW x h=aa d/\aW y h=aa d'/\BT.gi o d d'=aa b/\z=.p (.bl b)/\h'=h:=by
 unfold bC at e;split at e
 ·rename_i kvs;obtain⟨b,e1,e2⟩:=dh e;cases e2;exact .inl ⟨kvs,b,rfl,e1,rfl,rfl⟩
 ·refine .inr ?_;cases e1:aW x h with
  |none=>rw[e1]at e;exact cU e
  |some d =>
   cases e2:aW y h with
   |none=>rw[e1,e2]at e;exact cU e
   |some d' =>
    rw[e1,e2]at e;obtain⟨q,eq,B⟩:=dh e;cases B;exact⟨d,d',q,rfl,rfl,eq,rfl,rfl⟩
def MH(g:X.A.units+150<cLine):OpR X (Tf .Eq) (rOp X.prog X.w X.K (bC .eq)):=by
 intro Z s Y H v u a f Q I O U h;obtain⟨m,h,x,y,z,i,R,M,L,e,J⟩:=h;rcases jg e with⟨W,b,rfl,e1,_,_⟩|⟨d,d',b,e1,e2,q,rfl,rfl⟩
 exact bL e1 (BT.nO rfl)
 ·have D:=dX R M e1;have B:=dX R L e2;rw[BT.DU]at q;obtain⟨c,q⟩:=dw q;cases q;obtain⟨j,ra⟩:=jI I D O;obtain⟨bs,V⟩:=jI I B U;have:=qW c;refine SeqAt.compareEq_reads ra V (iY D) (iY B) (by lia) ?_;rw[nY];exact⟨.bl _,H,I,rfl,J.here R (.bl _)⟩
def MI(g:X.A.units+150<cLine):OpR X (Tf .NotEq) (rOp X.prog X.w X.K (bC .ne)):=by
 intro Z s Y H v u a f Q I O U h;obtain⟨m,h,x,y,z,i,R,M,L,e,J⟩:=h;rcases jg e with⟨W,b,rfl,e1,_,_⟩|⟨d,d',b,e1,e2,q,rfl,rfl⟩
 exact bL e1 (BT.nO rfl)
 ·have D:=dX R M e1;have B:=dX R L e2;rw[BT.kW]at q;obtain⟨c,q⟩:=dw q;cases q;obtain⟨j,ra⟩:=jI I D O;obtain⟨bs,V⟩:=jI I B U;have:=qW c;refine SeqAt.compareNe_reads ra V (iY D) (iY B) (by lia) ?_;rw[nY];exact⟨.bl _,H,I,rfl,J.here R (.bl _)⟩
noncomputable def MJ:BT.Cm->Bool
 |.lt=>ah|.le=>ah|.gt=>ah|.ge=>ah|_=>ai
def Ed{o:BT.Cm}{d d':aM}{b:Bool}(q:MJ o=ah)(e:BT.gi o d d'=aa b):∃i j,d=.int i/\d'=.int j:=by cases o<;>first|exact aT q|(cases d<;>first|exact cU e|(cases d'<;>first|exact cU e|exact⟨_,_,rfl,rfl⟩))
def qX{o:BT.Cm}{c:CmpOp}{f:Int->Int->Bool}(U:OpR X (Tf c) (rI0 λi j=>.bl (f i j)))(W:MJ o=ah)(Y:BT.memC o=ai)(Z:∀i j,BT.gi o (.int i) (.int j)=aa (f i j)):OpR X (Tf c) (rOp X.prog X.w X.K (bC o)):=by
 intro B s q H v u a g Q I M O h;obtain⟨m,h,x,y,z,k,R,L,J,e,D⟩:=h;rcases jg e with⟨V,b,rfl,e1,_,_⟩|⟨d,d',b,e1,e2,e3,rfl,rfl⟩
 exact bL e1 (BT.nO Y)
 ·obtain⟨i,j,rfl,rfl⟩:=Ed W e3;rw[Z]at e3;cases e3;cases (dX R L e1).int;cases (dX R J e2).int;exact U B s q H _ _ _ _ Q I M O ⟨_,_,rfl,rfl,D.here R (.bl _)⟩
def vZ(r:RR K m H v d):decide (v=.aD)=BT.jz d:=by
 cases r with
 |d r=>cases r<;>rfl|l h r=>rfl
def Ef{v:V}{d:aM}{u:aA}{b:Bool}(r:RR K m H v d)(q:RelV v u):isSame u (.bool b)=pure (BT.qI b d):=by
 cases r with
 |d r=>cases r<;>first|(cases q;cases b<;>first|rfl|(rename_i c;cases c<;>rfl))|(obtain⟨t,rfl⟩:=q;cases b<;>rfl)
 |l h r=>cases q;rfl
def Iw:OpR X (Tf .Is) (rOp X.prog X.w X.K (bC .isN)):=by
 intro B s q H v u Y Z Q I M O h;obtain⟨m,h,x,y,z,a,R,L,J,e,D⟩:=h;rcases jg e with⟨W,b,rfl,e1,_,_⟩|⟨d,d',b,e1,e2,e3,rfl,rfl⟩
 exact bL e1 (BT.nO rfl)
 ·have V:=dX R L e1;have U:=dX R J e2;cases d'<;>first|exact cU e3|simp only[BT.kX,BT.mU,BT.mV,BT.mW,BT.kY,BT.jW,BT.gk,BT.gY,BT.gD,BT.iB]at e3
  cases e3;cases U.aD;refine Hi B s q H _ _ _ _ Q I M O ⟨rfl,?_⟩;rw[vZ V];exact D.here R (.bl _)
def Eg:OpR X (Tf .IsNot) (rOp X.prog X.w X.K (bC .notN)):=by
 intro O s M H v u Y Z Q I B D h;obtain⟨m,h,x,y,z,a,R,V,U,e,q⟩:=h;rcases jg e with⟨W,b,rfl,e1,_,_⟩|⟨d,d',b,e1,e2,e3,rfl,rfl⟩
 exact bL e1 (BT.nO rfl)
 ·have L:=dX R V e1;have J:=dX R U e2;cases d'<;>first|exact cU e3|simp only[BT.kX,BT.mU,BT.mV,BT.mW,BT.kY,BT.jW,BT.yb,BT.gk,BT.gY,BT.gD,BT.iB]at e3
  ·cases e3;cases J.aD;refine Ds O s M H _ _ _ _ Q I B D ⟨rfl,?_⟩;rw[vZ L];exact q.here R (.bl _)
  ·cases e3;cases J.bl;cases D;exact Rz (wpAny_of_eq (Ef L B) (au ⟨.bl _,H,I,rfl,q.here R (.bl _)⟩))
open Classical in
def fu(h:aq)(dx:PyData)(y:aA):Bool:=if q:∃B D,Reads h y B D/\B.canLay0=ah then PyData.eqv (Classical.choose q) dx else ai
def uR(r:Reads h y B as)(c:B.canLay0=ah):fu h dx y=PyData.eqv B dx:=by have q:∃B as,Reads h y B as/\B.canLay0=ah:=⟨B,as,r,c⟩;unfold fu;rw[dif_pos q];obtain⟨J,D,L⟩:=Classical.choose_spec q;rw[SeqAt.Reads.unique _ _ _ _ _ c r D]
theorem lq(I:Inv X zt σ H s):∀{vs:List V}{ds:List aM}{us:List aA},RDs X.K m H vs ds->dg vs us->us.any (fu s.heap (pd d))=ds.any λy=>aQ y d
 |_,_,_,.nil,q=>by cases q;rfl
 |_,_,_,.cons r t,q=>by
  cases q with
  |cons D B =>
   obtain⟨J,ra⟩:=jH I r D;rw[List.any_cons,List.any_cons,lq I t B,uR ra (gT r),nY]
theorem jh(U:X.A.units+150<cLine)(I:Inv X zt σ H s)(D:RR X.K m H v d)(J:RelV v u):∀{vs:List V}{ds:List aM}{us:List aA},RDs X.K m H vs ds->dg vs us->(ds.all λy=>BT.d7 y d)=ah →
 ∀y∈us,SeqAt.EqAt X.A.in1 s y u (fu s.heap (pd d) y)
 |_,_,_,.nil,q,_=>by cases q;intro y B;simp at B
 |_,_,_,.cons r t,q,c=>by
  cases q with
  |cons O M =>
   rw[List.all_cons,RK]at c;intro y B;rcases List.mem_cons.mp B with rfl|B
   ·obtain⟨W,ra⟩:=jH I r O;obtain⟨bs,L⟩:=jI I D J;rw[uR ra (gT r)];have:=qW c.1;refine SeqAt.eqAt_reads _ _ _ _ _ _ _ _ ra L (gT r) (iY D) ?_;show X.A.units+1+_<_;lia
   exact jh U I D J t M c.2 y B
def Iz(l:X.A.units+150 < cLine)(p:∀ {kvs:BT.Kd}{x:aN}{b:Bool}{m:List az}{H:Hp}{v u:V}{L M:aA}{zt σ s Q},Inv X zt σ H s->RelV v L->RelV u M->RW X.prog X.w X.K m H v x->RW X.prog X.w X.K m H u (.k kvs)->BT.inK .mem x kvs=aa b->Q (V.bl b) H →
 av (R6 X.prog X.w) X.A (Tf .In L M) (EP X zt σ Q) X.xe s):OpR X (Tf .In) (rOp X.prog X.w X.K (bC .mem)):=by
 intro zt s σ H v u L M Q I O U h;obtain⟨m,h,x,y,z,r,R,g,f,e,J⟩:=h;rcases jg e with⟨kvs,b,rfl,e1,rfl,rfl⟩|⟨d,d',b,e1,e2,B,rfl,rfl⟩
 exact p I O U g f e1 (J.here R (.bl _))
 ·have j:=dX R g e1;have i:=dX R f e2;cases d'<;>first|exact cU B|simp only[BT.kX,BT.mU,BT.mV,BT.mW,BT.kY,BT.jW,BT.gk,BT.gY,BT.gD,BT.iB]at B
  ·obtain⟨c,B⟩:=dw B;cases B;obtain⟨a,o,rfl,Z,ra⟩:=i.aC;cases U;obtain⟨q,D,W,_⟩:=I.tuple Z;refine SeqAt.in_tupleAt (fu s.heap (pd d)) W (λy Y=>jh l I j O ra D c y (by simpa using Y)) ⟨.bl _,H,I,rfl,?_⟩;rw[show q.toArray.any (fu s.heap (pd d))=q.any (fu s.heap (pd d)) by simp,lq I ra D];exact J.here R (.bl _)
  ·obtain⟨c,B⟩:=dw B;cases B;obtain⟨a,o,rfl,Z,ra⟩:=i.aB;cases U;obtain⟨z,q,n,D,_,W⟩:=rdL I Z;refine SeqAt.in_listAt (fu s.heap (pd d)) ⟨_,W,rfl,_,rfl⟩ (λy Y=>jh l I j O ra D c y (by simpa using Y)) ⟨.bl _,H,I,rfl,?_⟩;rw[show q.toArray.any (fu s.heap (pd d))=q.any (fu s.heap (pd d)) by simp,lq I ra D];exact J.here R (.bl _)
def Eh(l:X.A.units+150 < cLine)(p:∀ {kvs:BT.Kd}{x:aN}{b:Bool}{m:List az}{H:Hp}{v u:V}{L M:aA}{zt σ s Q},Inv X zt σ H s->RelV v L->RelV u M->RW X.prog X.w X.K m H v x->RW X.prog X.w X.K m H u (.k kvs)->BT.inK .nmem x kvs=aa b->Q (V.bl b) H →
 av (R6 X.prog X.w) X.A (Tf .NotIn L M) (EP X zt σ Q) X.xe s):OpR X (Tf .NotIn) (rOp X.prog X.w X.K (bC .nmem)):=by
 intro zt s σ H v u L M Q I O U h;obtain⟨m,h,x,y,z,r,R,g,f,e,J⟩:=h;rcases jg e with⟨kvs,b,rfl,e1,rfl,rfl⟩|⟨d,d',b,e1,e2,B,rfl,rfl⟩
 exact p I O U g f e1 (J.here R (.bl _))
 ·have j:=dX R g e1;have i:=dX R f e2;cases d'<;>first|exact cU B|simp only[BT.kX,BT.mU,BT.mV,BT.mW,BT.kY,BT.jW,BT.gk,BT.gY,BT.gD,BT.iB]at B
  ·obtain⟨c,B⟩:=dw B;cases B;obtain⟨a,o,rfl,Z,ra⟩:=i.aC;cases U;obtain⟨q,D,W,_⟩:=I.tuple Z;refine SeqAt.notIn_tupleAt (fu s.heap (pd d)) W (λy Y=>jh l I j O ra D c y (by simpa using Y)) ⟨.bl _,H,I,rfl,?_⟩;rw[show q.toArray.any (fu s.heap (pd d))=q.any (fu s.heap (pd d)) by simp,lq I ra D];exact J.here R (.bl _)
  ·obtain⟨c,B⟩:=dw B;cases B;obtain⟨a,o,rfl,Z,ra⟩:=i.aB;cases U;obtain⟨z,q,n,D,_,W⟩:=rdL I Z;refine SeqAt.notIn_listAt (fu s.heap (pd d)) ⟨_,W,rfl,_,rfl⟩ (λy Y=>jh l I j O ra D c y (by simpa using Y)) ⟨.bl _,H,I,rfl,?_⟩;rw[show q.toArray.any (fu s.heap (pd d))=q.any (fu s.heap (pd d)) by simp,lq I ra D];exact J.here R (.bl _)
end
section
variable{P:Sb}{w:SH}{K:RB}{m m':List az}{H H':Hp}
def yj(e:p.1=k):bD (p::r) k=aa p.2:=by simp[bD,Uo,e]
def yk(e:¬p.1=k):bD (p::r) k=bD r k:=by simp[bD,Uo,e]
def RKs.get(r:RKs K m H vs kvs)(k:Key):(bD kvs k=af/\sy vs k=af)\/∃v d,bD kvs k=aa d/\sy vs k=aa v/\RD K m H v d:=by
 induction r with
 |nil=>exact .inl ⟨rfl,rfl⟩
 |@cons j v d vs kvs B r t q =>
  by_cases c:j=k
  exact .inr ⟨v,d,yj c,sA c,r⟩;rw[yk (p:=(j,d)) c,sC (p:=(j,v)) c];exact q
def AR(r:RD K m H v d)(e:BT.pA d=aa k):v=kV k:=by cases r<;>cases e<;>rfl
inductive AS(X:Cx)(m:List az)(H:Hp)(s:RI)(a:az)(kvs:List (BT.Ky×aM))(k:Key):Prop
 |no(vs:List (Key×aA))(d:s.heap.DictOf (dF X.prog X.w) a vs)(n:(a==U4)=ai)(e1:bD kvs k=af)(e2:valueAt vs k=af):AS X m H s a kvs k
 |is(vs:List (Key×aA))(d:s.heap.DictOf (dF X.prog X.w) a vs)(n:(a==U4)=ai)(x:aM)(v:V)(u:aA)(e1:bD kvs k=aa x)(e2:valueAt vs k=aa u)(r:RelV v u)(q:RD X.K m H v x):AS X m H s a kvs k
def uS(I:Inv X zt σ H s)(h:Rd H a (.dK ws))(M:RKs X.K m H ws kvs)(k:Key):AS X m H s a kvs k:=by
 obtain⟨z,hd,B,D,dd⟩:=Lx I.aJ h;have q:=D.val k;rcases M.get k with⟨L,J⟩|⟨v,d,L,J,g3⟩
 ·rw[J]at q;cases e:valueAt B k with
  |none=>exact .no B dd hd L e|some u=>rw[e]at q;exact q.elim
 ·rw[J]at q;cases e:valueAt B k with
  |none=>rw[e]at q;exact q.elim|some u=>rw[e]at q;exact .is B dd hd d v u L e q g3
end
section
variable{prog:Sb}{w:SH}{A:TJ}{E:aA->RI->Prop}{s:RI}
def yl{Q:Int->RI->Prop}(h:Q 4238894112 {s with toks:=s.toks+1}):av (R6 prog w) A (pyHash .none) Q E s:=by show av _ _ (pyHashByItsType .none) _ _ _;refine PySem.W.pyHash_slot (T:="NoneType") (typeIs_none s) PySem.F.slot_NoneType_hash PySem.F.entry_NoneType_hash (PySem.F.args_NoneType_hash_1 _) (by decide) (.inl rfl) ?_;show av _ _ (slotArgs "__hash__" 0 ⟨[TL],[]⟩ >>= λ_=>retInt 4238894112) _ _ _;rw[slotArgs.eq_1];refine Rz (au ?_);unfold retInt;refine Rz (wpAny_mkInt ?_);exact au ⟨_,_,rfl,h⟩
end
def AU:Option Key->aA->Bool
 |none,.none=>ah|none,_=>ai|some k,v=>ju k v
def ji{v:aA}(h:AU af v=ah):v=.none:=by cases v<;>first|rfl|(exfalso;exact Sn h)
def AV(a b:Key):decide (aa a=aa b)=decide (a=b):=by simp
def optKind(prog:Sb)(w:SH):PySem.KeyKind prog w (Option Key) where
 is:=AU
 hash:=λk=>match k with|none=>4238894112|some k=>KR w k
 inj:=λv a b B q=>by
  cases a with
  |none =>
   cases ji B;cases b with
   |none=>rfl
   |some b=>rcases dD (show ju b .none=ah from q)with⟨i,t,rfl,e⟩|⟨x,t,rfl,e⟩<;>exact nomatch e
  |some a =>
   cases b with
   |none =>
    cases ji q;rcases dD (show ju a .none=ah from B)with⟨i,t,rfl,e⟩|⟨x,t,rfl,e⟩<;>exact nomatch e
   |some b=>rw[(dF prog w).inj v a b B q]
 byValue:=λk v h=>by
  cases k with
  |none=>cases ji h;rfl|some k=>exact(dF prog w).byValue k v h
 pyHash:=λ{A E s k v Q} hv h=>by
  cases k with
  |none=>cases ji hv;exact yl h|some k=>exact(dF prog w).pyHash (k:=k) hv h
 eqBool:=λ{A E s a b u v Q} hu hv h=>by
  cases a with
  |none =>
   cases ji hu;cases b with
   |none=>cases ji hv;exact SeqAt.EqAt.same _ _ _ _ _ (by simpa using h)
   |some b =>
    have h:Q ai s:=by simpa using h
    rcases dD (show ju b v=ah from hv)with⟨i,t,rfl,rfl⟩|⟨x,t,rfl,rfl⟩
    exact SeqAt.EqAt.none_int i t _ _ _ _ h;exact SeqAt.EqAt.none_str x t _ _ _ _ h
  |some a =>
   cases b with
   |none =>
    cases ji hv;have h:Q ai s:=by simpa using h
    rcases dD (show ju a u=ah from hu)with⟨i,t,rfl,rfl⟩|⟨x,t,rfl,rfl⟩
    exact SeqAt.EqAt.int_none i t _ _ _ _ h;exact SeqAt.EqAt.str_none x t _ _ _ _ h
   |some b=>rw[AV]at h;exact(dF prog w).eqBool (a:=a) (b:=b) hu hv h
 «strs»:=λk x t v h=>by
  cases k with
  |none=>exact nomatch ji h
  |some k=>exact(dF prog w).strs k x t v h
def map_none{prog:Sb}{w:SH}{h:aq}{a:az}{vs:List (Key×aA)}(dd:h.DictOf (dF prog w) a vs):∃f,h.MapOf (optKind prog w) a f/\f af=af:=by
 obtain⟨o,D,V,O,M,hd,L,_⟩:=dd;refine⟨λk=>findBy AU D k,⟨o,D,V,O,M,hd,λe J=>?_,λk=>rfl⟩,?_⟩
 ·obtain⟨k,B,U⟩:=L e J;exact⟨aa k,B,U⟩
 ·show(Array.find? (λe=>AU af e.key) D).map (·.val)=af;have:Array.find? (λe=>AU af e.key) D=af:=by rw[Array.find?_eq_none];intro e J q;obtain⟨k,B,_⟩:=L e J;rw[ji q]at B;rcases dD (show ju k .none=ah from B)with⟨i,t,rfl,e⟩|⟨x,t,rfl,e⟩<;>exact nomatch e
  rw[this];rfl
section
def RDs.atI{K:RB}(r:RDs K m H vs ds)(e:BT.atP ds i=aa d):∃v,L2.atI vs i=aa v/\RD K m H v d:=by unfold BT.atP at e;unfold L2.atI;obtain⟨j,J,D⟩:=Option.bind_eq_some_iff.mp e;obtain⟨v,B,q⟩:=r.get D;refine⟨v,?_,q⟩;rw[r.length];show((BT.place ds.length i).bind λj=>vs[j]?)=aa v;rw[J];exact B
def Ei{x y:aN}{h:aO}{z:aN}{h':aO}(e:BT.DY x y h=aa (z,h')):
 (∃kvs k d,x=.k (.t kvs)/\y=.p (.str k)/\bF k kvs=aa d/\z=.p d/\h'=h)\/(∃kvs e k d,x=.k (.l kvs)/\y=.p e/\BT.pA e=aa k/\bD kvs k=aa d/\z=.p d/\h'=h)\/∃d d' b,aW x h=aa d/\aW y h=aa d'/\BT.dM d d'=aa b/\z=.p b/\h'=h:=by
 unfold BT.DY at e;split at e
 ·rename_i kvs;obtain⟨b,e1,e2⟩:=dh e;cases e2;cases kvs with
  |t kvs =>
   cases y with
   |p d =>
    cases d with
    |str x=>exact .inl ⟨kvs,_,b,rfl,rfl,e1,rfl,rfl⟩|_=>exact cU e1
   |_=>exact cU e1
  |l kvs =>
   cases y with
   |p d =>
    obtain⟨k,D,B⟩:=Option.bind_eq_some_iff.mp (show(BT.pA d).bind (bD kvs)=aa b from e1);exact .inr (.inl ⟨kvs,d,k,b,rfl,rfl,D,B,rfl,rfl⟩)
   |_=>exact cU e1
 ·refine .inr (.inr ?_);cases e1:aW x h with
  |none=>rw[e1]at e;exact cU e
  |some d =>
   cases e2:aW y h with
   |none=>rw[e1,e2]at e;exact cU e
   |some d' =>
    rw[e1,e2]at e;obtain⟨q,eq,J⟩:=dh e;cases J;exact⟨d,d',q,rfl,rfl,eq,rfl,rfl⟩
theorem AW{K:RB}:∀{es:List (ay×V)}{kvs:List (ay×aM)}{vs:List (Key×aA)},RDk K es kvs->KV (es.map λq=>((Sum.inr q.1:Key),q.2)) vs->bF k kvs=aa d →
 ∃u v,valueAt vs (Sum.inr k)=aa u/\RelV v u/\∀m H,RD K m H v d
 |_,_,_,.nil,_,e=>by simp[bF]at e
 |_,_,_,@RDk.cons _ x v dd es kvs r t,q,e=>by
  cases q with
  |@cons p z f b U O =>
   obtain⟨a,L⟩:=z;obtain⟨D,B⟩:=U;simp only at D B;subst D;rw[bF]at e
   by_cases c:k=x
   ·rw[bJ c]at e;cases e;subst c;exact⟨L,v,by simp[valueAt],B,r⟩
   ·rw[bK c]at e;obtain⟨u,M,J,Z,Y⟩:=AW t O e;refine⟨u,M,?_,Z,Y⟩;have W:¬((Sum.inr x:Key)=Sum.inr k):=λz=>c (Sum.inr.inj z).symm;simp only[valueAt]at J⊢;rw[VE (by simpa using W)];exact J
def ym(h:PyData.strOk x=ah)(B:c∈x.cps.toList):PyData.strOk ⟨#[c]⟩=ah:=by simp only[PyData.strOk,Array.all_eq_true_iff_forall_mem]at h⊢;intro y q;simp at q;subst q;exact h y (by simpa using B)
def IA:IxR X (rOp X.prog X.w X.K BT.DY):=by
 intro q B Y s W H v u v' P Q I O U h V;obtain⟨m,h,x,y,z,h',R,Z,J,e,L⟩:=h;rcases Ei e with⟨r,k,d,rfl,rfl,e1,rfl,rfl⟩|⟨r,e',k,d,rfl,rfl,e0,e1,rfl,rfl⟩|⟨d,d',b,e1,e2,e3,rfl,rfl⟩
 ·cases Z with
  |@k a es _ T f =>
   cases O;cases J with
   |p J =>
    cases J with
    |str _ ok =>
     obtain⟨t,rfl⟩:=U;obtain⟨hm,M,S,dd⟩:=T;obtain⟨w',z,F,C,h3⟩:=AW f S e1;have D:=dd s.heap I.kIn;refine Yi (ops:=[.ref a,.str k t]) D.typeIs slot_dict_getitem.lookup ?_ V;exact wpAny_getItem_of (knd:=dF X.prog X.w) (iA _ _ k t) D.mapOf F ⟨z,H,I.tok _,C,L.here R (h3 _ _)⟩
 ·cases Z with
  |@kl a ob ws _ hh f =>
   cases O;cases J with
   |p J =>
    have ek:=AR J e0;subst ek;cases uS I (.inr ⟨_,hh.1⟩) f k with
    |no _ _ _ E _=>rw[E]at e1;exact cU e1
    |is M dd n x N u1 E g2 g3 g4 =>
     rw[E]at e1;cases e1;refine Yi (ops:=[.ref a,P]) dd.typeIs slot_dict_getitem.lookup ?_ V;exact wpAny_getItem_of (knd:=dF X.prog X.w) (zV U) dd.mapOf g2 ⟨N,H,I.tok _,g3,L.here R g4⟩
 ·have i:=dX R Z e1;have g:=dX R J e2;cases d<;>cases d'<;>first|exact cU e3|simp only[BT.gX,BT.dU,BT.jB]at e3
  ·split at e3
   ·rename_i c;obtain⟨cc,G,e5⟩:=dh e3;subst e5;obtain⟨rfl,ok⟩:=i.str;cases g.int;have:=fW;refine Hv q B Y s W H _ _ _ _ Q I O U ⟨_,_,cc,rfl,rfl,by lia,G,L.here R (.str _ (ym ok ?_))⟩ V;obtain⟨j,F,C⟩:=Option.bind_eq_some_iff.mp G;exact RU C
   exact cU e3
  ·obtain⟨a,M,rfl,A,ra⟩:=i.aC;cases g.int;obtain⟨z,o,l⟩:=ra.atI e3;exact Hu q B Y s W H _ _ _ _ Q I O U ⟨a,M,_,z,rfl,rfl,A,o,L.here R l⟩ V
  ·obtain⟨a,M,rfl,A,ra⟩:=i.aB;cases g.int;obtain⟨z,o,l⟩:=ra.atI e3;exact vP q B Y s W H _ _ _ _ Q I O U ⟨a,M,_,z,rfl,rfl,A.sq,o,L.here R l⟩ V
def lu(n d:Nat)(o:Option Int):BT.clip n d o=HT.sIx n d o:=by
 cases o with
 |none=>rfl
 |some v =>
  simp only[BT.clip,HT.sIx];split;rfl
  ·split;lia;lia
def pF{E:aA->RI->Prop}{lo:Option Int}(q:IsTup s.heap t items)(M:s.heap.IsSliceOf sl vl vu .none)(pl:Xh vl lo)(O:Xh vu hi)
(hw:HT.sIx items.size 0 lo=0/\HT.sIx items.size items.size hi=items.size)(h:Q (.ref t) s):av (R6 prog w) A (WY (.ref t) (.ref sl)) Q E s:=by
 obtain⟨os,B,J,U⟩:=id M;have L:s.TypeIs (.ref sl) "slice":=⟨os,B,J⟩;unfold WY
 try with_reducible refine SQ ?_
 first|refine Rz (au ?_)|skip
 refine Rz (wpAny_sequenceKey q.typeIs (by decide) ?_);refine Rz (SG (name:=RV "__getitem__") q.typeIs TX
  (Tg TX q.typeIs entry_tuple_getitem ?_ (args_tuple_getitem _ _)))
 show av _ _ (VZ (.ref t) >>= _) _ _ s;refine Rz (tupleItemsOf_ q ?_);refine Rz (UR L ?_);rw[bJ (by decide)];refine Rz (HT.iV M pl O ?_);have D:(((HT.sIx items.size 0 lo:Nat):Int)==0&&(1:Int)==1&&(HT.sIx items.size items.size hi-HT.sIx items.size 0 lo)==items.size)=ah:=by rw[hw.1,hw.2];simp
 show av _ _ (if(((HT.sIx items.size 0 lo:Nat):Int)==0&&(1:Int)==1&&(HT.sIx items.size items.size hi-HT.sIx items.size 0 lo)==items.size)=ah then _ else _) _ _ s;rw[bJ D];unfold Builtin.Tuple.tupleIsExact;refine Rz (Rz (UR q.typeIs (au ?_)));rw[bJ (by decide)];refine Rz (Vk ?_)
 first
  |exact au ⟨_,rfl,au h⟩
  |exact au ⟨_,rfl,h⟩
  |exact Rz (au (au ⟨_,rfl,au h⟩))
inductive rSl(P:Sb)(w:SH)(K:RB)(v:V)(lo hi:Option Int)(H:Hp)(Q:VK):Prop
 |mk(m:List az)(h:aO)(x:aN)(d b:aM)(R:RH K m H h)(q:RW P w K m H v x)(e:aW x h=aa d)(e2:BT.qF d lo hi=aa b)(p:Post P w K m H (.p b) h Q):rSl P w K v lo hi H Q
def RDs.cut{K:RB}(r:RDs K m H vs ds)(lo hi:Option Int):RDs K m H (sj vs lo hi) (BT.cut ds lo hi):=by unfold sj BT.cut;rw[lu,lu,r.length];exact(r.drop _).take _
def yo{lo:Option Int}(h1:HT.sIx ds.length 0 lo=0)(h2:HT.sIx ds.length ds.length hi=ds.length):BT.cut ds lo hi=ds:=by unfold BT.cut;rw[lu,lu,h1,h2];simp
def osl:SlR X (rSl X.prog X.w X.K):=by
 intro Z s Y H v o f e lo B g Q I i V O M h;obtain⟨m,h,x,d,b,R,k,e1,e2,J⟩:=h;have L:=dX R k e1;cases d<;>simp only[BT.qF]at e2<;>try contradiction
 ·cases e2;obtain⟨a,q,rfl,D,ra⟩:=L.aC;cases i
  by_cases c:HT.sIx q.length 0 lo=0/\HT.sIx q.length q.length B=q.length
  ·obtain⟨U,l,j,_⟩:=I.tuple D;have n:U.toArray.size=q.length:=by rw[RG];exact l.length.symm
   refine⟨"tuple",_,PyProof.Rows.slot_tuple_getitem.lookup,j.typeIs,pF j V O M (by rw[n];exact c) ⟨.ref a,H,I,rfl,?_⟩⟩;cases L with
   |d r =>
    refine J.here R ?_;rw[yo (by rw[←ra.length];exact c.1) (by rw[←ra.length];exact c.2)];exact r
  exact Hs Z s Y H (.ref a) (.ref a) f e lo B g Q I rfl V O M ⟨a,q,rfl,D,c,λp W=>lg R W (ra.cut lo B) J⟩
 ·cases e2;obtain⟨a,q,rfl,D,ra⟩:=L.aB;exact DH Z s Y H _ _ f e lo B g Q I i V O M ⟨a,q,rfl,D.sq,λp W=>jd R W (ra.cut lo B) J⟩
end
def sX(m:BT.Me)(d:aM)(as:List aN)(h:aO):aP m (.p d) as h=(match aZ as with|some ds=>(BT.meD m d ds).map λx=>(.p x,h)|none=>af):=by cases m<;>rfl
section
inductive rMe(P:Sb)(w:SH)(K:RB)(me:BT.Me)(v:V)(vs:List V)(H:Hp)(Q:VK):Prop
 |mk(m:List az)(h:aO)(x:aN)(ws:List aN)(z:aN)(h':aO)(R:RH K m H h)(B:RW P w K m H v x)(q:RWs P w K m H vs ws)(e:aP me x ws h=aa (z,h'))(p:Post P w K m H z h' Q):rMe P w K me v vs H Q
def getD_some{q:Type}{xs:List q}{n:Nat}{a:q}(h:xs[n]?=aa a):n<xs.length:=by
 rcases R0 n xs.length with z|z
 exact z;rw[RT z]at h;exact cU h
def yp:MtR X "list.append" (rMe X.prog X.w X.K .append):=by
 intro O s M H v f i j Q I Z J h;obtain⟨m,h,x,W,z,l,R,Y,D,e,U⟩:=h;cases x with
 |p d=>cases W with
  |nil=>exact cU e|cons _ _=>rw[sX]at e;split at e<;>(try exact cU e)
 |r n =>
  cases D with
  |nil=>(first|exact cU e|simp[aP]at e)
  |@cons y b _ _ q t =>
   cases t with
   |cons _ _=>cases q<;>(first|exact cU e|simp[aP]at e)
   |nil =>
    cases q with
    |p q =>
     rw[BT.ku]at e;cases g:bg h n with
     |none=>rw[g]at e;exact cU e
     |some V =>
      rw[g]at e;simp only at e;obtain⟨c,e⟩:=dw e;cases e;cases Y with
      |@r a _ hn =>
       obtain⟨B,L,r⟩:=R.cell n a V hn g;have:=fW;have k:=r.length;exact pV O s M H _ _ _ _ Q I Z J ⟨a,B,y,rfl,rfl,L,by lia,U _ _ m (gZ (RU hn) L) (R.set hn L (r.append (.cons q .nil))) (.p .aD)⟩
    |_=>(first|exact cU e|simp[aP]at e)
 |_=>(first|exact cU e|simp[aP]at e)
def AX{q:Type}{xs:List q}{d:q}(h:xs.getLast?=aa d):xs[xs.length-1]?=aa d:=by rw[←List.getLast?_eq_getElem?];exact h
def IB:MtR X "list.pop" (rMe X.prog X.w X.K .pop):=by
 intro V s U H v j k l Q I c D h;obtain⟨m,h,x,Y,z,o,R,b,B,e,W⟩:=h;cases x with
 |p d=>cases Y with
  |nil=>exact cU e|cons _ _=>rw[sX]at e;split at e<;>(try exact cU e)
 |r n =>
  cases B with
  |cons _ _=>(first|exact cU e|simp[aP]at e)
  |nil =>
   rw[BT.DT]at e;cases g:bg h n with
   |none=>rw[g]at e;exact cU e
   |some M =>
    rw[g]at e;simp only at e;cases L:M.getLast? with
    |none=>rw[L]at e;exact cU e
    |some d =>
     rw[L]at e;cases e;cases b with
     |@r a _ hn =>
      obtain⟨q,J,r⟩:=R.cell n a M hn g;have i:=r.length;obtain⟨y,f,Z⟩:=r.get (AX L);have O:Ext m H m (upd H a (.aB q.dropLast)):=gZ (RU hn) J;exact Hy V s U H _ _ _ _ Q I c D ⟨a,q,y,rfl,rfl,J,by rw[i];exact f,W _ _ m O (R.set hn J r.dropLast) (.p (Z.ext O))⟩
 |_=>(first|exact cU e|simp[aP]at e)
def AY(I:Inv X zt σ H s)(M:H l=aa (.aB xs))(W:LL X.K H b zs)(hz:xs.length+zs.length<=aj)(q:Q .aD (upd H l (.aB (xs++zs)))):
 av (R6 X.prog X.w) X.A (call (.builtin "list.extend") [.ref l,.ref b]) (EP X zt σ Q) X.xe s:=by
 obtain⟨z,D,n,r,Z,e⟩:=I.DJ M;obtain⟨Y,B,U,O,V,e2⟩:=rdL I W;have L:D.toArray.size+B.toArray.size<=aj:=by rw[RG,RG];lia
 have J:¬(!D.toArray.isEmpty&&Tz (D.toArray.size+B.toArray.size))=ah:=by rw[ny L,Bool.and_false];exact Sn
 refine US F.slot_list_extend ⟨_,e,rfl⟩ F.entry_list_extend (F.args_list_extend_2 _ _)
  (AutoSeq1.list_extend_list_list_0 l D.toArray n b B.toArray U J (by rw[RG];lia) (by lia)) ⟨e,e2,?_⟩
 refine⟨.aD,_,I.DI (its':=D++B) M e (by simp) (r.append O) ?_,rfl,q⟩;rw[Sh];lia
def Ej(I:Inv X zt σ H s)(U:H l=aa (.aB xs))(c:SqT X.K H b zs)(hz:xs.length+zs.length<=aj)(q:Q .aD (upd H l (.aB (xs++zs)))):
 av (R6 X.prog X.w) X.A (call (.builtin "list.extend") [.ref l,.ref b]) (EP X zt σ Q) X.xe s:=by
 obtain⟨z,D,n,r,f,e⟩:=I.DJ U;obtain⟨B,M,Y,_⟩:=I.tuple c;obtain⟨⟨d,dd,V,W⟩,e2,O,Z,hd⟩:=id Y;simp only at O hd;subst O hd;have a:=M.length;have L:D.toArray.size+B.toArray.size<=aj:=by rw[RG,RG];lia
 have J:¬(!D.toArray.isEmpty&&Tz (D.toArray.size+B.toArray.size))=ah:=by rw[ny L,Bool.and_false];exact Sn
 refine US F.slot_list_extend ⟨_,e,rfl⟩ F.entry_list_extend (F.args_list_extend_2 _ _)
  (mO l D.toArray n b B.toArray Z dd W J (by rw[RG];lia) (by lia)) ⟨e,e2,?_⟩
 refine⟨.aD,_,I.DI (its':=D++B) U e (by simp) (r.append M) ?_,rfl,q⟩;rw[Sh];lia
def yq:MtR X "list.extend" (rMe X.prog X.w X.K .extend):=by
 intro C s A H v F G N Q I o J h;obtain⟨m,h,x,f,z,S,R,l,D,e,U⟩:=h;cases x with
 |p d=>cases f with
  |nil=>exact cU e|cons _ _=>rw[sX]at e;split at e<;>(try exact cU e)
 |r n =>
  cases D with
  |nil=>(first|exact cU e|simp[aP]at e)
  |@cons y Z _ _ k t =>
   cases t with
   |cons _ _=>(first|exact cU e|simp[aP]at e)
   |nil =>
    rw[BT.uJ]at e;cases g:bg h n with
    |none=>rw[g]at e;exact cU e
    |some Y =>
     cases O:(aW Z h).bind BT.qJ with
     |none=>rw[g,O]at e;exact cU e
     |some E =>
      rw[g,O]at e;simp only at e;obtain⟨c,e⟩:=dw e;cases e;obtain⟨d,e1,e2⟩:=Option.bind_eq_some_iff.mp O;have W:=dX R k e1;cases l with
      |@r a _ hn =>
       obtain⟨j,q,r⟩:=R.cell n a Y hn g;cases o;obtain⟨u,rfl,V⟩:=J.one;have:=fW;have P:=r.length;cases d<;>simp only[BT.qJ]at e2<;>try contradiction
       ·cases e2;obtain⟨b,i,rfl,M,B⟩:=W.aC;cases V;have L:=B.length;exact Ej I q M (by lia) (U _ _ m (gZ (RU hn) q) (R.set hn q (r.append B)) (.p .aD))
       ·cases e2;obtain⟨b,i,rfl,M,B⟩:=W.aB;cases V;have L:=B.length;exact AY I q M (by lia) (U _ _ m (gZ (RU hn) q) (R.set hn q (r.append B)) (.p .aD))
 |_=>(first|exact cU e|simp[aP]at e)
def RWs.pure{K:RB}:∀{vs:List V}{ws:List aN}{ds:List aM},RWs P w K m H vs ws->aZ ws=aa ds->RDs K m H vs ds:=by
 intro vs ws
 induction ws generalizing vs with
 |nil =>
  intro ds r e;cases r;cases e;exact .nil
 |cons x ws B =>
  intro ds r e;cases r with
  |cons r t =>
   cases r with
   |p r =>
    simp only[aZ]at e;obtain⟨q,e1,e2⟩:=dh e;subst e2;exact .cons r (B t e1)
   |_=>exact cU e
theorem nZ:∀{ds:List aM}{k j:Nat},BT.jA x ds k=aa j->∃i,j=k+i/\∃(hi:i<ds.length),aQ ds[i] x=ah/\∀m (q:m<ds.length),m<i->aQ ds[m] x=ai
 |[],_,_,e=>by exact cU e
 |y::r,k,j,e=>by
  simp only[BT.jA]at e;split at e
  ·rename_i c;cases e;exact⟨0,rfl,by simp,c,λm _ h=>by lia⟩
  ·rename_i c;obtain⟨i,rfl,hi,J,D⟩:=nZ e;refine⟨i+1,by lia,by simp;lia,by simpa using J,λm q B=>?_⟩;cases m with
   |zero=>simpa using c|succ m=>simpa using D m (by simpa using q) (by lia)
theorem mZ(I:Inv X zt σ H s):∀{vs:List V}{ds:List aM}{us:List aA},RDs X.K m H vs ds->dg vs us->∀(i:Nat)(h1:i<us.length)(h2:i<ds.length),fu s.heap (pd d) us[i]=aQ ds[i] d
 |_,_,_,.nil,q=>by cases q;intro i h1;simp at h1
 |_,_,_,.cons r t,q=>by
  cases q with
  |cons D B =>
   intro i h1 h2;cases i with
   |zero =>
    obtain⟨J,ra⟩:=jH I r D;simp only[List.getElem_cons_zero];rw[uR ra (gT r),nY]
   |succ i=>simpa using mZ I t B i (by simpa using h1) (by simpa using h2)
def yr(P:X.A.units+150<cLine):MtR X "tuple.index" (rMe X.prog X.w X.K .tindex):=by
 intro zt s σ H v vs v' us Q I o M h;obtain⟨m,h,x,V,z,h',R,J,L,e,f⟩:=h;cases x with
 |r n=>cases V with
  |_=>(first|exact cU e|simp[aP]at e)
 |p d =>
  rw[BT.nE]at e;cases g:aZ V with
  |none=>rw[g]at e;exact cU e
  |some ds =>
   rw[g]at e;obtain⟨b,e1,e2⟩:=dh e;cases e2;have rds:=L.pure g;cases d<;>first|exact cU e1|skip
   rename_i xs;cases ds with
   |nil=>exact cU e1
   |cons d0 dr =>
    cases dr with
    |cons _ _=>exact cU e1
    |nil =>
     rw[BT.Al]at e1;split at e1
     ·rename_i c;obtain⟨j,e3,e4⟩:=dh e1;subst e4;obtain⟨i,rfl,hi,h1,h2⟩:=nZ e3;cases rds with
      |cons E C =>
       cases C;obtain⟨u,rfl,t⟩:=M.one;cases J with
       |p J =>
        obtain⟨a,vt,rfl,ha,ra⟩:=RR.aC (.d J);cases o;obtain⟨q,D,G,_⟩:=I.tuple ha;obtain⟨⟨cls,dd,Z,l⟩,W,Y,n,hd⟩:=id G;simp only at Y hd;subst Y hd;have hl:=D.length;have S:=ra.length;have U:i<q.toArray.size:=by rw[RG];lia
        refine US F.slot_tuple_index ⟨_,W,rfl⟩ F.entry_tuple_index (F.args_tuple_index_2 _ _)
         (pC a q.toArray n dd l u (fu s.heap (pd d0)) i U ?_ ?_) ⟨W,?_,?_⟩
        rw[show q.toArray[i]=q[i]'(by lia) by simp,mZ I ra D i (by lia) hi];exact h1
        ·intro k T O;have B:k<q.length:=by simpa using T
         rw[show q.toArray[k]=q[k]'B by simp,mZ I ra D k B (by lia)];exact h2 k (by lia) O
        ·intro y N;exact jh P I (.d E) t ra D c y (by simpa using N)
        ·refine⟨.int (((0+i:Nat):Nat):Int),H,I.tok _,⟨s.toks,?_⟩,f.here R (.int _)⟩;simp
     exact cU e1
 |_=>(first|exact cU e|simp[aP]at e)
def yt:MtR X "str.index" (rMe X.prog X.w X.K .sindex):=by
 intro f s c H v i k l Q I V D h;obtain⟨m,h,x,L,z,o,R,q,B,e,O⟩:=h;cases x with
 |r n=>cases L with
  |_=>(first|exact cU e|simp[aP]at e)
 |p d =>
  rw[BT.nF]at e;cases g:aZ L with
  |none=>rw[g]at e;exact cU e
  |some Z =>
   rw[g]at e;obtain⟨b,e1,e2⟩:=dh e;cases e2;have rds:=B.pure g;cases d<;>first|exact cU e1|skip
   cases Z with
   |nil=>exact cU e1
   |cons M a =>
    cases a with
    |cons _ _=>cases M<;>exact cU e1
    |nil =>
     cases M<;>first|exact cU e1|skip
     rename_i x y;rw[BT.Am]at e1;cases J:UA x y 0 x.length 1 with
     |nil=>rw[J]at e1;exact cU e1
     |cons j rest =>
      rw[J]at e1;cases e1;cases rds with
      |cons Y W =>
       cases W;cases Y;obtain⟨u,rfl,U,rfl⟩:=D.one;cases q with
       |p q =>
        cases q;obtain⟨t,rfl⟩:=V;exact call_gives F.slot_str_index (typeIs_str s x t) F.entry_str_index (F.args_str_index_2 _ _) (gives_str_index x y t U j rest J) ⟨.int j,H,I.tok _,⟨_,rfl⟩,O.here R (.int _)⟩
 |_=>(first|exact cU e|simp[aP]at e)
end
section
inductive rBi(P:Sb)(w:SH)(K:RB)(b:BT.Bi)(mu:Bool)(vs:List V)(H:Hp)(Q:VK):Prop
 |mk(m:List az)(h:aO)(ws:List aN)(z:aN)(h':aO)(R:RH K m H h)(q:RWs P w K m H vs ws)(e:BT.kBi b mu ws h=aa (z,h'))(p:Post P w K m H z h' Q):rBi P w K b mu vs H Q
inductive RRs(K:RB)(m:List az)(H:Hp):List V->List aM->Prop
 |nil:RRs K m H [] []
 |cons{v:V}{d:aM}{vs:List V}{ds:List aM}(r:RR K m H v d)(t:RRs K m H vs ds):RRs K m H (v::vs) (d::ds)
theorem fX{K:RB}(R:RH K m H h):∀{vs:List V}{ws:List aN}{ds:List aM},RWs P w K m H vs ws->aR ws h=aa ds->RRs K m H vs ds
 |_,_,_,.nil,e=>by cases e;exact .nil
 |_,_,_,.cons r t,e=>by simp only[aR]at e;obtain⟨d,e1,e2⟩:=Option.bind_eq_some_iff.mp e;obtain⟨q,D,B⟩:=dh e2;subst B;exact .cons (dX R r e1) (fX R t D)
inductive BiI(b:BT.Bi)(mu:Bool)(ws:List aN)(h:aO)(z:aN)(h':aO):Prop
 |mk(ds:List aM)(d:aM)(h1:aR ws h=aa ds)(h2:BT.biD b ds=aa d)(q:(mu=ai/\z=.p d/\h'=h)\/∃xs,mu=ah/\d=.aB xs/\z=.r h.length/\h'=h++[.l xs]):BiI b mu ws h z h'
def gI(e:BT.kBi b mu ws h=aa (z,h')):BiI b mu ws h z h':=by
 unfold BT.kBi at e;cases e1:aR ws h with
 |none=>rw[e1]at e;exact cU e
 |some q =>
  rw[e1]at e;simp only at e;cases e2:BT.biD b q with
  |none=>rw[e2]at e;exact cU e
  |some d =>
   rw[e2]at e;simp only at e;cases mu with
   |false=>cases e;exact⟨q,d,e1,e2,.inl ⟨rfl,rfl,rfl⟩⟩
   |true =>
    simp only[if_true]at e;cases d<;>simp only at e<;>try contradiction
    cases e;exact⟨q,_,e1,e2,.inr ⟨_,rfl,rfl,rfl,rfl⟩⟩
def RRs.one{K:RB}{m:List az}{H:Hp}{vs:List V}{d:aM}(r:RRs K m H vs [d]):∃v,vs=[v]/\RR K m H v d:=by
 cases r with
 |cons r t=>cases t;exact⟨_,rfl,r⟩
def IC:eV X (.builtin "len") (rBi X.prog X.w X.K .len ai):=by
 intro J s D H b O Q I B h;obtain⟨m,h,Z,z,f,R,U,e,L⟩:=h;obtain⟨Y,d,e1,e2,⟨_,rfl,rfl⟩|⟨_,q,_⟩⟩:=gI e
 ·have V:=fX R U e1
  match Y,e2 with
  |[.aC xs],e2 =>
   cases e2;obtain⟨v,rfl,r⟩:=V.one;obtain⟨a,M,rfl,W,ra⟩:=r.aC;exact ja J s D H _ O Q I B ⟨a,M,rfl,.inr W,by rw[ra.length];exact L.here R (.int _)⟩
  |[.aB xs],e2 =>
   cases e2;obtain⟨v,rfl,r⟩:=V.one;obtain⟨a,M,rfl,W,ra⟩:=r.aB;exact ja J s D H _ O Q I B ⟨a,M,rfl,.inl W.sq,by rw[ra.length];exact L.here R (.int _)⟩
  |[.str x],e2 =>
   rw[BT.yc]at e2;split at e2
   ·rename_i c;cases e2;obtain⟨v,rfl,r⟩:=V.one;obtain⟨rfl,_⟩:=r.str;have:=fW;exact qC J s D H _ O Q I B ⟨x,rfl,by lia,L.here R (.int _)⟩
   exact cU e2
 exact aT q
def ID:eV X (.type "int") (rBi X.prog X.w X.K .int ai):=by
 intro L s J H Y O Q I B h;obtain⟨m,h,W,z,Z,R,D,e,M⟩:=h;obtain⟨V,d,e1,e2,⟨_,rfl,rfl⟩|⟨_,q,_⟩⟩:=gI e
 ·have U:=fX R D e1
  match V,e2 with
  |[.int i],e2 =>
   cases e2;obtain⟨v,rfl,r⟩:=U.one;cases r.int;exact pQ L s J H _ O Q I B (.inl ⟨i,rfl,M.here R (.int _)⟩)
  |[.bl i],e2 =>
   cases e2;obtain⟨v,rfl,r⟩:=U.one;cases r.bl;exact pQ L s J H _ O Q I B (.inr ⟨i,rfl,M.here R (.int _)⟩)
 exact aT q
def v7:eV X (.type "list") (rBi X.prog X.w X.K .list mu):=by
 intro U s O H i Y Q I J h;obtain⟨m,h,g,z,j,R,L,e,W⟩:=h;obtain⟨f,d,e1,e2,c⟩:=gI e;have Z:=fX R L e1;have fin:∀{p:az}{q:List V}{D:List aM},d=.aB D->H p=af->RDs X.K m H q D->Q (.ref p) (upd H p (.aB q)):=by
  intro p q D b B r;rcases c with⟨_,rfl,rfl⟩|⟨ys,_,e3,rfl,rfl⟩
  subst b;exact jd R B r W;rw[b]at e3;cases e3;exact qR R B r W
 match f,e2 with
 |[.aC D],e2 =>
  cases e2;obtain⟨v,rfl,r⟩:=Z.one;obtain⟨a,q,rfl,M,ra⟩:=r.aC;exact kQ U s O H _ Y Q I J ⟨a,q,rfl,.inr M,λp B=>fin rfl B ra⟩
 |[.aB D],e2 =>
  cases e2;obtain⟨v,rfl,r⟩:=Z.one;obtain⟨a,q,rfl,M,ra⟩:=r.aB;exact kQ U s O H _ Y Q I J ⟨a,q,rfl,.inl M.sq,λp B=>fin rfl B ra⟩
theorem gq:∀{xs:List aM}{ns:List Int},BT.intsOf xs=aa ns->xs=ns.map aM.int
 |[],ns,h=>by cases h;rfl
 |.int i::r,ns,h=>by simp only[BT.intsOf]at h;obtain⟨q,e1,e2⟩:=dh h;subst e2;rw[gq e1];rfl
 |.aD::_,_,h=>by exact cU h
 |.bl _::_,_,h=>by exact cU h
 |.str _::_,_,h=>by exact cU h
 |.aC _::_,_,h=>by exact cU h
 |.aB _::_,_,h=>by exact cU h
theorem fY{K:RB}:∀{ns:List Int}{vs:List V},RDs K m H vs (ns.map aM.int)->vs=ns.map V.int
 |[],vs,r=>by cases r;rfl
 |n::ns,vs,r=>by
  cases r with
  |cons r t=>cases r;rw[fY t];rfl
theorem ly{K:RB}:∀(ns:List Int),RDs K m H (ns.map V.int) (ns.map aM.int)
 |[]=>.nil|n::ns=>.cons (.int n) (ly ns)
def yu(i:X.calm=ah):eV X (.builtin "max") (λxs H Q=>∃(a:az) (ns:List Int),xs=[.ref a]/\SqL X.K H a (ns.map V.int)/\0<ns.length/\∀M,M∈ns->(∀z∈ns,z<=M)->Q (.int M) H):=by
 intro m s l H xs n Q I r h;obtain⟨a,ns,rfl,d,O,q⟩:=h;obtain⟨u,rfl,e⟩:=vals1 r;cases e;obtain⟨b,Z,p,J⟩:=I.list d;have W:=intsAre_of Z;obtain⟨D,e⟩:=W.allInts.items;have B:ns=D.toList.map (·.1):=by rw[←W.numsOf,←Ym,←e]
 have L:0<D.size:=by have Y:=O;rw[B,RX,So]at Y;exact Y
 have U:=p.isList;rw[e]at U;refine max_intList (I.ok.hd i) U L λv x o c f=>?_;obtain⟨t,rfl⟩:=intItems_at c;obtain⟨w,k⟩:=argBest_gt (numAt D) (D.size-1);refine⟨.int _,H,I.aH f,⟨t,rfl⟩,q _ ?_ λz J=>?_⟩;rw[B,numAt_eq];exact getD_mem (by rw[RX,So];lia)
 ·rw[B]at J;obtain⟨j,g,rfl⟩:=mem_getD J;rw[RX,So]at g;rw[←numAt_eq];exact k j (by lia)
def yv(i:X.calm=ah):eV X (.builtin "min") (λxs H Q=>∃(a:az) (ns:List Int),xs=[.ref a]/\SqL X.K H a (ns.map V.int)/\0<ns.length/\∀M,M∈ns->(∀z∈ns,M<=z)->Q (.int M) H):=by
 intro m s l H xs n Q I r h;obtain⟨a,ns,rfl,d,O,q⟩:=h;obtain⟨u,rfl,e⟩:=vals1 r;cases e;obtain⟨b,Z,p,J⟩:=I.list d;have W:=intsAre_of Z;obtain⟨D,e⟩:=W.allInts.items;have B:ns=D.toList.map (·.1):=by rw[←W.numsOf,←Ym,←e]
 have L:0<D.size:=by have Y:=O;rw[B,RX,So]at Y;exact Y
 have U:=p.isList;rw[e]at U;refine min_intList (I.ok.hd i) U L λv x o c f=>?_;obtain⟨t,rfl⟩:=intItems_at c;obtain⟨w,k⟩:=argBest_lt (numAt D) (D.size-1);refine⟨.int _,H,I.aH f,⟨t,rfl⟩,q _ ?_ λz J=>?_⟩;rw[B,numAt_eq];exact getD_mem (by rw[RX,So];lia)
 ·rw[B]at J;obtain⟨j,g,rfl⟩:=mem_getD J;rw[RX,So]at g;rw[←numAt_eq];exact k j (by lia)
def AZ(Z:X.calm=ah):eV X (.builtin "sum") (λxs H Q=>∃(a:az) (ns:List Int),xs=[.ref a]/\SqL X.K H a (ns.map V.int)/\Q (.int ns.sum) H):=by
 intro c s b H xs d Q I r h;obtain⟨a,ns,rfl,W,q⟩:=h;obtain⟨u,rfl,e⟩:=vals1 r;cases e;obtain⟨U,O,p,g⟩:=I.list W;have L:=intsAre_of O;obtain⟨B,e⟩:=L.allInts.items;have D:ns=B.toList.map (·.1):=by rw[←L.numsOf,←Ym,←e]
 have J:=p.isList;rw[e]at J;refine sum_intListG (I.ok.hd Z) J λi f M Y=>?_;have e2:preSum (numAt B) B.size=ns.sum:=by rw[preSum_eq,XJ (by simp),D]
 rw[e2];exact⟨.int _,H,I.aH Y,⟨M,rfl⟩,q⟩
def IE(Z:X.calm=ah):eV X (.builtin "sum") (rBi X.prog X.w X.K .sum ai):=by
 intro L s J H i O Q I D h;obtain⟨m,h,f,z,j,R,B,e,M⟩:=h;obtain⟨c,d,e1,e2,⟨_,rfl,rfl⟩|⟨_,q,_⟩⟩:=gI e
 ·have U:=fX R B e1
  match c,e2 with
  |[.aB xs],e2 =>
   rw[BT.DV]at e2;obtain⟨Y,W,V⟩:=dh e2;subst V;obtain⟨v,rfl,r⟩:=U.one;obtain⟨a,g,rfl,b,ra⟩:=r.aB;rw[gq W]at ra;have ev:=fY ra;subst ev;exact AZ Z L s J H _ O Q I D ⟨a,Y,rfl,b.sq,M.here R (.int _)⟩
 exact aT q
def sY:eV X (.builtin "sorted") (λxs H Q=>∃(a:az) (ns:List Int),xs=[.ref a]/\SqL X.K H a (ns.map V.int)/\ns.length<64/\∀(l:az)(B:List Int),H l=af->B.Perm ns->B.Pairwise (·<=·)->Q (.ref l) (upd H l (.aB (B.map V.int)))):=by intro g s f H xs i Q I r h;obtain⟨a,ns,rfl,U,Z,q⟩:=h;obtain⟨u,rfl,e⟩:=vals1 r;cases e;obtain⟨J,L,p,m⟩:=I.list U;have W:=intsAre_of L;have len:=L.length;rw[RX]at len;refine sorted_ints p.isList W (by lia) λD B d M c=>?_;obtain⟨e,Y⟩:=sortedAll_at s.heap J D;have O:=jV d;have k:=M.length_eq;refine⟨.ref _,_,I.laid (t':=s.toks) (λb u q=>sortedAll_old q) (TF _) ?_,rfl,q _ B (I.aJ.fresh (TF _)) M c⟩;have j:aj=16777216:=Wo;exact⟨by rw[RX];lia,D.toList,e,O,Y⟩
def Ek(k:X.calm=ah):eV X (.builtin "max") (rBi X.prog X.w X.K .max1 ai):=by
 intro U s O H u W Q I D h;obtain⟨m,h,p,z,x,R,B,e,V⟩:=h;obtain⟨n,d,e1,e2,⟨_,rfl,rfl⟩|⟨_,q,_⟩⟩:=gI e
 ·have b:=fX R B e1
  match n,e2 with
  |[.aB xs],e2 =>
   rw[BT.Aq]at e2;obtain⟨L,g,f⟩:=Option.bind_eq_some_iff.mp e2;obtain⟨M,J,c⟩:=dh f;subst c;obtain⟨v,rfl,r⟩:=b.one;obtain⟨a,t,rfl,l,ra⟩:=r.aB;rw[gq g]at ra;have ev:=fY ra;subst ev;obtain⟨Z,Y⟩:=BT.ye J;refine yu k U s O H _ W Q I D ⟨a,L,rfl,l.sq,by cases L with|nil=>cases J|cons _ _=>exact Nat.succ_pos _,λo j i=>?_⟩;have:o=M:=Int.le_antisymm (Y _ j) (i _ Z);subst this;exact V.here R (.int _)
 exact aT q
def El(k:X.calm=ah):eV X (.builtin "min") (rBi X.prog X.w X.K .min1 ai):=by
 intro U s O H u W Q I D h;obtain⟨m,h,p,z,x,R,B,e,V⟩:=h;obtain⟨n,d,e1,e2,⟨_,rfl,rfl⟩|⟨_,q,_⟩⟩:=gI e
 ·have b:=fX R B e1
  match n,e2 with
  |[.aB xs],e2 =>
   rw[BT.Ao]at e2;obtain⟨L,g,f⟩:=Option.bind_eq_some_iff.mp e2;obtain⟨M,J,c⟩:=dh f;subst c;obtain⟨v,rfl,r⟩:=b.one;obtain⟨a,t,rfl,l,ra⟩:=r.aB;rw[gq g]at ra;have ev:=fY ra;subst ev;obtain⟨Z,Y⟩:=BT.yd J;refine yv k U s O H _ W Q I D ⟨a,L,rfl,l.sq,by cases L with|nil=>cases J|cons _ _=>exact Nat.succ_pos _,λo j i=>?_⟩;have:o=M:=Int.le_antisymm (i _ Z) (Y _ j);subst this;exact V.here R (.int _)
 exact aT q
def qb:eV X (.builtin "sorted") (rBi X.prog X.w X.K .sorted mu):=by
 intro b s Z H y f Q I O h;obtain⟨m,h,x,z,A,R,M,e,W⟩:=h;obtain⟨u,d,e1,e2,n⟩:=gI e;have g:=fX R M e1;have fin:∀{p:az}{D:List V}{B:List aM},d=.aB B->H p=af->RDs X.K m H D B->Q (.ref p) (upd H p (.aB D)):=by
  intro p D B L Y r;rcases n with⟨_,rfl,rfl⟩|⟨ys,_,e3,rfl,rfl⟩
  subst L;exact jd R Y r W;rw[L]at e3;cases e3;exact qR R Y r W
 match u,e2 with
 |[.aB B],e2 =>
  rw[BT.uK]at e2;obtain⟨q,i,J⟩:=Option.bind_eq_some_iff.mp e2
  by_cases c:q.length<64
  ·rw[bJ c]at J;have L:=(RO J).symm;obtain⟨v,rfl,r⟩:=g.one;obtain⟨a,D,rfl,t,ra⟩:=r.aB;rw[gq i]at ra;have ev:=fY ra;subst ev;refine sY b s Z H _ f Q I O ⟨a,q,rfl,t.sq,c,λl U o k j=>?_⟩;have:U=bG q:=X9 (k.trans (bE q).symm) j (BT.nM q);subst this;exact fin L o (ly _)
  rw[bK c]at J;exact cU J
def A7:eV X (.type "tuple") (rBi X.prog X.w X.K .tuple ai):=by
 intro O s M H c V Q I B h;obtain⟨m,h,b,z,f,R,J,e,U⟩:=h;obtain⟨Z,d,e1,e2,⟨_,rfl,rfl⟩|⟨_,q,_⟩⟩:=gI e
 ·have W:=fX R J e1
  match Z,e2 with
  |[.aC xs],e2 =>
   cases e2;obtain⟨v,rfl,r⟩:=W.one;obtain⟨a,D,rfl,L,ra⟩:=r.aC;refine kh O s M H _ V Q I B ⟨a,D,rfl,.inr ⟨L,?_⟩⟩;cases r with
   |d r=>exact U.here R r
  |[.aB xs],e2 =>
   cases e2;obtain⟨v,rfl,r⟩:=W.one;obtain⟨a,D,rfl,L,ra⟩:=r.aB;exact kh O s M H _ V Q I B ⟨a,D,rfl,.inl ⟨L.sq,λp Y=>lg R Y ra U⟩⟩
 exact aT q
noncomputable def tyD:aM->String
 |.aD=>"NoneType"|.bl _=>"bool"|.int _=>"int"|.str _=>"str"|.aC _=>"tuple"|.aB _=>"list"
def Em{E:aA->RI->Prop}
(I:Inv X zt σ H s)(r:RR X.K m H v d)(q:RelV v u)(e:TZ X.K (.type (tyD d)) (.type c)=aa b)(h:∀tk,Q (.bool b) {s with toks:=tk}):
 av (R6 X.prog X.w) A (call (.builtin "isinstance") [u,.type c]) Q E s:=by
 cases d with
 |aD=>cases r.aD;cases q;exact UI PySem.W.kitx_none I.kIn UG e (λz=>nomatch z) h|bl y=>cases r.bl;cases q;exact UI PySem.W.kitx_bool I.kIn UG e (λz=>nomatch z) h|int i=>cases r.int;obtain⟨t,rfl⟩:=q;exact UI PySem.W.kitx_int I.kIn UG e (λz=>nomatch z) h|str y=>obtain⟨rfl,_⟩:=r.str;obtain⟨t,rfl⟩:=q;exact UI PySem.W.kitx_str I.kIn UG e (λz=>nomatch z) h
 |aC L =>
  obtain⟨a,M,rfl,D,_⟩:=r.aC;cases q;obtain⟨B,_,⟨o,J,O,_⟩,_⟩:=I.tuple D;exact UI PySem.W.kitx_tuple I.kIn ⟨o,J,O⟩ e (λz=>nomatch z) h
 |aB L =>
  obtain⟨a,M,rfl,D,_⟩:=r.aB;cases q;obtain⟨_,B,n,_,_,J⟩:=rdL I D;exact UI PySem.W.kitx_list I.kIn ⟨_,J,rfl⟩ e (λz=>nomatch z) h
def A8(K:RB)(t:String):TZ K (.type t) (.type t)=aa ah:=by unfold TZ;rw[bJ (by simp)]
def A9(h:sP b=aa (c,f))(d:aM):BT.biD b [d]=aa (.bl (f d)):=by
 cases b<;>simp only[sP]at h<;>try contradiction
 all_goals (cases h;rfl)
def Ba(h:sP b=aa (c,f))(K:RB)(d:aM):TZ K (.type (tyD d)) (.type c)=aa (f d):=by
 cases b<;>simp only[sP]at h<;>try contradiction
 all_goals (cases h;cases d)
 all_goals first
  |exact A8 K _
  |(simp only[tyD];unfold TZ;rw[bK (by decide)];unfold PySem.W.kitCls;first|rfl|kernel_rfl|decide +kernel)
end
end BS
end
section
namespace BX
open PySem PySem.Spec PyProof.Rows
section
variable{prog:Sb}{w:SH}{A:TJ}{R:XF->RI->Prop}{I:az}{fp wr:List az}{n:Nat}{P:Nat->aA->Prop}{St:Nat->aq->Prop}{kw:List (ay×aA)}
end
end BX
end
section
namespace BS
open PySem PySem.Spec PyProof.Rows L2
variable{K:RB}
noncomputable abbrev FT:=BT.FK->List aN->aO->Option (aN×aO)
inductive spF(P:Sb)(w:SH)(K:RB)(g:List aN->aO->Option (aN×aO))(vs:List V)(H:Hp)(Q:VK)(E:XK):Prop
 |mk(m:List az)(ws:List aN)(h:aO)(z:aN)(h':aO)(R:RH K m H h)(r:RWs P w K m H vs ws)(e:g ws h=aa (z,h'))(p:Post P w K m H z h' Q):spF P w K g vs H Q E
inductive tD(X:Cx)(F:FT)(G:ay->Option aN)(e:aU)(σ:L2.St)(H:Hp)(Q:VK):Prop
 |mk(m:List az)(s:bx)(h:aO)(z:aN)(h':aO)(R:RH X.K m H h)(S:RS X.prog X.w X.K m H σ s)(q:aL F G e s h=aa (z,h'))(p:Post X.prog X.w X.K m H z h' Q):tD X F G e σ H Q
inductive tDs(X:Cx)(F:FT)(G:ay->Option aN)(es:aY)(σ:L2.St)(H:Hp)(Q:List V->Hp->Prop):Prop
 |mk(m:List az)(s:bx)(h:aO)(zs:List aN)(h':aO)(R:RH X.K m H h)(S:RS X.prog X.w X.K m H σ s)(q:aX F G es s h=aa (zs,h'))(p:∀vs H' m',Ext m H m' H'->RH X.K m' H' h'->RWs X.prog X.w X.K m' H' vs zs->Q vs H'):tDs X F G es σ H Q
inductive tDT(X:Cx)(F:FT)(G:ay->Option aN)(e:aU)(σ:L2.St)(H:Hp)(Q:Bool->Hp->Prop):Prop
 |mk(m:List az)(s:bx)(h:aO)(b:Bool)(h':aO)(R:RH X.K m H h)(S:RS X.prog X.w X.K m H σ s)(q:aL F G e s h=aa (.p (.bl b),h'))(p:∀H' m',Ext m H m' H'->RH X.K m' H' h'->Q b H'):tDT X F G e σ H Q
def Bb(P:Sb)(w:SH)(K:RB)(mg:ay->Option aA)(base:aq)(k L:Nat)(g:List aN->aO->Option (aN×aO)):Prop :=
 ∀(A:TJ)(q:List Env)(s:RI)(H:Hp) (f:az) (M:List aA) (J B:List V) (m:List az) (D:List aN) (U:List BT.Cp) (h:aO) (z:aN) (O:aO) (Q:VK) (E:XK),fQ k A->r8 P w K mg base A q s H->dg J M →
  RH K m H h->RWs P w K m H J D->BT.noC D=ah->pZ m H f L B->RCs K m H B U->g (D++U.map BT.Cp.w) h=aa (z,O)->Post P w K m H z O Q->ak (R6 P w) A (.call (.ref f) ⟨M,[]⟩) (CR CX0 q P w H s Q E) s
structure LX(X:Cx)(x:ay):Prop where
 mem:x∈BT.iE
 ex:∃c P,TU X.K x=aa (c,P)/\X.env.code=.ref c/\PySem.W.CodeHd X.base c P/\∀y∈BT.iE,∀c2,TU X.K y=aa (c2,P)->y=x
 ql:X.env.qual=x++".<locals>."
 bm:∃bm ob,X.mg "__builtins__"=aa (.ref bm)/\bm≠UT/\X.base.get? bm=aa ob/\ob.cls=.type "module"/\ob.dict=aa UT/\ob.data=.plain
noncomputable def MK:List ay:=["len","abs","int","list","tuple","isinstance","str","bool","range","reversed","enumerate","zip","min","max","sorted","sum","all","any","set","ValueError","dict"]
inductive OkC(P:Sb)(w:SH)(K:RB)(mg:ay->Option aA)(base:aq)(A:TJ)(f:ay)(sp:Sp):Prop
 |mk(q:az)(fd:Uv)(ps:List ay)(k:Nat)(h1:mg f=aa (.ref q))(h2:Tw K (.ref q)=ah)(D:Binds K fd ps [])(J:fQ k A)(B:i8 P w K mg base CX0 k q fd ps sp):OkC P w K mg base A f sp
inductive OkM(P:Sb)(w:SH)(K:RB)(mg:ay->Option aA)(base:aq)(A:TJ)(CX:CXT)(c m:ay)(sp:Sp):Prop
 |mk(C g:az)(fd:Uv)(ps:List ay)(k:Nat)(h1:nV K c C)(h2:zJ K C m g)(B:Binds K fd ps [])(D:fQ k A)(q:i8 P w K mg base CX k g fd ps sp):OkM P w K mg base A CX c m sp
inductive OkN(P:Sb)(w:SH)(K:RB)(mg:ay->Option aA)(base:aq)(A:TJ)(c:ay)(sp:Sp):Prop
 |mk(C g:az)(fd:Uv)(ps:List ay)(k:Nat)(h1:nV K c C)(h2:mg c=aa (.ref C))(B:Mk K C g)(J:Binds K fd ps [])(q:fQ (k+1) A)(D:i8 P w K mg base CX0 k g fd ps sp):OkN P w K mg base A c sp
structure Ok(X:Cx)(F:FT)(G:ay->Option aN)(sc:Tu)(N:List ay):Prop where
 hsc:X.env.scope=sc
 hN:X.N=N
 nd:X.N.Nodup
 calm:fV N=ah->X.calm=ah
 hu:X.A.units+150<cLine
 own:XI (R6 X.prog X.w) X.A X.env X.xe
 glob:∀x z,G x=aa z->∃u v,X.mg x=aa u/\RelV v u/\∀m H,RW X.prog X.w X.K m H v z
 call:∀(f:ay) ws h r,F (.f f) ws h=aa r->OkC X.prog X.w X.K X.mg X.base X.A f (spF X.prog X.w X.K (F (.f f)))
 aF:∀(c m:ay) ws h r,F (.m c m) ws h=aa r->OkM X.prog X.w X.K X.mg X.base X.A CX0 c m (spF X.prog X.w X.K (F (.m c m)))
 mkc:∀(c:ay) ws h r,F (.m c "__init__") ws h=aa r->OkN X.prog X.w X.K X.mg X.base X.A c (spF X.prog X.w X.K (F (.m c "__init__")))
 blt:∀x∈MK,X.mg x=af
 lam:∀(L:Nat) ws h r,F (.l L) ws h=aa r->∃k,fQ k X.A/\Bb X.prog X.w X.K X.mg X.base k L (F (.l L))
 lamx:(∀x,X.fn x=ah)->∀x,N.contains (BT.jD x)=ah->LX X x
def PE.weak(h:PE X e t)(q:∀σ H Q,t' σ H Q->t σ H Q):PE X e t':=λB s σ H Q I hw=>h B s σ H Q I (q _ _ _ hw)
def PT.weak(h:PT X e t)(q:∀σ H Q,t' σ H Q->t σ H Q):PT X e t':=λB s σ H Q I hw=>h B s σ H Q I (q _ _ _ hw)
def PW.weak(h:PW X e t)(q:∀σ H Q,t' σ H Q->t σ H Q):PW X e t':=λD B s σ H Q I hw=>h D B s σ H Q I (q _ _ _ hw)
def PA.weak(h:PA X es t)(q:∀σ H Q,t' σ H Q->t σ H Q):PA X es t':=λB D s σ H Q I hw=>h B D s σ H Q I (q _ _ _ hw)
def cX(h:noStar e=ah):Sv (e::es) env=(ai,eval e env)::Sv es env:=by cases e<;>first|rfl|exact aT h
def sZ(h:k8 b=ah):vO b:=λo i=>by cases b<;>first|rfl|exact aT h
def lz(h:dS o=ah):VQ o name env (eval o env)=eval o env:=by
 cases o with
 |Call fn B q p =>
  cases fn with
  |Attribute _ _ _=>rfl|_=>exact aT h
 |_=>first|rfl|exact cU h
def c7:List RN->Bool
 |[]=>ah|e::es=>noStar e&&c7 es
theorem dI:∀{es:List RN},c7 es=ah->(UW pos (Sv es env)).any (·.1)=ai
 |[],_=>rfl
 |e::es,h=>by simp only[c7,RK]at h;rw[cX h.1];show(ai||(UW pos (Sv es env)).any (·.1))=ai;rw[dI h.2];rfl
theorem jJ:∀{es:List RN},c7 es=ah->(UW pos (Sv es env)).all (λx=>!x.1)=ah
 |[],_=>rfl
 |e::es,h=>by simp only[c7,RK]at h;rw[cX h.1];show(!ai&&(UW pos (Sv es env)).all (λx=>!x.1))=ah;rw[jJ h.2];rfl
def ML:Tq->Prop
 |.es _ q=>c7 q=ah|_=>True
def Bc(h:CQ sc N t):ML t:=by
 induction h with
 |es_nil=>exact rfl
 |es_cons B _ _ _ q =>
  show(noStar _&&c7 _)=ah;rw[RK];exact⟨B,q⟩
 |_=>exact UG
def gU(h:CEs sc N as es):c7 es=ah:=Bc h
noncomputable def noM:Tq->Prop
 |.es (.cons _ _) []=>False|_=>True
def IF(h:CQ sc N t):noM t:=by
 induction h with
 |_=>exact UG
def n8(h:CEs sc N (.cons a r) []):False:=IF h
section
def n9(i:∀s h,aL F G e s h=bB (aL F G a s h) (BT.k2 (aL F G b s) f))(σ:L2.St)(H:Hp)(Q:VK)(q:tD X F G e σ H Q):
 tOp (rOp X.prog X.w X.K f) (tD X F G a) (tD X F G b) σ H Q:=by
 obtain⟨m,s,h,z,j,R,S,M,O⟩:=q;rw[i]at M;obtain⟨x,L,e1,e2⟩:=cY M;simp only[BT.k2]at e2;obtain⟨y,J,l,k⟩:=cY e2;refine⟨m,s,h,x,L,R,S,e1,λv t g D o Z=>?_⟩;refine⟨g,s,L,y,J,o,S.ext D,l,λu r d B R2 Y=>?_⟩;exact⟨d,J,x,y,z,j,R2,Z.ext B,Y,k,λV p c U n W=>O V p c ((D.trans B).trans U) n W⟩
def tw(h:∀σ H Q,tD X F G e σ H Q->t σ H Q)(σ:L2.St)(H:Hp)(Q:Bool->Hp->Prop)(q:tDT X F G e σ H Q):zE t σ H Q:=by
 obtain⟨m,s,J,b,L,R,S,M,B⟩:=q;refine h σ H _ ⟨m,s,J,_,L,R,S,M,λv U D x O r=>?_⟩;cases r with
 |p r=>cases r;exact⟨b,rfl,B U D x O⟩
def opB(h:GB o op=ah):OpR X (T8 op) (rOp X.prog X.w X.K (BT.qL o)):=by rw[bP h];cases o;exact Iq;exact Ir;exact Iv;exact Iu;exact Ec
def GG:∀{es:List (ay×V)}{kvs:List (ay×aM)}{K:RB},RDk K es kvs->KV (es.map λq=>((Sum.inr q.1:Key),q.2)) vs->(valueAt vs (Sum.inr k)).isSome=(bF k kvs).isSome:=by
 intro es
 induction es generalizing vs with
 |nil =>
  intro kvs K r q;cases r;cases q;rfl
 |cons p es O =>
  intro kvs K r q;cases r with
  |@cons x v dd _ kvs r t =>
   cases q with
   |@cons p z Z Y L J =>
    obtain⟨W,U⟩:=z;obtain⟨B,D⟩:=L;simp only at B D;subst B;rw[bF]
    by_cases c:k=x
    ·subst c;simp[valueAt]
    ·rw[bK c];have M:¬((Sum.inr x:Key)=Sum.inr k):=λz=>c (Sum.inr.inj z).symm;have:=O t J;simp only[valueAt]at this⊢;rw[VE (by simpa using M)];exact this
def opC(O:Ok X F G sc N)(h:D9 o op=ah):OpR X (Tf op) (rOp X.prog X.w X.K (bC o)):=by
 rw[bP h];cases o;exact MH O.hu;exact MI O.hu;exact qX Lh rfl rfl λ_ _=>rfl;exact qX Li rfl rfl λ_ _=>rfl;exact qX Lj rfl rfl λ_ _=>rfl;exact qX Lk rfl rfl λ_ _=>rfl;exact Iw;exact Eg
 ·refine Iz O.hu ?_;intro B x b m H v u y z r j s Q I M U J L e q;cases B with
  |t B =>
   cases x with
   |p d =>
    cases d<;>first|exact cU e|skip
    ·obtain rfl:=RO e;cases L with
     |@k a i _ V L =>
      cases U;cases J with
      |p J =>
       cases J;cases M;obtain⟨W,c,g,dd⟩:=V;obtain⟨f,A,fn⟩:=map_none (dd s.heap I.kIn);refine Xy (knd:=optKind X.prog X.w) (k:=af) rfl W A ?_;rw[fn];exact⟨.bl _,H,I.tok _,rfl,q⟩
    obtain rfl:=RO e;cases L with
    |@k a i _ V L =>
     cases U;cases J with
     |p J =>
      cases J with
      |str x ok =>
       obtain⟨t,rfl⟩:=M;obtain⟨W,c,g,dd⟩:=V;have D:=dd s.heap I.kIn;refine Xy (knd:=dF X.prog X.w) (iA _ _ _ t) W D.mapOf ?_;rw[GG L g];exact⟨.bl _,H,I.tok _,rfl,q⟩
   |_=>exact cU e
  |l B =>
   cases x with
   |p d =>
    obtain⟨k,Z,Y⟩:=dh (show(BT.pA d).map (λk=>(bD B k).isSome)=aa b from e);subst Y;cases L with
    |@kl a ob P _ C L =>
     cases U;cases J with
     |p J =>
      have E:=AR J Z;subst E;cases uS I (.inr ⟨_,C.1⟩) L k with
      |no c dd n Z Y =>
       refine Xy (knd:=dF X.prog X.w) (zV M) n dd.mapOf ?_;rw[Y];exact⟨.bl _,H,I.tok _,rfl,by rw[Z]at q;exact q⟩
      |is c dd n x R S Z Y g3 T =>
       refine Xy (knd:=dF X.prog X.w) (zV M) n dd.mapOf ?_;rw[Y];exact⟨.bl _,H,I.tok _,rfl,by rw[Z]at q;exact q⟩
   |_=>exact cU e
 ·refine Eh O.hu ?_;intro B x b m H v u y z r j s Q I M U J L e q;cases B with
  |t B =>
   cases x with
   |p d =>
    cases d<;>first|exact cU e|skip
    obtain rfl:=RO e;cases L with
    |@k a i _ V L =>
     cases U;cases J with
     |p J =>
      cases J with
      |str x ok =>
       obtain⟨t,rfl⟩:=M;obtain⟨W,c,g,dd⟩:=V;have D:=dd s.heap I.kIn;refine wpAny_notIn_of (knd:=dF X.prog X.w) (iA _ _ _ t) W D.mapOf ?_;rw[GG L g];exact⟨.bl _,H,I.tok _,rfl,q⟩
   |_=>exact cU e
  |l B=>exact cU e
end
section
variable{X:Cx}{F:FT}{G:ay->Option aN}{sc:Tu}{N:List ay}
def En(O:Ok X F G sc N)(x:ay):X.env.kindOf x=sc.names.lookup x:=by rw[←O.hsc];rfl
def gE(h:fK x=ah):(x==("__debug__":ay))=ai/\(x==("__classdict__":ay))=ai/\x≠"__name__":=by simp only[fK,RK,Wl]at h;exact⟨h.1.1,h.1.2,λe=>by rw[e]at h;simp at h⟩
def dQ(O:Ok X F G sc N)(h:dJ sc x=ah):Gl X x:=by show X.env.kindOf x=_;rw[En O];exact bQ h
def IG(O:Ok X F G sc N)(h:sR sc x=ah):Vis X.env.scope x:=by
 rw[O.hsc];unfold sR at h;unfold Vis;cases e:sc.names.lookup x with
 |none=>rw[e]at h;exact aT h
 |some k=>rw[e]at h;cases k<;>first|(exact .inl rfl)|(exact .inr (.inl rfl))|(exact .inr (.inr rfl))|exact aT h
def v8(O:Ok X F G sc N)(h2:N[i]?=aa y)(M:sR sc y=ah)(L:fK y=ah):PE X (.Name y pos) (tD X F G (.v i)):=by
 obtain⟨V,U,_⟩:=gE L;refine PE.weak (GW (i:=i) (by rw[O.hN];exact h2) (IG O M) V U) fun W H Q q=>?_;obtain⟨m,s,h,z,Y,R,S,B,D⟩:=q;simp only[aL]at B;split at B
 ·rename_i w e;cases B;obtain⟨v,J,r⟩:=S.get i _ e;exact⟨v,J,D v H m (.refl _ _) R r⟩
 exact cU B
def Eo(h:GC d c=ah):PE X (.Constant c k pos) (tD X F G (.j d)):=by
 have fin:∀{v:V},(∀m H,RD X.K m H v d)->∀B H Q,tD X F G (.j d) B H Q->tC v B H Q:=λr B H Q q=>by obtain⟨m,s,h,z,L,R,S,D,J⟩:=q;simp only[aL]at D;cases D;exact J _ H m (.refl _ _) R (.p (r m H))
 cases d<;>cases c<;>first|exact aT h|skip
 exact PE.weak GX (fin λ_ _=>.aD);cases bQ h;exact PE.weak KU (fin λ_ _=>.bl _);cases bQ h;exact PE.weak uv (fin λ_ _=>.int _)
 ·have h:=Bool.and_eq_true_iff.mp h;cases bQ h.1;exact PE.weak GY (fin λ_ _=>.str _ h.2)
def Ep(O:Ok X F G sc N)(h2:dJ sc y=ah)(U:fK y=ah):PE X (.Name y pos) (tD X F G (.aE y)):=by obtain⟨V,Z,_⟩:=gE U;intro J s D H Q I q;obtain⟨m,W,h,z,Y,R,S,B,L⟩:=q;simp only[aL]at B;obtain⟨w,e1,e2⟩:=dh B;cases e2;obtain⟨u,v,M,r,rw⟩:=O.glob _ _ e1;exact qx (dQ O h2) M r V J s D H Q I (L v H m (.refl _ _) R (rw m H))
def GH(Y:∀s h,aL F G e s h=bB (aL F G a s h) k)(q:tD X F G e σ H Q)
(h1:∀m h x z h' v H1,RH X.K m H1 h->RW X.prog X.w X.K m H1 v x->k x h=aa (z,h')->Post X.prog X.w X.K m H1 z h' Q->R' v H1):tD X F G a σ H R':=by
 obtain⟨m,s,h,z,h',R,S,B,D⟩:=q;rw[Y]at B;obtain⟨x,g,e1,e2⟩:=cY B;exact⟨m,s,h,x,g,R,S,e1,λv H1 W L b U=>h1 W g x z h' v H1 b U e2 λM c V J Z O=>D M c V (L.trans J) Z O⟩
def lA(Y:∀s h,aL F G e s h=bB (aX F G as s h) k)(q:tD X F G e σ H Q)
(h1:∀m h xs z h' vs H1,RH X.K m H1 h->RWs X.prog X.w X.K m H1 vs xs->k xs h=aa (z,h')->Post X.prog X.w X.K m H1 z h' Q->R' vs H1):tDs X F G as σ H R':=by
 obtain⟨m,s,h,z,h',R,S,B,D⟩:=q;rw[Y]at B;obtain⟨x,g,e1,e2⟩:=cY B;exact⟨m,s,h,x,g,R,S,e1,λv H1 W L a U=>h1 W g x z h' v H1 a U e2 λM b V J Z O=>D M b V (L.trans J) Z O⟩
def ty_list(R:RH X.K m H h)(r:RW X.prog X.w X.K m H v (.r n))(ok:BT.lR (.r n) h=ah):tyV X.K "list" v H:=by
 cases r with
 |@r a _ hn =>
  obtain⟨q,e⟩:=Option.isSome_iff_exists.mp ok;obtain⟨B,e,_⟩:=R.cell n a q hn e;exact .inl ⟨rfl,B,.inl (.inl e)⟩
def v9(e:BT.kMe m ea x h=aa r):BT.lR x h=ah/\bB (ea h) (aP m x)=aa r:=by unfold BT.kMe at e;split at e;rename_i c;exact⟨c,e⟩;exact cU e
def P4(B:m=.append\/m=.pop\/m=.extend)(e:aP m x ws h=aa (z,h')):∃n,x=.r n:=by
 cases x with
 |r n=>exact⟨n,rfl⟩
 |p d =>
  rcases B with rfl|rfl|rfl<;>cases ws<;>rw[sX]at e<;>(split at e<;>(try exact cU e))<;>exact cU e
 |k q =>
  rcases B with rfl|rfl|rfl<;>cases ws<;>(first|exact cU e|simp[aP]at e)
 |x _ =>
  rcases B with rfl|rfl|rfl<;>cases ws<;>(first|exact cU e|simp[aP]at e)
 |c _ _ =>
  rcases B with rfl|rfl|rfl<;>cases ws<;>(first|exact cU e|simp[aP]at e)
 |o q =>
  rcases B with rfl|rfl|rfl<;>cases ws<;>(first|exact cU e|simp[aP]at e)
end
section
def qY{X:Cx}{e a:aU}{k:bx->aN->aO->Option (aN×aO)}(Z:∀s h,aL F G e s h=bB (aL F G a s h) (k s)){σ:L2.St}{H:Hp}{Q:VK}(q:tD X F G e σ H Q){R':V->Hp->Prop}
(h1:∀m s h x z h' v H1,RH X.K m H1 h->RS X.prog X.w X.K m H1 σ s->RW X.prog X.w X.K m H1 v x->k s x h=aa (z,h')->Post X.prog X.w X.K m H1 z h' Q->R' v H1):tD X F G a σ H R':=by
 obtain⟨m,s,h,z,h',R,S,D,J⟩:=q;rw[Z]at D;obtain⟨x,g,e1,e2⟩:=cY D;exact⟨m,s,h,x,g,R,S,e1,λv H1 Y B c U=>h1 Y s g x z h' v H1 c (S.ext B) U e2 λM d W L b O=>J M d W (B.trans L) b O⟩
def II{X:Cx}{e a:aU}{k:bx->Bool->aO->Option (aN×aO)}{kk:bx->aN->aO->Option (aN×aO)}(Y:∀s h,aL F G e s h=bB (aL F G a s h) (kk s))
(W:∀s x h r,kk s x h=aa r->∃b,x=.p (.bl b)/\k s b h=aa r){σ:L2.St}{H:Hp}{Q:VK}(q:tD X F G e σ H Q){R':Bool->Hp->Prop}
(h1:∀m s h b z h' H1,RH X.K m H1 h->RS X.prog X.w X.K m H1 σ s->k s b h=aa (z,h')->Post X.prog X.w X.K m H1 z h' Q->R' b H1):tDT X F G a σ H R':=by
 obtain⟨m,s,h,z,h',R,S,D,J⟩:=q;rw[Y]at D;obtain⟨x,g,e1,e2⟩:=cY D;obtain⟨b,rfl,Z⟩:=W _ _ _ _ e2;exact⟨m,s,h,b,g,R,S,e1,λH1 V B d=>h1 V s g b z h' H1 d (S.ext B) Z λM f U L c O=>J M f U (B.trans L) c O⟩
def lU(r:RW P w K m H v (.p (.bl b))):v=.bl b:=by cases r with|p r=>cases r;rfl
def we(e:BT.D3 eb x h=aa r):∃b,x=.p (.bl b)/\(if b=ah then eb h else aa (.p (.bl ai),h))=aa r:=by
 cases x with
 |p d =>
  cases d<;>simp only[BT.D3]at e<;>try contradiction
  exact⟨_,rfl,e⟩
 |_=>exact cU e
def Bd(e:BT.kOr eb x h=aa r):∃b,x=.p (.bl b)/\(if b=ah then aa (.p (.bl ah),h)else eb h)=aa r:=by
 cases x with
 |p d =>
  cases d<;>simp only[BT.kOr]at e<;>try contradiction
  exact⟨_,rfl,e⟩
 |_=>exact cU e
def Er(e:BT.D4 ea eb x h=aa r):∃b,x=.p (.bl b)/\(if b=ah then ea h else eb h)=aa r:=by
 cases x with
 |p d =>
  cases d<;>simp only[BT.D4]at e<;>try contradiction
  exact⟨_,rfl,e⟩
 |_=>exact cU e
def wg(e:BT.D0 x h=aa r):∃b,x=.p (.bl b)/\r=(.p (.bl (!b)),h):=by
 cases x with
 |p d =>
  cases d<;>simp only[BT.D0]at e<;>try contradiction
  cases e;exact⟨_,rfl,rfl⟩
 |_=>exact cU e
def Et(e:BT.DZ x h=aa r):∃i,x=.p (.int i)/\r=(.p (.int (-i)),h):=by
 cases x with
 |p d =>
  cases d<;>simp only[BT.DZ]at e<;>try contradiction
  cases e;exact⟨_,rfl,rfl⟩
 |_=>exact cU e
def wj{X:Cx}{a b:aU}(σ:L2.St)(H:Hp)(Q:VK)(q:tD X F G (.and a b) σ H Q):Gj (tD X F G a) (tD X F G b) σ H Q:=by
 refine qY (k:=λs=>BT.D3 (aL F G b s)) (λs h=>by simp only[aL]) q λm s h x z D v J R S r e B=>?_;obtain⟨c,rfl,e2⟩:=we e;refine⟨c,lU r,?_⟩;cases c with
 |true=>rw[bJ rfl]at e2⊢;exact⟨m,s,h,z,D,R,S,e2,B⟩|false=>rw[bK (by decide)]at e2⊢;cases e2;exact B.here R (.bl _)
def Be{X:Cx}{a b:aU}(σ:L2.St)(H:Hp)(Q:VK)(q:tD X F G (.or a b) σ H Q):KZ (tD X F G a) (tD X F G b) σ H Q:=by
 refine qY (k:=λs=>BT.kOr (aL F G b s)) (λs h=>by simp only[aL]) q λm s h x z D v J R S r e B=>?_;obtain⟨c,rfl,e2⟩:=Bd e;refine⟨c,lU r,?_⟩;cases c with
 |true=>rw[bJ rfl]at e2⊢;cases e2;exact B.here R (.bl _)|false=>rw[bK (by decide)]at e2⊢;exact⟨m,s,h,z,D,R,S,e2,B⟩
def wk(σ:L2.St)(H:Hp)(Q:Bool->Hp->Prop)(q:tDT X F G (.and a b) σ H Q):KW (tDT X F G a) (tDT X F G b) σ H Q:=by
 obtain⟨m,s,h,c,W,R,S,M,J⟩:=q;simp only[aL]at M;obtain⟨x,g,e1,e2⟩:=cY M;obtain⟨d,rfl,B⟩:=we e2;refine⟨m,s,h,d,g,R,S,e1,λZ L D O=>?_⟩;cases d with
 |true=>rw[bJ rfl]at B⊢;exact⟨L,s,g,c,W,O,S.ext D,B,λY V U R2=>J Y V (D.trans U) R2⟩|false=>rw[bK (by decide)]at B⊢;cases B;exact J Z L D O
def Bf(σ:L2.St)(H:Hp)(Q:Bool->Hp->Prop)(q:tDT X F G (.or a b) σ H Q):tOr (tDT X F G a) (tDT X F G b) σ H Q:=by
 obtain⟨m,s,h,c,W,R,S,M,J⟩:=q;simp only[aL]at M;obtain⟨x,g,e1,e2⟩:=cY M;obtain⟨d,rfl,B⟩:=Bd e2;refine⟨m,s,h,d,g,R,S,e1,λZ L D O=>?_⟩;cases d with
 |true=>rw[bJ rfl]at B⊢;cases B;exact J Z L D O|false=>rw[bK (by decide)]at B⊢;exact⟨L,s,g,c,W,O,S.ext D,B,λY V U R2=>J Y V (D.trans U) R2⟩
def Eu(σ:L2.St)(H:Hp)(Q:Bool->Hp->Prop)(q:tDT X F G (.not a) σ H Q):KY (tDT X F G a) σ H Q:=by obtain⟨m,s,h,c,M,R,S,B,D⟩:=q;simp only[aL]at B;obtain⟨x,g,e1,e2⟩:=cY B;obtain⟨d,rfl,O⟩:=wg e2;cases O;exact⟨m,s,h,d,M,R,S,e1,λV L J U=>D V L J U⟩
def Ew{X:Cx}{a:aU}(σ:L2.St)(H:Hp)(Q:VK)(q:tD X F G (.not a) σ H Q):Gk (tD X F G a) σ H Q:=by refine qY (k:=λs=>BT.D0) (λs h=>by simp only[aL]) q λm s h x z D v J R S r e B=>?_;obtain⟨c,rfl,e2⟩:=wg e;cases e2;exact⟨c,lU r,B.here R (.bl _)⟩
def IJ{X:Cx}{c a b:aU}(σ:L2.St)(H:Hp)(Q:VK)(q:tD X F G (.ite c a b) σ H Q):tIf (tDT X F G c) (tD X F G a) (tD X F G b) σ H Q:=by
 refine II (k:=λs t h=>if t=ah then aL F G a s h else aL F G b s h) (kk:=λs=>BT.D4 (aL F G a s) (aL F G b s)) (λs h=>by simp only[aL]) (λs x h r e=>Er e) q λm s h t z D J R S e B=>?_;cases t with
 |true=>rw[bJ rfl]at e⊢;exact⟨m,s,h,z,D,R,S,e,B⟩|false=>rw[bK (by decide)]at e⊢;exact⟨m,s,h,z,D,R,S,e,B⟩
def IK{X:Cx}{a:aU}(σ:L2.St)(H:Hp)(Q:VK)(q:tD X F G (.neg a) σ H Q):tUn (rU λi=>.int (-i)) (tD X F G a) σ H Q:=by refine qY (k:=λs=>BT.DZ) (λs h=>by simp only[aL]) q λm s h x z D v J R S r e B=>?_;obtain⟨c,rfl,e2⟩:=Et e;cases e2;cases r with|p r=>cases r;exact⟨c,rfl,B.here R (.int _)⟩
def tE(σ:L2.St)(H:Hp)(Q:VK)(q:tD X F G (.chain o o' a b c) σ H Q):
 uy (rOp X.prog X.w X.K (bC o)) (rOp X.prog X.w X.K (bC o')) (tD X F G a) (tD X F G b) (tD X F G c) σ H Q:=by
 obtain⟨m,s,h,z,h',R,S,T,n⟩:=q;simp only[aL]at T;obtain⟨x,P,e1,e2⟩:=cY T;simp only[BT.k2]at e2;obtain⟨y,L,e3,B⟩:=cY e2;refine⟨m,s,h,x,P,R,S,e1,λv H1 m1 Y R1 r1=>?_⟩;refine⟨m1,s,P,y,L,R1,S.ext Y,e3,λu H2 m2 W R2 C=>?_⟩;unfold BT.oCh at B;cases g:aW x L with
 |none=>rw[g]at B;exact cU B
 |some d =>
  cases y with
  |p J =>
   rw[g]at B;simp only at B;have N:∀(o:BT.Cm)(i:aN)(O:aO) dd,aW i O=aa dd->∀U D,aW U O=aa D->bC o i U O=(BT.gi o dd D).map λz=>(.p (.bl z),O):=by
    intro o i O dd E U D j;unfold bC;cases U with
    |p _=>simp only[E,j]|r _=>simp only[E,j]|_=>exact cU j
   cases l:BT.gi o d J with
   |none=>rw[l]at B;exact cU B
   |some t =>
    rw[l]at B;refine⟨m2,L,x,.p J,.p (.bl t),L,R2,r1.ext W,C,by rw[N o x L d g (.p J) J rfl,l];rfl,λv3 H3 I V R3 r3=>⟨t,lU r3,?_⟩⟩;cases t with
    |false =>
     rw[bK (by decide)];cases B;exact n _ H3 I ((Y.trans W).trans V) R3 (.p (.bl _))
    |true =>
     rw[bJ rfl];obtain⟨Z,e,e5,M⟩:=cY B;refine⟨I,s,L,Z,e,R3,((S.ext Y).ext W).ext V,e5,λv4 H4 m4 A R4 r4=>?_⟩;unfold BT.LZ at M;cases k:aW Z e with
     |none=>rw[k]at M;exact cU M
     |some f =>
      rw[k]at M;simp only at M;refine⟨m4,e,.p J,Z,z,h',R4,(C.ext V).ext A,r4,by rw[N o' (.p J) e J rfl Z f k];exact M,λv5 H5 m5 x5 R5 r5=>n v5 H5 m5 ((((Y.trans W).trans V).trans A).trans x5) R5 r5⟩
  |_=>rw[g]at B;exact cU B
def IL{lo:aY}(y:∀σ H (Q:Option Int->Hp->Prop),(∃m s h l zs h',RH X.K m H h/\RS X.prog X.w X.K m H σ s/\aX F G lo s h=aa (zs,h')/\(aZ zs).bind BT.qE=aa l/\∀H' m',Ext m H m' H'->RH X.K m' H' h'->Q l H')->tl σ H Q)
(A:∀σ H (Q:Option Int->Hp->Prop),(∃m s h l zs h',RH X.K m H h/\RS X.prog X.w X.K m H σ s/\aX F G hi s h=aa (zs,h')/\(aZ zs).bind BT.qE=aa l/\∀H' m',Ext m H m' H'->RH X.K m' H' h'->Q l H')->th σ H Q)
(σ:L2.St)(H:Hp)(Q:VK)(q:tD X F G (.n a lo hi) σ H Q):tSl (rSl X.prog X.w X.K) (tD X F G a) tl th σ H Q:=by
 obtain⟨m,s,h,z,h',R,S,c,f⟩:=q;simp only[aL]at c;obtain⟨x,Z,e1,e2⟩:=cY c;simp only[BT.L3]at e2;obtain⟨W,Y,P,e⟩:=cY e2;simp only[BT.L1]at e;obtain⟨V,C,N,B⟩:=cY e;unfold BT.L0 at B;cases D:aW x C with
 |none=>rw[D]at B;exact cU B
 |some d =>
  cases J:(aZ W).bind BT.qE with
  |none=>rw[D,J]at B;exact cU B
  |some l =>
   cases O:(aZ V).bind BT.qE with
   |none=>rw[D,J,O]at B;exact cU B
   |some u =>
    rw[D,J,O]at B;simp only at B;obtain⟨b,I,E⟩:=dh B;cases E;refine⟨m,s,h,x,Z,R,S,e1,λv H1 t M R1 k=>y σ H1 _ ⟨t,s,Z,l,W,Y,R1,S.ext M,P,J,λH2 r L R2=>A σ H2 _ ⟨r,s,Y,u,V,h',R2,(S.ext M).ext L,N,O,λH3 p U R3=>?_⟩⟩⟩;exact⟨p,h',x,d,b,R3,(k.ext L).ext U,D,I,λi H5 o g T j=>f i H5 o (((M.trans L).trans U).trans g) T j⟩
end
section
def wm(L:sp=spF X.prog X.w X.K (F (.f f)))(q:tD X F G (.call f as) σ H Q):vL sp [] E0 (tDs X F G as) σ H Q:=by subst L;refine lA (k:=λJ h=>F (.f f) J h) (λs h=>by simp only[aL]) q λm h D z M O U R r e B=>?_;rw[Tt];exact⟨m,D,h,z,M,R,r,e,B⟩
def j3(q:tDs X F G .nil σ H Q):zK σ H Q:=by obtain⟨m,s,h,J,L,R,S,B,D⟩:=q;simp only[aX]at B;cases B;exact D [] H m (.refl _ _) R .nil
def Bg(O:Ok X F G sc N)(W:dJ sc f=ah)(hn:fK f=ah)(Y:CEs sc N as es)(c:PA X es (tDs X F G as)):
 PE X (.Call (.Name f p) es [] pos) (tD X F G (.call f as)):=by
 have B:=gU Y;intro J s D H Q I q;have L:=q;obtain⟨m,i,h,z,n,R,S,b,d⟩:=q;simp only[aL]at b;obtain⟨g,l,e1,e2⟩:=cY b;obtain⟨t,o,j,k,U,V,Z,M,ok⟩:=O.call _ _ _ _ e2;cases es with
 |nil =>
  cases as with
  |cons a r=>exact(n8 Y).elim|nil=>exact(PE.weak (zO ok M (dQ O W) U V Z .nil nA (gE hn).1) (fun D H Q z=>j3 (wm (X:=X) rfl z))) J s D H Q I L
 |cons e es =>
  simp only[c7,RK]at B;exact(PE.weak (Dy ok M (dQ O W) U V Z .nil nA c (gE hn).1 (cX B.1) (dI B.2)) (fun D H Q z=>wm rfl z)) J s D H Q I L
def oh{id:String}(j:PlainAttrs T)(D:Slot T name id)
(U:typeOf (.builtin id)=pure (.type "method_descriptor"))(l:MtR X id (rMe X.prog X.w X.K me))(t:dS oe=ah)(n:(apos.endLine==cpos.line)=ah)(W:es.length<20)(k:PE X oe (tD X F G o))(p:CEs sc N as es)(ha:PA X es (tDs X F G as))
(ty:∀(m:List az)(h h2:aO)(H:Hp)(v:V) (x:aN) ws r,RH X.K m H h->RW X.prog X.w X.K m H v x->BT.lR x h=ah->aP me x ws h2=aa r->(∃σ s,RS X.prog X.w X.K m H σ s/\∃h0,aL F G o s h0=aa (x,h))->tyV X.K T v H):
 PE X (.Call (.Attribute oe name apos) es [] cpos) (tD X F G (.me me o as)):=by
 have B:=gU p;have O:∀σ H Q,tD X F G (.me me o as) σ H Q->tBM X.K T (rMe X.prog X.w X.K me) (tD X F G o) (tDs X F G as) σ H Q:=by intro σ H Q q;obtain⟨m,s,h,z,g,R,S,b,Z⟩:=q;simp only[aL]at b;obtain⟨x,f,e1,e2⟩:=cY b;obtain⟨ok,e2⟩:=v9 e2;obtain⟨ws,h2,e3,u⟩:=cY e2;refine⟨m,s,h,x,f,R,S,e1,λv c M J Y L=>⟨ty M f h2 c v x ws _ Y L ok u ⟨σ,s,S.ext J,h,e1⟩,M,s,f,ws,h2,Y,S.ext J,e3,λvs H2 P i R2 E=>?_⟩⟩;exact⟨P,h2,x,ws,z,g,R2,L.ext i,E,u,λA H5 I y R5 C=>Z A H5 I ((J.trans i).trans y) R5 C⟩
 cases es with
 |nil =>
  cases as with
  |cons a r=>exact(n8 p).elim
  |nil =>
   refine PE.weak (Hx j D U l k (lz t) n) fun σ H Q q=>?_;obtain⟨m,s,h,z,g,R,S,b,Z⟩:=O σ H Q q;exact⟨m,s,h,z,g,R,S,b,λv c M J Y L=>⟨(Z v c M J Y L).1,j3 (Z v c M J Y L).2⟩⟩
 |cons e es =>
  simp only[c7,RK] at B;refine PE.weak (zU j D U l k ha (lz t) ?_ n (cX B.1) (dI B.2)) O;rw[jJ (es:=e::es) (by simp only[c7,RK];exact B)];have d:decide ((e::es).length+([]:List Wb).length+(if ([]:List Wb).isEmpty then 0 else 1) < 30)=ah:=bO (by
   simp only[RY,SO,List.isEmpty_nil,if_true] at W ⊢;lia)
  rw[d];rfl
def iF(q:tD X F G (.bi b mu as) σ H Q):tCB (rBi X.prog X.w X.K b mu) (tDs X F G as) σ H Q:=by refine lA (k:=λJ h=>BT.kBi b mu J h) (λs h=>by simp only[aL]) q λm h D z L M O R r e B=>?_;exact⟨m,h,D,z,L,R,r,e,B⟩
def IM(O:Ok X F G sc N)(U:fV N=ah)(V:GD b mu x=ah)(B:dJ sc x=ah)(q:c7 (e::es)=ah)(D:PA X (e::es) (tDs X F G as)):
 PE X (.Call (.Name x p) (e::es) [] pos) (tD X F G (.bi b mu as)):=by
 simp only[c7,RK]at q;have M:AH b mu=aa x:=bQ V;have J:=O.blt;cases b<;>cases mu<;>first|exact cU M|(change aa _=aa _ at M)
 all_goals (cases M)
 exact PE.weak (fq IC (dQ O B) (J _ (by decide)) PySem.boot_len D (by decide) (by decide) (cX q.1) (dI q.2)) (fun L H Q z=>iF z);exact PE.weak (jU ID (dQ O B) (J _ (by decide)) (by decide +kernel) D (by decide) (by decide) (cX q.1) (dI q.2)) (fun L H Q z=>iF z);exact PE.weak (jU v7 (dQ O B) (J _ (by decide)) (by decide +kernel) D (by decide) (by decide) (cX q.1) (dI q.2)) (fun L H Q z=>iF z);exact PE.weak (jU v7 (dQ O B) (J _ (by decide)) (by decide +kernel) D (by decide) (by decide) (cX q.1) (dI q.2)) (fun L H Q z=>iF z);exact PE.weak (jU A7 (dQ O B) (J _ (by decide)) (by decide +kernel) D (by decide) (by decide) (cX q.1) (dI q.2)) (fun L H Q z=>iF z);exact PE.weak (fq (IE (O.calm U)) (dQ O B) (J _ (by decide +kernel)) (by decide +kernel) D (by decide) (by decide) (cX q.1) (dI q.2)) (fun L H Q z=>iF z);exact PE.weak (fq qb (dQ O B) (J _ (by decide +kernel)) (by decide +kernel) D (by decide) (by decide) (cX q.1) (dI q.2)) (fun L H Q z=>iF z);exact PE.weak (fq qb (dQ O B) (J _ (by decide +kernel)) (by decide +kernel) D (by decide) (by decide) (cX q.1) (dI q.2)) (fun L H Q z=>iF z);exact PE.weak (fq (Ek (O.calm U)) (dQ O B) (J _ (by decide +kernel)) (by decide +kernel) D (by decide) (by decide) (cX q.1) (dI q.2)) (fun L H Q z=>iF z);exact PE.weak (fq (El (O.calm U)) (dQ O B) (J _ (by decide +kernel)) (by decide +kernel) D (by decide) (by decide) (cX q.1) (dI q.2)) (fun L H Q z=>iF z)
def yw(L:sP b=aa (c,f)):eV X (.builtin "isinstance") (λvs H Q=>∃v,vs=[v,.ty c]/\rBi X.prog X.w X.K b ai [v] H Q):=by
 intro Y s W H vs a Q I D h;obtain⟨v,rfl,m,h,Z,z,i,R,B,e,M⟩:=h;obtain⟨u,g,rfl,U,J⟩:=D.two;cases J;obtain⟨j,d,e1,e2,⟨_,rfl,rfl⟩|⟨_,q,_⟩⟩:=gI e
 ·have V:=fX R B e1;cases V with
  |cons r t =>
   cases t;rw[A9 L]at e2;cases e2;exact Em I r U (Ba L X.K _) λO=>⟨.bl _,H,I.tok O,rfl,M.here R (.bl _)⟩
 exact aT q
def Bh(O:Ok X F G sc N)(L:sP b=aa (c,f))(l:dJ sc "isinstance"=ah)(B:dJ sc (RV c)=ah)(D:noStar e=ah)(o:PE X e (tD X F G a)):
 PE X (.Call (.Name "isinstance" p) [e,.Name (RV c) p2] [] pos) (tD X F G (.bi b ai (.cons a .nil))):=by
 have J:=O.blt;have n:PE X (.Name (RV c) p2) (tC (.ty c)):=by
  cases b<;>simp only[sP]at L<;>try contradiction
  all_goals (cases L)
  exact mT (dQ O B) (J _ (by decide)) (u:=.type "int") (by decide +kernel) rfl (by decide) (by decide);exact mT (dQ O B) (J _ (by decide)) (u:=.type "bool") (by decide +kernel) rfl (by decide) (by decide);exact mT (dQ O B) (J _ (by decide)) (u:=.type "str") (by decide +kernel) rfl (by decide) (by decide);exact mT (dQ O B) (J _ (by decide)) (u:=.type "tuple") (by decide +kernel) rfl (by decide) (by decide)
 refine PE.weak (fq (yw L) (dQ O l) (J _ (by decide)) (by decide +kernel) (jT o (jT n qz) (cX D)) (by decide) (by decide) (cX D) rfl) fun C H Q q=>?_;obtain⟨m,s,h,z,r,R,S,U,W⟩:=q;simp only[aL,aX]at U;obtain⟨E,M,e1,e2⟩:=cY U;obtain⟨x,I,t,V⟩:=cY e1;simp only[BT.kZ,BT.eS,BT.jc]at V;cases V;refine⟨m,s,h,x,M,R,S,t,λv K k Z y i=>?_⟩;exact⟨v,rfl,k,M,[x],z,r,y,.cons i .nil,e2,λd A j Y w g=>W d A j (Z.trans Y) w g⟩
def IP(σ:L2.St)(H:Hp)(Q:VK)(q:tD X F G (.aC as) σ H Q):Ln (tDs X F G as) σ H Q:=by
 refine lA (k:=λJ h=>BT.HV J h) (λs h=>by simp only[aL]) q λm h D z U M W R r e B=>?_;unfold BT.HV at e;cases g:aZ D with
 |none=>rw[g]at e;exact cU e
 |some V =>
  rw[g]at e;simp only at e;obtain⟨c,e⟩:=dw e;cases e;have rd:=r.pure g;have:=fW;have O:=rd.length;exact⟨by lia,λp L=>lg R L rd B⟩
def IQ(σ:L2.St)(H:Hp)(Q:VK)(q:tD X F G (.aB mu as) σ H Q):Ho (tDs X F G as) σ H Q:=by
 refine lA (k:=λJ h=>BT.HW mu J h) (λs h=>by simp only[aL]) q λm h D z M V Y R r e B=>?_;unfold BT.HW at e;cases g:aZ D with
 |none=>rw[g]at e;exact cU e
 |some U =>
  rw[g]at e;simp only at e;split at e
  ·rename_i c;have rd:=r.pure g;have:=fW;have W:=rd.length;have O:BT.new mu U h=(z,M):=RO e;exact⟨by lia,λp L=>mY (mu:=mu) R L rd (by rw[O];exact B)⟩
  exact cU e
def cons_of(σ:L2.St)(H:Hp)(Q:List V->Hp->Prop)(q:tDs X F G (.cons a as) σ H Q):Gp (tD X F G a) (tDs X F G as) σ H Q:=by obtain⟨m,s,h,g,c,R,S,L,O⟩:=q;simp only[aX]at L;obtain⟨x,J,e1,e2⟩:=cY L;simp only[BT.kZ]at e2;obtain⟨U,j,d,M⟩:=cY e2;simp only[BT.jc]at M;cases M;exact⟨m,s,h,x,J,R,S,e1,λv k b D e Y=>⟨b,s,J,U,c,e,S.ext D,d,λi f Z B R2 W=>O _ f Z (D.trans B) R2 (.cons (Y.ext B) W)⟩⟩
end
section
variable{K:RB}
theorem RFs.get:∀{vs:List (ay×V)}{fs:List (ay×aN)},RFs K m H vs fs->BT.dN f fs=aa x->∃v,vs.lookup f=aa v/\RA K m H v x
 |_,_,.nil,e=>by exact cU e
 |_,_,.cons (f:=g) r t,e=>by
  rw[BT.pY]at e
  by_cases c:f=g
  rw[bJ c]at e;cases e;subst c;exact⟨_,by simp,r⟩
  ·rw[bK c]at e;obtain⟨v,B,q⟩:=RFs.get t e;exact⟨v,by rw[T3];rw[beq_false_of_ne c];exact B,q⟩
theorem RFs.none:∀{vs:List (ay×V)}{fs:List (ay×aN)},RFs K m H vs fs->(BT.dN f fs).isNone=ah->vs.lookup f=af
 |_,_,.nil,_=>rfl
 |_,_,.cons (f:=g) r t,e=>by
  rw[BT.pY]at e
  by_cases c:f=g
  rw[bJ c]at e;exact aT e
  ·rw[bK c]at e;rw[T3,beq_false_of_ne c];exact RFs.none t e
theorem RFs.put(q:RA K m H v x):∀{vs:List (ay×V)}{fs:List (ay×aN)},RFs K m H vs fs->RFs K m H (L2.eB f v vs) (BT.eB f x fs)
 |_,_,.nil=>.cons q .nil
 |_,_,.cons (f:=g) r t=>by
  rw[L2.eB,BT.yf]
  by_cases c:f=g
  rw[bJ c,bJ c.symm];subst c;exact .cons q t;rw[bK c,bK (SM c)];exact .cons r (RFs.put q t)
theorem RFs.length:∀{vs:List (ay×V)}{fs:List (ay×aN)},RFs K m H vs fs->vs.length=fs.length
 |_,_,.nil=>rfl
 |_,_,.cons _ t=>by rw[RY,RY,RFs.length t]
end
section
def Ex(e:BT.D5 f x h=aa r):∃n c fs w,x=.o n/\bw h n=aa (c,fs)/\BT.dN f fs=aa w/\r=(w,h):=by
 cases x with
 |o n =>
  rw[BT.HY]at e;cases g:bw h n with
  |none=>rw[g]at e;exact cU e
  |some q =>
   obtain⟨c,fs⟩:=q;rw[g]at e;obtain⟨w,e1,e2⟩:=dh e;exact⟨n,c,fs,w,rfl,g,e1,e2.symm⟩
 |_=>exact cU e
def Ey{sc:Tu}{N:List ay}(M:dS x=ah)(L:attrName f=ah)(O:PE X x (tD X F G a)):PE X (.Attribute x f p) (tD X F G (.i a f)):=by
 refine PE.weak (Hj O (lz M)) fun b H Q q=>?_;refine GH (k:=BT.D5 f) (λs h=>by simp only[aL]) q λm h x z d v Z R r e D=>?_;obtain⟨n,c,fs,w,rfl,e1,e2,W⟩:=Ex e;cases W;cases r with
 |o hn =>
  obtain⟨C,Y,J,V,B,U⟩:=R.sW _ _ _ _ hn e1;obtain⟨u,l,ra⟩:=U.get e2;exact⟨_,C,Y,J,u,rfl,V,B.cls,B.no f L,l,D u Z m (.refl _ _) R ra.rw⟩
def lV(O:dS o=ah)(q:c7 args=ah)(D:args.length<20)(L:(apos.endLine==pos.line)=ah):
 eval (.Call (.Attribute o m apos) args [] pos) env=(do
  let ov ←eval o env
  Xz apos.atName
  let (f,first) ←VP [ov] (XA ov m (do return (←importBound o env).getD ah))
  callWith pos f first (UW pos (Sv args env)) (Xo pos (VO [] env))):=by
 have M:methodCallForm (args.length+([]:List Wb).length) (UW pos (Sv args env)) (Xo pos (VO [] env))=ah:=by
  unfold methodCallForm;have B:decide (args.length+([]:List Wb).length+(if (Xo pos (VO [] env)).isEmpty then 0 else 1) < 30)=ah:=bO (by
   show args.length+0+0 < 30;lia)
  rw[B,jJ q];rfl
 rw[arm_eval_Call,lz O];unfold methodCall;rw[M];have J:methodCallPos ah o env apos pos=pure pos:=by unfold methodCallPos;rw[L];rfl
 rw[J];rfl
def Bj(e:BT.Au F m ea x h=aa r):
 ∃n c fs ws g,x=.o n/\bw h n=aa (c,fs)/\(BT.dN m fs).isNone=ah/\ea h=aa (ws,g)/\F (.m c m) (.o n::ws) g=aa r:=by
 cases x with
 |o n =>
  rw[BT.D6]at e;cases g:bw h n with
  |none=>rw[g]at e;exact cU e
  |some q =>
   obtain⟨c,fs⟩:=q;rw[g]at e;simp only at e;split at e
   ·rename_i D;obtain⟨ws,B,e1,e2⟩:=cY e;exact⟨n,c,fs,ws,B,rfl,g,D,e1,e2⟩
   exact cU e
 |_=>exact cU e
def Bk(O:Ok X F G sc N)(hb:dS oe=ah)(T:(apos.endLine==cpos.line)=ah)(D:es.length<20)(P:PE X oe (tD X F G o))(hc:CEs sc N as es)(ha:PA X es (tDs X F G as)):
 PE X (.Call (.Attribute oe m apos) es [] cpos) (tD X F G (.aF o m as)):=by
 have J:=gU hc;intro u s Y H Q I q;obtain⟨m0,E,h,z,p,R,S,U,Z⟩:=q;simp only[aL]at U;obtain⟨x,h1,e1,e2⟩:=cY U;obtain⟨n,c,fs,A,g,rfl,e3,e4,e5,e6⟩:=Bj e2;obtain⟨C,ga,fd,ps,k,l,hM,hB,hR,ok⟩:=O.aF _ _ _ _ _ e6;have L:zM C m (spF X.prog X.w X.K (F (.m c m))) [] E0 (tD X F G o) (tDs X F G as) Y H Q:=by
  refine⟨m0,E,h,.o n,h1,R,S,e1,λv H1 j M W b=>?_⟩;cases b with
  |@o a _ hn =>
   obtain⟨C',t,vs,i,f,d⟩:=W.sW _ _ _ _ hn e3;cases f.cn.inj l.cn;refine⟨a,t,vs,rfl,i,d.none e4,j,E,h1,A,g,W,S.ext M,e5,λus H2 m2 y R2 r2=>?_⟩;show spF X.prog X.w X.K (F (.m c m)) (V.ref a::(us++[])) H2 Q E0;rw[Tt];exact⟨m2,.o n::A,g,z,p,R2,.cons (.o (y.ix hn)) r2,e6,λv5 H5 m5 x5 R5 r5=>Z v5 H5 m5 ((M.trans y).trans x5) R5 r5⟩
 cases es with
 |nil =>
  cases as with
  |cons a r=>exact(n8 hc).elim
  |nil =>
   refine zP P l.cls hM ok hR hB .nil nA (lV hb J D T) u s Y H Q I ?_;obtain⟨m,s,h,z,p,R,S,U,Z⟩:=L;refine⟨m,s,h,z,p,R,S,U,λv H1 j M W b=>?_⟩;obtain⟨a,t,fs,i,f,d,q4⟩:=Z v H1 j M W b;exact⟨a,t,fs,i,f,d,j3 q4⟩
 |cons e es =>
  have B:=J;simp only[c7,RK]at B;exact Dz P l.cls hM ok hR hB .nil nA ha (cX B.1) (dI B.2) (lV hb J D T) u s Y H Q I L
def Bl(O:Ok X F G sc N)(u:dJ sc c=ah)(hn:fK c=ah)(A:CEs sc N as es)(ha:PA X es (tDs X F G as)):
 PE X (.Call (.Name c p) es [] pos) (tD X F G (.make c as)):=by
 have J:=gU A;intro i s b H Q I q;obtain⟨m0,s',h,z,h',R,S,ee,zr⟩:=q;simp only[aL]at ee;obtain⟨t,L,e1,e2⟩:=cY ee;rw[BT.Av]at e2;obtain⟨y,h2,e3,Z⟩:=cY e2;have g:y=.p .aD/\(z,h')=(.o L.length,h2):=by
  cases y with
  |p d=>cases d<;>simp[BT.vW]at Z;exact⟨rfl,by rw[Z.1,Z.2]⟩|_=>exact cU Z
 obtain⟨rfl,g⟩:=g;cases g;obtain⟨C,ga,fd,ps,k,hC,Y,P,T,E,ok⟩:=O.mkc _ _ _ _ e3;have W:zN C (spF X.prog X.w X.K (F (.m c "__init__"))) [] E0 (tDs X F G as) b H Q:=by
  refine⟨m0,s',h,t,L,R,S,e1,λus M D x1 R1 r1 x B nx V ne=>?_⟩;rw[Tt];have l:Ext D M D (upd M B (.own x)):=jY V;have Ra:RH X.K D (upd M B (.own x)) L:=R1.new V;have U:upd M B (.own x) x=af:=by rw[dB (SM ne)];exact nx
  have j:Ext D (upd M B (.own x)) (D++[x]) (upd (upd M B (.own x)) x (.ins C B [])):=iX U;have Rb:RH X.K (D++[x]) (upd (upd M B (.own x)) x (.ins C B [])) (L++[.o c []]):=Ra.Ip U ⟨C,B,[],d9,hC,.nil⟩;have ix:(D++[x])[L.length]?=aa x:=by rw[←R1.len];simp
  refine⟨D++[x],.o L.length::t,L++[.o c []],.p .aD,h',Rb,.cons (.o ix) (r1.ext (l.trans j)),e3,λv H2 m2 n R2 f=>?_⟩;cases f with
  |p f =>
   cases f;exact⟨rfl,zr _ H2 m2 (((x1.trans l).trans j).trans n) R2 (.o (n.ix ix))⟩
 cases es with
 |nil =>
  cases as with
  |cons a r=>exact(n8 A).elim
  |nil =>
   refine zQ P ok E (dQ O u) Y T .nil nA (gE hn).1 i s b H Q I ?_;exact j3 W
 |cons e es =>
  simp only[c7,RK]at J;exact DA P ok E (dQ O u) Y T .nil nA ha (gE hn).1 (cX J.1) (dI J.2) i s b H Q I W
def IR(o:bA):TIp:=λx y H Q=>∃i j z,x=.int i/\y=.int j/\BT.nC o (.int i) (.int j)=aa (.int z)/\Q (.int z) H
noncomputable def Bm:bA->Wc->Bool
 |.add,.Add=>ah|.sub,.Sub=>ah|.mul,.Mult=>ah|_,_=>ai
def wo(h:Bm o op=ah):PIp X op (IR o):=by
 rintro zt s σ H x y u v Q I rx ry ⟨i,j,z,rfl,rfl,e,q⟩
 obtain⟨t,rfl⟩:=(show ∃t,u=Vb i t from rx);obtain⟨B,rfl⟩:=(show ∃B,v=Vb j B from ry);cases o<;>cases op<;>cases h;cases e;exact PyProof.Rows.iadd_int ⟨.int (i+j),H,I.tok _,⟨_,rfl⟩,q⟩;cases e;exact PyProof.Rows.isub_int ⟨.int (i-j),H,I.tok _,⟨_,rfl⟩,q⟩
 ·rw[BT.sH]at e;obtain⟨c,e⟩:=dw e;cases e;have D:Dq i j:=by
   rcases Uq _ _ ▸ c with c|c
   exact .inl (qU c);exact .inr (qU c)
  exact PyProof.Rows.imul_int ⟨.int (i*j),H,I.tok _,⟨_,rfl⟩,q⟩ D.ok
def wu(h:BT.nC o d e=aa z):∃i j k,d=.int i/\e=.int j/\z=.int k:=by
 cases d with
 |int i =>
  cases e with
  |int j =>
   refine⟨i,j,?_⟩;cases o with
   |add=>exact⟨_,rfl,rfl,(RO h).symm⟩|sub=>exact⟨_,rfl,rfl,(RO h).symm⟩
   |mul =>
    rw[BT.sH]at h;split at h;exact⟨_,rfl,rfl,(RO h).symm⟩;exact cU h
   |_=>exact cU h
  |_=>cases o<;>exact cU h
 |_=>cases o<;>exact cU h
end
section
variable{K:RB}
end
theorem lW(r:dg vs us):∀l:List Nat,dg (l.filterMap λi=>vs[i]?) (l.filterMap λi=>us[i]?)
 |[]=>.nil
 |i::l=>by
  rw[SX,SX];cases g:vs[i]? with
  |none =>
   have:us[i]?=af:=by have h:=r.length;rw[Xe]at g⊢;lia
   rw[this];exact lW r l
  |some d =>
   obtain⟨v,e,q⟩:=r.get g;rw[e];exact .cons q (lW r l)
noncomputable def tF(k:Int)(xs:List V):List V:=(VF (SA af af (aa k) xs.length).1 (SA af af (aa k) xs.length).2.1 (SA af af (aa k) xs.length).2.2).filterMap λi=>xs[i]?
section
def IS(l:k≠0)(r:PE X e te)(j:PE X se (tC (.int k))):
 PE X (.Subscript e (.Slice af af (aa se) p2) pos) (fun σ H Q=>te σ H λx H1=>∃a xs,x=.ref a/\SqL X.K H1 a xs/\∀p,H1 p=af->Q (.ref p) (upd H1 p (.aB (tF k xs)))):=by
 intro J s σ H Q I h;refine Subscript_ (thn (r J s σ H _ I h) λv Y M=>?_);obtain⟨x,H1,C,c,a,xs,ex,g,q⟩:=M;subst ex;cases c;refine wpAny_Slice ?_;rw[Yn];refine au (au ?_);rw[evalPart_some];refine thn (j J Y σ H1 (λv F=>v=.int k/\F=H1) C ⟨rfl,rfl⟩) λG B M=>?_;obtain⟨y,E,u,Z,f,m⟩:=M;subst f m;obtain⟨t,rfl⟩:=Z;have O:Inv X J σ E {B with heap:=B.heap.push {cls:=.type "slice",data:=.fields #[.none,.none,.int k t]} }:=u.aH (t':=B.toks) λb ob q=>RC _ q;obtain⟨D,U,p,N⟩:=O.list g;have n:av (R6 X.prog X.w) X.A (WY (.ref a) (.ref B.heap.objs.size)) (EP X J σ Q) X.xe {B with heap:=B.heap.push {cls:=.type "slice",data:=.fields #[.none,.none,.int k t]} }:=by
  have L:=U.length;refine X7 p.isList (WI ..) .none .none (.int k t) (by intro z;exact l (RO z)) ?_ (by rw[RG];lia);have W:slicePick D.toArray af af (aa k)=((VF (SA af af (aa k) xs.length).1 (SA af af (aa k) xs.length).2.1 (SA af af (aa k) xs.length).2.2).filterMap λi=>D[i]?).toArray:=by unfold slicePick;rw[RG,←L];simp
  rw[W];have V:=lW U (VF (SA af af (aa k) xs.length).1 (SA af af (aa k) xs.length).2.1 (SA af af (aa k) xs.length).2.2);have d:(tF k xs).length<=xs.length:=by have:=slicePick_size_le D.toArray af af (aa k);rw[W,RG,RG]at this;have e:=V.length;unfold tF;lia
  refine⟨.ref (B.heap.push {cls:=.type "slice",data:=.fields #[.none,.none,.int k t]}).objs.size,_,O.laid (t':=B.toks) (o:=.aB (tF k xs)) (λb ob q=>RC _ q) (RQ _) ?_,rfl,q _ (O.aJ.fresh (RQ _))⟩;exact⟨by lia,_,0,V,RM _ rfl⟩
 show av (R6 X.prog X.w) X.A (Yj e (.Slice af af (aa se) p2) (.ref a) (.ref B.heap.objs.size)) (EP X J σ Q) X.xe {B with heap:=B.heap.push {cls:=.type "slice",data:=.fields #[.none,.none,.int k t]} };exact Yi (ops:=[.ref a,.ref B.heap.objs.size]) p.isList.typeIs slot_list_getitem.lookup n (by with_unfolding_all rfl)
def wA(h:(Ea e).bind cInt=aa k):∃a b,e=.Constant (.int k) a b:=by
 cases e with
 |Constant c a b =>
  cases c with
  |int j=>cases h;exact⟨a,b,rfl⟩|_=>exact bL (show(af:Option Int)=aa _ from h) (λz=>nomatch z)
 |_=>exact bL (show(af:Option Int)=aa _ from h) (λz=>nomatch z)
def Bo(h:qP k e=ah):(∃a b,e=.Constant (.int k) a b/\0<k)\/∃j a b p,e=.UnaryOp .USub (.Constant (.int j) a b) p/\k=-j/\0<j:=by
 unfold qP at h;rw[Uq,RK,RK,bM,bM]at h;rcases h with⟨q,B⟩|⟨q,B⟩
 ·obtain⟨a,b,e1⟩:=wA (bQ q);exact .inl ⟨a,b,e1,B⟩
 ·have q:=bQ q;cases e with
  |UnaryOp o e p =>
   by_cases c:o=.USub
   ·subst c;have D:(Ea e).bind cInt=aa (-k):=q;obtain⟨a,b,rfl⟩:=wA D;exact .inr ⟨-k,a,b,p,rfl,by lia,by lia⟩
   ·have:unE (.UnaryOp o e p)=af:=bK c;rw[this]at q;exact cU q
  |_=>exact bL (show(af:Option Int)=aa _ from q) (λz=>nomatch z)
def Ez(Y:qP k se=ah)(Z:PE X x (tD X F G a)):PE X (.Subscript x (.Slice af af (aa se) p2) p) (tD X F G (.stp mu k a)):=by
 have D:k≠0/\PE X se (tC (.int k)):=by
  rcases Bo Y with⟨a,b,rfl,h⟩|⟨j,a,b,p,rfl,rfl,h⟩
  exact⟨by lia,uv⟩;exact⟨by lia,PE.weak (Gn zC uv) fun J H Q q=>⟨_,rfl,q⟩⟩
 refine PE.weak (IS D.1 Z D.2) fun J H Q q=>?_;refine GH (k:=BT.HX mu k) (λs h=>by simp only[aL]) q λm h x z c v i R r e L=>?_;unfold BT.HX at e;cases g:aW x h with
 |none=>rw[g]at e;exact cU e
 |some d =>
  rw[g]at e;cases d with
  |aB M =>
   simp only at e;have U:=dX R r g;obtain⟨a,O,rfl,W,B⟩:=U.aB;have f:BT.new mu (BT.mE k M) h=(z,c):=RO e;refine⟨a,O,rfl,W.sq,λp V=>mY (mu:=mu) R V ?_ (by rw[f];exact L)⟩;unfold tF BT.mE;rw[B.length];exact RDs.pick B _
  |_=>exact cU e
def Bp{X:Cx}{b:BT.Bi}{g:Int->Int->Int}(Z:∀ds d,BT.biD b ds=aa d->∃i j,ds=[.int i,.int j]/\d=.int (g i j)){id:String}(Y:eV X (.builtin id) (λxs H Q=>∃i j,xs=[.int i,.int j]/\Q (.int (g i j)) H)):eV X (.builtin id) (rBi X.prog X.w X.K b ai):=by
 intro L s J H c O Q I D h;obtain⟨m,h,a,z,f,R,B,e,M⟩:=h;obtain⟨ds,d,e1,e2,⟨_,rfl,rfl⟩|⟨_,q,_⟩⟩:=gI e
 ·have V:=fX R B e1;obtain⟨i,j,rfl,rfl⟩:=Z _ _ e2;cases V with
  |cons r t =>
   cases t with
   |cons W U =>
    cases U;cases r.int;cases W.int;exact Y L s J H _ O Q I D ⟨i,j,rfl,M.here R (.int _)⟩
 exact aT q
def EA{X:Cx}{sc:Tu}{N:List ay}(O:Ok X F G sc N)(J:fV N=ah){b:BT.Bi}{as:aY}{x:ay}{e:RN}{es:List RN}{p pos:Pos}(B:AI b x=ah)(L:dJ sc x=ah)(q:c7 (e::es)=ah)(M:PA X (e::es) (tDs X F G as)):
 PE X (.Call (.Name x p) (e::es) [] pos) (tD X F G (.bi b ai as)):=by
 simp only[c7,RK]at q;have U:=O.blt;cases b<;>first|exact aT B|(replace B:=bQ B)
 ·subst B;refine PE.weak (fq (Bp (b:=.min2) (g:=λi j=>if j<i then j else i) (λD d h=>?_) (xP (O.calm J))) (dQ O L) (U _ (by decide +kernel)) (by decide +kernel) M (by decide) (by decide) (cX q.1) (dI q.2)) (fun V H Q z=>iF z)
  match D,h with
  |[.int i,.int j],h=>exact⟨i,j,rfl,(RO h).symm⟩
 ·subst B;refine PE.weak (fq (Bp (b:=.max2) (g:=λi j=>if j>i then j else i) (λD d h=>?_) (xO (O.calm J))) (dQ O L) (U _ (by decide +kernel)) (by decide +kernel) M (by decide) (by decide) (cX q.1) (dI q.2)) (fun V H Q z=>iF z)
  match D,h with
  |[.int i,.int j],h=>exact⟨i,j,rfl,(RO h).symm⟩
end
section
variable{K:RB}
def MM(H H':Hp):Prop:=(∀a q,Rd H a (.aC q)->Rd H' a (.aC q))/\∀a q,Rd H a (.aB q)->Rd H' a (.aB q)
mutual
theorem RD.tr(q:MM H H'):∀{v:V}{d:aM},RD K m H v d->RD K m H' v d
 |_,_,.aD=>.aD|_,_,.bl b=>.bl b|_,_,.int i=>.int i|_,_,.str y h=>.str y h|_,_,.aC h r=>.aC (h.elim (λz=>.inl ⟨q.1 _ _ z.1,z.2⟩) .inr) (RDs.tr q r)|_,_,.aB h r=>.aB (h.elim (λz=>.inl ⟨q.2 _ _ z.1,z.2⟩) .inr) (RDs.tr q r)
theorem RDs.tr(q:MM H H'):∀{vs:List V}{ds:List aM},RDs K m H vs ds->RDs K m H' vs ds
 |_,_,.nil=>.nil|_,_,.cons r t=>.cons (RD.tr q r) (RDs.tr q t)
end
end
open Classical in
noncomputable def hid(cl:List (ay×az))(H:Hp):Hp:=λb=>if ∃x,cl.lookup x=aa b then af else H b
open Classical in
noncomputable def ret(cl:List (ay×az))(q H:Hp):Hp:=λb=>if ∃x,cl.lookup x=aa b then q b else H b
section
end
def Rf(P:Sb)(w:SH)(K:RB)(mg:ay->Option aA)(base:aq)(N:List ay)(q:ay)(sc:Tu)(cl:List (ay×az))(f B:az)(A:TJ)(outer:List Env)(s:RI)(H:Hp):Cx where
 prog:=P
 w:=w
 K:=K
 mg:=mg
 base:=base
 A:=A.deeper (Xk q sc s.heap.objs.size f (.ref B) cl)
 N:=N
 s₀:=s
 H₀:=hid cl H
 env:=Xk q sc s.heap.objs.size f (.ref B) cl
 outer:=outer
 stack:=Xk q sc s.heap.objs.size f (.ref B) cl::outer
 ex:=[]
 calm:=ah
 fn:=λ_=>ai
 pn:=[]
 xe:=λ_ _=>False
section
end
section
open PySem.W PySem.Calls PySem.Builtin PySem.Builtin.ObjectAttr PySem.Builtin.Getset_descriptor
variable{E:aA->RI->Prop}{K:RB}
end
section
end
section
variable{X:Cx}
def Bq(P:X.A.units+150<cLine):MtR X "list.count" (rMe X.prog X.w X.K .count):=by
 intro zt s σ H v vs v' us Q I t M h;obtain⟨m,h,x,W,z,h',R,J,L,e,o⟩:=h;cases x with
 |r n=>cases W with
  |_=>(first|exact cU e|simp[aP]at e)
 |p d =>
  rw[BT.ya]at e;cases g:aZ W with
  |none=>rw[g]at e;exact cU e
  |some ds =>
   rw[g]at e;obtain⟨b,e1,e2⟩:=dh e;cases e2;have rds:=L.pure g;cases d<;>first|exact cU e1|skip
   rename_i D;cases ds with
   |nil=>exact cU e1
   |cons B dr =>
    cases dr with
    |cons _ _=>exact cU e1
    |nil =>
     rw[BT.HN]at e1;obtain⟨c,e1⟩:=dw e1;cases e1;cases rds with
     |cons G E =>
      cases E;obtain⟨u,rfl,C⟩:=M.one;cases J with
      |p J =>
       obtain⟨a,vt,rfl,T,ra⟩:=RR.aB (.d J);cases t;obtain⟨zz,q,n,O,_,Y⟩:=rdL I T;have hl:=O.length;have S:=ra.length;have ec:q.countP (fu s.heap (pd B))=D.countP λy=>aQ y B:=by
        have U:q.map (fu s.heap (pd B))=D.map λy=>aQ y B:=by refine List.ext_getElem (by rw[RX,RX];lia) λi j Z=>?_;rw[RX]at j Z;rw[Wy,Wy];exact mZ I ra O i j Z
        have k:∀{V:Type}(f:V->Bool)(l:List V),l.countP f=(l.map f).countP id:=λf l=>by rw[List.countP_map];rfl
        rw[k,k (λy=>aQ y B),U]
       refine US F.slot_list_count ⟨_,Y,rfl⟩ F.entry_list_count (F.args_list_count_2 _ _) (SeqAt.list_countAt a q.toArray n af #[] u (fu s.heap (pd B))) ⟨Y,?_,?_⟩
       ·intro y N;exact jh P I (.d G) C ra O c y (by simpa using N)
       ·refine⟨.int ((D.countP λy=>aQ y B:Nat):Int),H,I.tok _,⟨s.toks,?_⟩,o.here R (.int _)⟩;rw[←ec]
 |_=>(first|exact cU e|simp[aP]at e)
end
structure uT(K:RB)(J:It)(m0:List az)(H0:Hp)(ds:List aM)(C:aO->Prop):Prop where
 go:∀m H h (i:Nat),Ext m0 H0 m H->RH K m H h->C h->i<ds.length->J.go i H
 yld:∀m H h (i:Nat) x H' d,Ext m0 H0 m H->RH K m H h->C h->ds[i]?=aa d->J.yld i H x H'->Ext m H m H'/\Le H H'/\RD K m H' x d
 stop:∀m H h,Ext m0 H0 m H->RH K m H h->C h->J.stop ds.length H
def wB(B:BT.Sr)(ws:List aN):Prop:=BT.jb ws=ah\/(B=.seq/\∃q,ws=[.r q])
def qZ(ws:List aN)(ds:List aM)(h:aO):Prop:=∀q,ws=[.r q]->bg h q=aa ds
def wB.p(h:wB sr ws)(n:sr≠.seq):BT.jb ws=ah:=h.resolve_right λz=>n z.1
def oi(a:BT.jb ws=ah):qZ ws ds h:=λq e=>by subst e;exact aT a
noncomputable def Itv(K:RB)(a:az)(n:Nat):It :=
 ⟨λi H=>i<n/\∃q,SqL K H a q/\q.length=n,λi H x B=>B=H/\∀q,SqL K H a q->q[n-1-i]?=aa x,λi H=>i=n⟩
theorem Br(a B:az)(n:Nat):Turn P w K tg (Itv K a n) [B] B (λi h=>h.IsRevIter B a ((n:Int)-1-i)) where
 mem:=by simp
 obj:=λi h st b J=>by
  have e:b=B:=by simpa using J
  subst e;obtain⟨o,e,c,d⟩:=st;exact⟨o,e,λv z=>by rw[d]at z;cases z⟩
 keep:=λi h O st k=>st.at λo e=>k B (by simp) o e
 item:=by
  intro X U hw V y i l s j H E I M st L;subst U hw V;obtain⟨hi,A,r,hx⟩:=L;obtain⟨G,m,p,hz⟩:=I.list r;have hl:=m.length;have t:n-1-i<A.length:=by lia
  obtain⟨u,Q,F⟩:=m.get (RJ t);obtain⟨g,f,R,Z,Y,W⟩:=M B (by simp);have S:((n:Int)-1-(i:Int))=(((n-1-i:Nat)):Int):=by lia
  have D:s.heap.IsRevIter B a (((n-1-i:Nat)):Int):=by rw[←S];exact st
  refine wpAny_pyNext_rev_item D p.isList (x:=u) (by simpa using Q) λO q C=>?_;have I1:Inv X l j H {s with heap:=O}:=I.turned (t':=s.toks) (λb o J e=>(C.2 b J).trans e) g f Z Y W;obtain⟨o,e,c,d⟩:=id q;refine⟨u,rfl,vI (s:={s with heap:=O}) e c d (by decide) ⟨_,H,I1,F,⟨rfl,λys N=>by rw[I.rY N r];exact RJ t⟩,?_,λb J=>(M b J).1⟩⟩;have e2:(((n-1-i:Nat)):Int)-1=(n:Int)-1-((i+1:Nat):Int):=by lia
  rw[e2]at q;exact q
 done:=by
  intro X U hw V y i l s j H E I M st L;subst U hw V;have L:i=n:=L;subst L;obtain⟨g,f,R,Z,Y,W⟩:=M B (by simp);have e1:(i:Int)-1-(i:Int)=-1:=by lia
  have D:s.heap.IsRevIter B a (-1):=by rw[←e1];exact st
  exact wpAny_pyNext_rev_end (I.ok.hd y) D λO T=>⟨rfl,I.turned (t':=s.toks) (λb o J e=>T b o J e) g f Z Y W⟩
 self:=λ_ _ _ _ _ st h=>wpAny_pyIter_revIter st h
def Inv.EB{X:Cx}{zt:List (az×ao)}{σ:L2.St}{H H':Hp}{s:RI}{h':aq}{fp:List az}{tk:Nat}(I:Inv X zt σ H s)(J:∀b∈fp,oZ X zt H b)
(k:∀b o,b∉fp->s.heap.get? b=aa o->h'.get? b=aa o)(D:∀b,b<s.heap.objs.size->H' b=H b)(aJ:HOk X.prog X.w H' h'):Inv X zt σ H' {s with heap:=h',toks:=tk}:=by
 have q:∀b u,H b=aa u->H' b=aa u:=λb u e=>by rw[D b (I.aJ.lt e)];exact e
 refine I.step (g':=s.gens) (d':=s.drawn) (ch:=fp) (λb O=>?_) (λb o _ _ B e _=>k b o B e) (λb o _ _ B e _=>⟨o.slots,k b o B e⟩) (λb o _ e n=>by rw[D b (RL e)];exact n)
  (λb o B e=>⟨o,k b o B e⟩) (λb c e=>q b _ e) (λb o u e=>q b _ e) (λb d e=>⟨#[],by rw[q b _ e];simp⟩) (λm M=>?_) aJ I.bare
 ·obtain⟨_,Y,_,W,V,U⟩:=J b O;exact⟨W,Y,V,U⟩
 ·obtain⟨o,Z,a,L,r⟩:=M;exact⟨o,Z,a,k _ o (λz=>(J _ z).2.1 rfl) L,r⟩
inductive iD(X:Cx)(F:FT)(G:ay->Option aN)(sr:BT.Sr)(sa:aY)(σ:L2.St)(H:Hp)(R:It->Hp->Prop):Prop
 |mk(m:List az)(s:bx)(h:aO)(ws:List aN)(h':aO)(ds:List aM)(RR:RH X.K m H h)(S:RS X.prog X.w X.K m H σ s)(e:aX F G sa s h=aa (ws,h'))(e2:(aR ws h').bind (BT.iR sr)=aa ds)(q:wB sr ws)
  (p:∀H' m' J,Ext m H m' H'->RH X.K m' H' h'->uT X.K J m' H' ds (qZ ws ds)->R J H'):iD X F G sr sa σ H R
def PI.weak(h:PI X tg e t)(q:∀σ H R,t' σ H R->t σ H R):PI X tg e t':=λB s σ H R I hw=>h B s σ H R I (q _ _ _ hw)
section
def EC(h:(Rd H0 a (.aB vs)/\a∉m0)\/KL K a vs)(r:RDs K m0 H0 vs ds):uT K (Itl K a) m0 H0 ds C:=by
 have k:∀{m H},Ext m0 H0 m H->SqL K H a vs:=λx=>LL.sq (h.elim (λq=>.inl (Rd.ext x q.1 q.2).1) .inr);refine⟨λm H D i x _ _ B=>?_,λm H D i v M d x RR _ hd y=>?_,λm H _ x _ _=>⟨vs,k x,by rw[r.length];exact RQ _⟩⟩;exact⟨vs,_,k x,RJ (by rw[r.length];exact B)⟩
 ·obtain⟨rfl,y⟩:=y;obtain⟨u,L,J⟩:=(r.ext x).get hd;have:=y vs (k x);rw[L]at this;cases this;exact⟨.refl _ _,λ_ _ e=>e,J⟩
def IT(h:(Rd H0 a (.aC vs)/\a∉m0)\/KT K a vs)(r:RDs K m0 H0 vs ds):uT K (Itt K a) m0 H0 ds C:=by
 have k:∀{m H},Ext m0 H0 m H->SqT K H a vs:=λx=>h.elim (λq=>.inl (Rd.ext x q.1 q.2).1) λ⟨o,its,n,q,_⟩=>.inr ⟨o,its,n,q⟩;refine⟨λm H D i x _ _ B=>?_,λm H D i v M d x RR _ hd y=>?_,λm H _ x _ _=>⟨vs,k x,by rw[r.length];exact RQ _⟩⟩;exact⟨vs,_,k x,RJ (by rw[r.length];exact B)⟩
 ·obtain⟨rfl,y⟩:=y;obtain⟨u,L,J⟩:=(r.ext x).get hd;have:=y vs (k x);rw[L]at this;cases this;exact⟨.refl _ _,λ_ _ e=>e,J⟩
def IU(h:(Rd H0 a (.aB vs)/\a∉m0)\/KL K a vs)(r:RDs K m0 H0 vs ds):uT K (Itv K a ds.length) m0 H0 ds.reverse C:=by
 have k:∀{m H},Ext m0 H0 m H->SqL K H a vs:=λx=>LL.sq (h.elim (λq=>.inl (Rd.ext x q.1 q.2).1) .inr);refine⟨λm H J i x _ _ B=>?_,λm H J i v O d x RR _ hd y=>?_,λm H _ x _ _=>by show ds.reverse.length=ds.length;simp⟩;exact⟨by simpa using B,vs,k x,r.length⟩
 ·obtain⟨rfl,y⟩:=y;have B:i<ds.length:=by have:=getD_some hd;simpa using this
  have D:ds[ds.length-1-i]?=aa d:=by rw[List.getElem?_reverse B]at hd;exact hd
  obtain⟨u,M,L⟩:=(r.ext x).get D;have:=y vs (k x);rw[M]at this;cases this;exact⟨.refl _ _,λ_ _ e=>e,L⟩
def Bs(lo:Int)(n:Nat):uT K (Itr lo n) m0 H0 (bH lo n) C:=by
 have B:(bH lo n).length=n:=by simp[bH]
 refine⟨λm H D i x _ _ q=>by rw[B]at q;exact q,λm H D i v J d x RR _ hd y=>?_,λm H _ x _ _=>by rw[B];exact RQ n⟩;obtain⟨rfl,rfl⟩:=y;have:d=.int (lo+i):=by
  have q:i<n:=by have:=getD_some hd;rw[B]at this;exact this
  simp only[bH,Sa]at hd;rw[Vf q]at hd;simpa using hd.symm
 subst this;exact⟨.refl _ _,λ_ _ e=>e,.int _⟩
def wC:∀{ws:List aN},BT.jb ws=ah->∃ds:List aM,ws=ds.map aN.p:=by
 intro ws
 induction ws with
 |nil=>exact λ_=>⟨[],rfl⟩
 |cons w ws q =>
  intro h;cases w with
  |p d =>
   obtain⟨ds,rfl⟩:=q h;exact⟨d::ds,rfl⟩
  |_=>exact aT h
def Bt(h:aO)(ds:List aM):aR (ds.map aN.p) h=aa ds:=by
 induction ds with
 |nil=>rfl
 |cons d ds q =>
  show(aR (ds.map aN.p) h).map (d :: ·)=_;rw[q];rfl
def Bu(B:sr=.seq\/sr=.rev\/sr=.rng1)(e:(aR ws h).bind (BT.iR sr)=aa ds)(D:BT.jb ws=ah):∃d,ws=[.p d]/\BT.iR sr [d]=aa ds:=by
 obtain⟨q,rfl⟩:=wC D;rw[Bt,SW]at e;cases q with
 |nil=>rcases B with rfl|rfl|rfl<;>exact cU e
 |cons d q =>
  cases q with
  |nil=>exact⟨d,rfl,e⟩
  |cons J q=>rcases B with rfl|rfl|rfl<;>cases d<;>exact cU e
def q8(e:aX F G (.cons a .nil) s h=aa (ws,h')):∃w,ws=[w]/\aL F G a s h=aa (w,h'):=by simp only[aX]at e;obtain⟨w,g,e1,e2⟩:=cY e;simp only[BT.kZ,BT.eS,BT.jc]at e2;cases e2;exact⟨w,rfl,e1⟩
def ED(J:m0[q]?=aa a):uT K (Itl K a) m0 H0 ds (qZ [.r q] ds):=by
 have k:∀{m H h},Ext m0 H0 m H->RH K m H h->qZ [.r q] ds h->∃B,SqL K H a B/\RDs K m H B ds:=λ{m H h} x RR c=>by
  obtain⟨e,rfl,_⟩:=x.pre;have e1:(m0++e)[q]?=aa a:=by rw[RE (List.getElem?_eq_some_iff.mp J).1];exact J
  obtain⟨B,W,V⟩:=RR.cell q a ds e1 (c q rfl);exact⟨B,LL.sq (.inl (.inl W)),V⟩
 refine⟨λm H L i x RR c M=>?_,λm H L i v Y d x RR c hd y=>?_,λm H L x RR c=>?_⟩
 ·obtain⟨B,D,k2⟩:=k x RR c;exact⟨B,_,D,RJ (by rw[k2.length];exact M)⟩
 ·obtain⟨B,D,k2⟩:=k x RR c;obtain⟨rfl,y⟩:=y;obtain⟨u,U,O⟩:=k2.get hd;have:=y B D;rw[U]at this;cases this;exact⟨.refl _ _,λ_ _ e=>e,O⟩
 ·obtain⟨B,D,k2⟩:=k x RR c;exact⟨B,D,by rw[k2.length];exact RQ _⟩
def EE(f:PE X x (tD X F G a)):PI X tg x (iD X F G .seq (.cons a .nil)):=by
 intro Z s Y H R I q;obtain⟨m,c,h,u,O,k,RR,S,e,e2,i,b⟩:=q;rcases i with i|⟨_,q,rfl⟩
 case inr =>
  obtain⟨w,j,V⟩:=q8 e;cases j;have g:bg O q=aa k:=by
   simp only[aR,aW,VB]at e2;cases g:bg O q with
   |none=>rw[g]at e2;exact cU e2|some t=>rw[g]at e2;cases e2;rfl
  refine vJ f Z s Y H R I ⟨m,c,h,_,O,RR,S,V,λv U M J D B=>?_⟩;cases B with
  |@r a n hn =>
   obtain⟨L,l,y⟩:=D.cell q a k hn g;exact⟨a,rfl,⟨L,LL.sq (.inl (.inl l))⟩,b U M _ J D (ED hn)⟩
 obtain⟨d,rfl,W⟩:=Bu (.inl rfl) e2 i;obtain⟨w,j,V⟩:=q8 e;cases j;rw[BT.Ar]at W;cases d<;>simp only[BT.qJ]at W<;>try contradiction
 ·cases W;refine G6 f Z s Y H R I ⟨m,c,h,_,O,RR,S,V,λv U M J D B=>?_⟩;cases B with
  |p B =>
   cases B with
   |@aC a L _ h r=>exact⟨a,rfl,⟨L,h.elim (λq=>.inl q.1) λ⟨o,its,n,q,_⟩=>.inr ⟨o,its,n,q⟩⟩,b U M _ J D (IT h r)⟩
 ·cases W;refine vJ f Z s Y H R I ⟨m,c,h,_,O,RR,S,V,λv U M J D B=>?_⟩;cases B with
  |p B =>
   cases B with
   |@aB a L _ h r=>exact⟨a,rfl,⟨L,LL.sq (h.elim (λq=>.inl q.1) .inr)⟩,b U M _ J D (EC h r)⟩
def Bv(O:Ok X F G sc N)(Y:dJ sc "range"=ah)(W:noStar e=ah)(D:PA X [e] (tDs X F G sa)):PI X tg (.Call (.Name "range" p) [e] [] pos) (iD X F G .rng1 sa):=by
 refine PI.weak (xK (dQ O Y) (O.blt _ (by decide)) D (cX W)) fun f H R q=>?_;obtain⟨m,M,h,g,Z,k,RR,S,e,e2,D,J⟩:=q;obtain⟨d,rfl,B⟩:=Bu (.inr (.inr rfl)) e2 (D.p (λz=>by cases z));refine⟨m,M,h,_,Z,RR,S,e,λi b V L a U=>?_⟩;obtain⟨j,rfl⟩:∃j:Int,d=.int j:=by
  cases d with
  |int j=>exact⟨j,rfl⟩|_=>exact bL (show(af:Option (List aM))=aa _ from B) (λz=>nomatch z)
 rw[BT.jX]at B;obtain⟨c,B⟩:=dw B;simp only[RK,bM]at c;cases B;cases U with
 |cons r t =>
  cases t;cases r with
  |p r =>
   cases r;exact⟨j,rfl,by lia,by lia,J b V _ L a (Bs 0 j.toNat)⟩
def MN(e:(aR ws h).bind (BT.iR .rng2)=aa ds)(D:BT.jb ws=ah):∃i j:Int,ws=[.p (.int i),.p (.int j)]/\(-100000<=i/\i<=100000/\-100000<=j/\j<=100000)/\ds=bH i (j-i).toNat:=by
 obtain⟨q,rfl⟩:=wC D;rw[Bt,SW]at e;have B:∃i j:Int,q=[.int i,.int j]:=by
  match q,e with
  |[.int i,.int j],_=>exact⟨i,j,rfl⟩
 obtain⟨i,j,rfl⟩:=B;rw[BT.lQ]at e;obtain⟨c,e⟩:=dw e;simp only[RK,bM]at c;cases e;exact⟨i,j,rfl,⟨c.1.1.1,c.1.1.2,c.1.2,c.2⟩,rfl⟩
def Bw(O:Ok X F G sc N)(a:dJ sc "range"=ah)(Z:noStar x=ah)(B:noStar y=ah)(J:PA X [x,y] (tDs X F G sa)):PI X tg (.Call (.Name "range" p) [x,y] [] pos) (iD X F G .rng2 sa):=by
 refine PI.weak (xM (dQ O a) (O.blt _ (by decide)) J (by rw[cX Z,cX B];rfl) (by rw[cX B];rfl)) fun g H R q=>?_;obtain⟨m,V,h,k,b,n,RR,S,e,e2,J,L⟩:=q;obtain⟨i,j,rfl,c,rfl⟩:=MN e2 (J.p (λz=>by cases z));refine⟨m,V,h,_,b,RR,S,e,λl f Y M d W=>?_⟩;cases W with
 |cons r t =>
  cases t with
  |cons D U =>
   cases U;cases r with
   |p r =>
    cases r;cases D with
    |p D =>
     cases D;exact⟨i,j,rfl,⟨by lia,by lia,by lia,by lia⟩,L f Y _ M d (Bs i (j-i).toNat)⟩
def EF(O:Ok X F G sc N)(A:dJ sc "reversed"=ah)(g:noStar e=ah)(C:PE X e (tD X F G a)):PI X tg (.Call (.Name "reversed" p) [e] [] pos) (iD X F G .rev (.cons a .nil)):=by
 intro l s k H R I q;obtain⟨m,t,h,ws,i,ds,RR,S,e,e2,P,n⟩:=q;obtain⟨d,rfl,j⟩:=Bu (.inr (.inl rfl)) e2 (P.p (λz=>by cases z));obtain⟨w,T,e4⟩:=q8 e;cases T;obtain⟨J,rfl⟩:∃J:List aM,d=.aB J:=by
  cases d with
  |aB J=>exact⟨J,rfl⟩|_=>exact bL (show(af:Option (List aM))=aa _ from j) (λz=>nomatch z)
 ·cases j;refine Call_ (gH (u:=.type "reversed") I (dQ O A) (O.blt _ (by decide)) (by decide +kernel) (Ss (thn (jT C qz (cX g) pos l s k H (λf D=>∃a M,f=[.ref a]/\∃B,Ext m H B D/\RH X.K B D i/\((Rd D a (.aB M)/\a∉B)\/KL X.K a M)/\RDs X.K B D M J) I ?_) λus s1 ⟨f,D,I1,V,q1⟩=>?_) (cX g) rfl))
  ·refine⟨m,t,h,_,i,RR,S,e4,λv D B Z c V=>?_⟩;cases V with
   |p V =>
    cases V with
    |@aB a M _ Y r=>exact⟨a,M,rfl,B,Z,c,Y,r⟩
  ·obtain⟨a,M,rfl,B,Z,c,Y,r⟩:=q1;obtain⟨u,rfl,x⟩:=vals1 V;cases x;obtain⟨z,L,nn,rv,y,ee⟩:=rdL I1 (Y.elim (λq=>.inl q.1) .inr);have Q:s1.heap.IsList a L.toArray:=⟨_,ee,rfl,_,rfl⟩;have W:=r.length;refine call_reversed_list Q ?_;have U:({s1 with heap:=s1.heap.push (revObj a ((L.toArray.size:Int)-1))}:RI).heap.IsRevIter s1.heap.objs.size a ((J.length:Int)-1-((0:Nat):Int)):=by refine⟨_,RM _ rfl,rfl,?_⟩;show Data.fields #[.ref a,UL ((L.toArray.size:Int)-1)]=_;rw[RG,←y,W];simp
   refine wpAny_pyIter_revIter U ?_;refine⟨s1.heap.objs.size,[s1.heap.objs.size],_,_,D,rfl,I1.aH (t':=s1.toks) λb o e=>RC _ e,Br a _ J.length,U,λb E=>?_,n D B _ Z c (IU Y r)⟩;have e:b=s1.heap.objs.size:=by simpa using E
   subst e;exact I1.Do (RQ _) (I1.aJ.fresh (RQ _))
end
section
variable{K:RB}
end
section
variable{X:Cx}{F:FT}{G:ay->Option aN}
def Rg:V->V->V->Hp->(Hp->Prop)->Prop:=λo i v H Q=>∃p q k,o=.ref p/\i=kV k/\H p=aa (.dK q)/\q.length<aj/\Q (upd H p (.dK (putK q k v)))
end
section
variable{E:aA->RI->Prop}
def tG(L:av (R6 prog w) A.in1 (collect v) (λvs B=>vs.length<=aj/\av (R6 prog w) A.in1.in1 (Builtin.«list.sort» { pos:=[.ref B.heap.objs.size] }) (λfin s2=>∃ u,fin=.done (.ret u)/\Q (.ref B.heap.objs.size) s2) E
 { B with heap:=B.heap.push (seqObj "list" vs.toArray 0) }) E s):av (R6 prog w) A (call (.builtin "sorted") [v]) Q E s:=by
 refine Calls.call_function_entry kind_sorted plain_sorted entry_sorted (args_sorted1 v) ?_;show av _ _ (Builtin.sorted {pos:=[v]}) _ _ s;unfold Builtin.sorted;refine Rz (au ?_);refine Rz (Ue L (λvs B D=>?_) λ_ _ x=>x);obtain⟨J,D⟩:=D;simp only[newList];refine Rz (Su ?_ (by first|size_fits|(rw[RG];exact J)|exact J));refine Rz (SQ (Tg slot_list_sort ⟨_,RM _ rfl,rfl⟩ entry_list_sort ?_ (args_list_sort _)));refine Ue D (λfin s2 q=>?_) λ_ _ x=>x;obtain⟨u,rfl,q⟩:=q;exact⟨u,rfl,au ⟨_,rfl,q⟩⟩
end
section
variable{X:Cx}{F:FT}{G:ay->Option aN}
end
section
variable{X:Cx}{F:FT}{G:ay->Option aN}{K:RB}{m:List az}{H:Hp}
end
section
variable{F:FT}{G:ay->Option aN}
end
section
variable{F:FT}{G:ay->Option aN}
end
section
variable{X:Cx}{F:FT}{G:ay->Option aN}
def TyX(X:Cx)(T:String)(k:BT.Tx):Prop:=∀(D:List (az×ao)) (s:RI) (B:L2.St) (H:Hp) (v:V) (q:aA) (m:List az) (x:aN) (J:List aN) (h:aO) (r:aN×aO),
 Inv X D B H s->RelV v q->RW X.prog X.w X.K m H v x->BT.kTx k (x::J) h=aa r->s.TypeIs q T/\∀a,q=.ref a->∃ob,s.heap.get? a=aa ob/\ob.dict=af
def EG{k:BT.Tx}{ws:List aN}{h:aO}{z:aN}{h':aO}(q:k≠.dget)(e:BT.kTx k ws h=aa (z,h')):∃ds d,aR ws h=aa ds/\BT.txD k ds=aa d/\z=.p d/\h'=h:=by
 have e:((aR ws h).bind λds=>(BT.txD k ds).map λd=>(aN.p d,h))=aa (z,h'):=by
  cases k with
  |dget=>exact bL rfl q|_=>exact e
 obtain⟨ds,e1,e2⟩:=Option.bind_eq_some_iff.mp e;obtain⟨d,D,B⟩:=dh e2;cases B;exact⟨ds,d,e1,D,rfl,rfl⟩
def MO{ds:List aM}{d:aM}(e:BT.txD .join ds=aa d):∃x ys ts,ds=[.str x,.aB ys]/\BT.strsOf ys=aa ts/\(ts.length<=4000/\x.length<=10/\∀t∈ts,t.length<=4000)/\d=.str (Str.join x ts):=by
 match ds,e with
 |[.str x,.aB ys],e =>
  obtain⟨ts,e1,e2⟩:=Option.bind_eq_some_iff.mp (show((BT.strsOf ys).bind λts=>if ts.length<=4000/\x.length<=10/\∀t∈ts,t.length<=4000 then aa (aM.str (Str.join x ts))else af)=aa d from e);obtain⟨c,q⟩:=dw e2;exact⟨x,ys,ts,rfl,e1,c,q.symm⟩
def KA{ds:List aM}{d:aM}(e:BT.txD .split ds=aa d):∃x y,ds=[.str x,.str y]/\(y.length=1/\x.length<=BT.lim)/\d=.aB ((Txt.split x y).map .str):=by
 match ds,e with
 |[.str x,.str y],e =>
  obtain⟨c,q⟩:=dw (show(if y.length=1/\x.length<=BT.lim then aa (aM.aB ((Txt.split x y).map .str))else af)=aa d from e);exact⟨x,y,rfl,c,q.symm⟩
def IV{w:aN}{h:aO}{x:ay}(e:aW w h=aa (.str x)):w=.p (.str x):=by
 cases w with
 |p d=>exact bR aN.p (RO e)|r n=>obtain⟨_,_,q⟩:=dh (show(bg h n).map aM.aB=aa (.str x) from e);cases q|_=>exact cU e
def By{w:aN}{ws:List aN}{h:aO}{ds:List aM}(e:aR (w::ws) h=aa ds):∃d r,ds=d::r/\aW w h=aa d/\aR ws h=aa r:=by
 cases g:aW w h with
 |none=>simp[aR,g]at e
 |some d =>
  cases q:aR ws h with
  |none=>simp[aR,g,q]at e|some r=>simp[aR,g,q]at e;exact⟨d,r,e.symm,rfl,rfl⟩
def ty_str{k:BT.Tx}(L:k≠.dget)(h:∀ds d,BT.txD k ds=aa d->∃x r,ds=.str x::r):TyX X "str" k:=by
 intro U s O H v W m x V Z r I B q e;obtain⟨ds,d,e1,e2,_,_⟩:=EG L e;obtain⟨y,r,rfl⟩:=h _ _ e2;obtain⟨a,Y,J,D,_⟩:=By e1;cases J;have M:=IV D;subst M;cases q with
 |p r =>
  cases r with
  |str _ ok =>
   obtain⟨t,rfl⟩:=B;exact⟨typeIs_str s y t,λ_ e=>nomatch e⟩
inductive rTx(P:Sb)(w:SH)(K:RB)(k:BT.Tx)(vs:List V)(H:Hp)(Q:VK):Prop
 |mk(m:List az)(h:aO)(ws:List aN)(z:aN)(h':aO)(R:RH K m H h)(q:RWs P w K m H vs ws)(e:BT.kTx k ws h=aa (z,h'))(p:Post P w K m H z h' Q):rTx P w K k vs H Q
def oTx(k:BT.Tx)(x y:aN)(h:aO):Option (aN×aO):=BT.kTx k [x,y] h
inductive GI(X:Cx)(m:List az)(H:Hp)(s:RI)(a:az)(o:Option aM)(k:Key):Prop
 |mk(vs:List (Key×aA))(dd:s.heap.DictOf (dF X.prog X.w) a vs)(n:(a==U4)=ai)(h:(o=af/\valueAt vs k=af)\/∃x v u,o=aa x/\valueAt vs k=aa u/\RelV v u/\RD X.K m H v x):GI X m H s a o k
def MP{m:List az}{H:Hp}{vs:List (Key×aA)}{k:ay}:∀{es:List (ay×V)}{kvs:List (ay×aM)},RDk K es kvs->KV (es.map λq=>((Sum.inr q.1:Key),q.2)) vs->(bF k kvs=af/\valueAt vs (Sum.inr k)=af)\/∃x v u,bF k kvs=aa x/\valueAt vs (Sum.inr k)=aa u/\RelV v u/\RD K m H v x:=by
 intro es
 induction es generalizing vs with
 |nil =>
  intro kvs r q;cases r;cases q;exact .inl ⟨rfl,rfl⟩
 |cons p es U =>
  intro kvs r q;cases r with
  |@cons x v dd _ kvs r t =>
   cases q with
   |@cons p z Z Y M L =>
    obtain⟨W,J⟩:=z;obtain⟨D,B⟩:=M;simp only at D B;subst D;rw[bF]
    by_cases c:k=x
    ·subst c;rw[bJ rfl];exact .inr ⟨dd,v,J,rfl,by simp[valueAt],B,r m H⟩
    ·rw[bK c];have O:¬((Sum.inr x:Key)=Sum.inr k):=λz=>c (Sum.inr.inj z).symm;have:=U t L;simp only[valueAt]at this⊢;rw[VE (by simpa using O)];exact this
noncomputable def kdG:BT.Kd->ay->Option aM
 |.t kvs,x=>bF x kvs|.l kvs,x=>bD kvs (.inr x)
def IW{zt:List (az×ao)}{σ:L2.St}{H:Hp}{s:RI}{m:List az}{q:BT.Kd}{v:V}{u:aA}(I:Inv X zt σ H s)(r:RW X.prog X.w X.K m H v (.k q))(O:RelV v u)(x:ay):
 ∃a,u=.ref a/\GI X m H s a (kdG q x) (.inr x):=by
 cases r with
 |@k a g J Z D =>
  cases O;obtain⟨b,B,Y,dd⟩:=Z;exact⟨a,rfl,B,dd s.heap I.kIn,b,MP D Y⟩
 |@kl a ob f J c D =>
  cases O;refine⟨a,rfl,?_⟩;cases uS I (.inr ⟨_,c.1⟩) D (.inr x)with
  |no B dd n M L=>exact⟨B,dd,n,.inl ⟨M,L⟩⟩|is B dd n y U W M L e d=>exact⟨B,dd,n,.inr ⟨y,U,W,M,L,e,d⟩⟩
def BA{x:aN}{ws:List aN}{h:aO}{z:aN}{h':aO}(e:BT.kTx .dget (x::ws) h=aa (z,h')):∃q y,x=.k q/\h'=h/\((ws=[.p .aD]/\z=.p .aD/\∃kvs,q=.t kvs)\/(ws=[.p (.str y)]/\z=.p ((kdG q y).getD .aD))\/∃d,ws=[.p (.str y),.p d]/\z=.p ((kdG q y).getD d)):=by
 have no:∀(o:Option (List aM)),(o.bind λB=>(BT.txD .dget B).map λd=>(aN.p d,h))=aa (z,h')->False:=by intro o e;obtain⟨B,_,e2⟩:=Option.bind_eq_some_iff.mp e;obtain⟨d,D,_⟩:=dh e2;exact cU (P:=False) (show(af:Option aM)=aa d from by rw[←D];unfold BT.txD;rfl)
 cases x with
 |k q =>
  cases q with
  |t kvs =>
   have e:BT.AA kvs ws h=aa (z,h'):=e;unfold BT.AA at e;split at e;cases e;exact⟨_,"",rfl,rfl,.inl ⟨rfl,rfl,_,rfl⟩⟩;cases e;exact⟨_,_,rfl,rfl,.inr (.inl ⟨rfl,rfl⟩)⟩;cases e;exact⟨_,_,rfl,rfl,.inr (.inr ⟨_,rfl,rfl⟩)⟩;exact cU e
  |l kvs =>
   have e:BT.uN kvs ws h=aa (z,h'):=e;unfold BT.uN at e;split at e;cases e;exact⟨_,_,rfl,rfl,.inr (.inl ⟨rfl,rfl⟩)⟩;cases e;exact⟨_,_,rfl,rfl,.inr (.inr ⟨_,rfl,rfl⟩)⟩;exact cU e
 |p d=>exact(no (aR (.p d::ws) h) e).elim|r n=>exact(no (aR (.r n::ws) h) e).elim|o n=>exact(no (aR (.o n::ws) h) e).elim|c f J=>exact(no (aR (.c f J::ws) h) e).elim|x c=>exact(no (aR (.x c::ws) h) e).elim
def ty_dict:TyX X "dict" .dget:=by intro U s O H v Y m x V Z r I D B e;obtain⟨z,c⟩:=r;obtain⟨q,y,rfl,_,_⟩:=BA e;obtain⟨a,rfl,W,dd,n,_⟩:=IW I B D y;refine⟨dd.typeIs,λb M=>?_⟩;cases M;obtain⟨o,d,f,L,J,_⟩:=dd;exact⟨o,L,J.2.1⟩
end
def oj:∀(ns:List Int),(Sy ns.length).map (λi=>ns.getD i 0)=ns:=by intro ns;refine List.ext_getElem (by simp) λi B q=>?_;simp only[Wy,List.getElem_range];rw[SL,RJ q];rfl
def EI(ns:List Int):T7 (λi=>ns.getD i 0) ns.length=bq ns:=by unfold T7;rw[oj];rfl
section
def EJ:∀{xs:List V}{us:List aA},xs.length=us.length->(∀(j:Nat) x u,xs[j]?=aa x->us[j]?=aa u->RelV x u)->dg xs us:=by
 intro xs
 induction xs with
 |nil =>
  intro us h _;cases us with
  |nil=>exact .nil|cons _ _=>simp at h
 |cons x xs B =>
  intro us h q;cases us with
  |nil=>simp at h|cons u us=>exact .cons (q 0 x u rfl rfl) (B (by simpa using h) λj a b e1 e2=>q (j+1) a b (by simpa using e1) (by simpa using e2))
def BB(O:Ok X F G sc N)(hu:fV N=ah)(hg:dJ sc "list"=ah)(g:dJ sc "range"=ah)(hs:noStar ex=ah)(hA:PA X [ex] (tDs X F G sa)):
 PE X (.Call (.Name "list" np) [.Call (.Name "range" zp) [ex] [] pos] [] p) (tD X F G (.lsr mu .rng1 sa)):=by
 intro C s A H Q I q;have q:=lA (as:=sa) (k:=λD h=>BT.kLs mu .rng1 D h) (λs h=>by simp only[aL]) q (R':=λZ M=>∃m h D z h',RH X.K m M h/\RWs X.prog X.w X.K m M Z D/\BT.kLs mu .rng1 D h=aa (z,h')/\Post X.prog X.w X.K m M z h' Q) λm h U z h' Z M R r e Y=>⟨m,h,U,z,h',R,r,e,Y⟩;refine Call_ (gH (u:=.type "list") I (dQ O hg) (O.blt _ (by decide)) (by decide +kernel) (Ss ?_ (cX rfl) rfl));rw[cX (show noStar (.Call (.Name "range" zp) [ex] [] pos)=ah from rfl)];show av _ _ (spliced ((ai,eval (.Call (.Name "range" zp) [ex] [] pos) X.env)::UW p (Sv [] X.env))) _ _ s;refine Vi (Call_ (gH (u:=.type "range") I (dQ O g) (O.blt _ (by decide)) (by decide +kernel) (Ss (thn (hA pos C s A H _ I q) λus s1 ⟨Z,M,I1,r1,q1⟩=>?_) (cX hs) rfl)));obtain⟨m,h,D,z,h',R,a,e,Y⟩:=q1;unfold BT.kLs at e;cases l:(aR D h).bind (BT.iR .rng1)with
 |none=>rw[l]at e;exact cU e
 |some W =>
  rw[l]at e;simp only at e
  by_cases cl:W.length<=BT.lim
  case neg=>rw[bK cl]at e;exact cU e
  rw[bJ cl]at e;have ez:BT.new mu W h=(z,h'):=RO e;obtain⟨U,e1,e2⟩:=Option.bind_eq_some_iff.mp l;have P:=fX R a e1;have hd:∃j:Int,U=[.int j]:=by
   match U,e2 with
   |[.int j],_=>exact⟨j,rfl⟩
  obtain⟨j,rfl⟩:=hd;rw[BT.jX]at e2;split at e2
  case isFalse=>exact cU e2
  rename_i c;simp only[RK,bM]at c;have ed:bH 0 j.toNat=W:=RO e2;obtain⟨v,rfl,r⟩:=P.one;cases r with
  |d r =>
   cases r;obtain⟨u,rfl,eu⟩:=vals1 r1;obtain⟨t,rfl⟩:=eu;refine call_range_1 (Vq ?_);refine call_list_range (s:={s1 with heap:=s1.heap.push {cls:=.type "range",data:=.fields #[.int 0 s1.toks,.int j t,.int 1 (s1.toks+1)]},toks:=s1.toks+1+1}) (I1.ok.hd (O.calm hu)) (IsRange.new ..) (small_one (by lia) (by lia) (by lia) (by lia)) (n:=j.toNat) (by rw[rangeSize_one];split<;>lia) (by lia) λy E L c' hk hS B=>?_;have S:W=((Sy j.toNat).map λ(k:Nat)=>(0:Int)+(k:Int)).map aM.int:=by rw[←ed,Ul];rfl
   have f:∀b u,s1.heap.get? b=aa u->y.get? b=aa u:=λb u q=>hk b u (RC _ q);have J:s1.heap.objs.size<=(s1.heap.push {cls:=.type "range",data:=.fields #[.int 0 s1.toks,.int j t,.int 1 (s1.toks+1)]}).objs.size:=by rw[SE];exact TF _
   have T:dg (((Sy j.toNat).map λ(k:Nat)=>(0:Int)+(k:Int)).map V.int) L.toList:=by
    refine EJ (by simp[B.1]) λi x u e1 e2=>?_;obtain⟨t',rfl⟩:=B.2 i u (by simpa using e2);have:x=.int (0+(i:Int)):=by
     rw[Ul,Sa]at e1;rcases R0 i j.toNat with z|z
     ·rw[Vf z]at e1;exact(RO e1).symm
     rw[RT (by simpa using z)]at e1;exact cU e1
    subst this;exact⟨t',by simp⟩
   have sl:aj=16777216:=Wo;refine⟨.ref _,_,I1.laid (h':=y) (t':=E) (o:=.aB (((Sy j.toNat).map λ(k:Nat)=>(0:Int)+(k:Int)).map V.int)) f J ⟨by rw[RX,RX,List.length_range];lia,L.toList,c',T,by simpa using hS⟩,rfl,?_⟩;refine mY (mu:=mu) R (I1.aJ.fresh J) (ly _) ?_;rw[←S,ez];exact Y
end
section
variable{F:FT}{G:ay->Option aN}
end
end BS
end
section
namespace BX
open PySem PyProof.Rows
def NX.keep{S:az}(N:NX w h it a ord i)(L:h.get? S=aa oS)(J:oS.cls=.type "list")(Y:a≠S)(k:∀b o,b≠S->h.get? b=aa o->h'.get? b=aa o):NX w h' it a ord i:=by
 obtain⟨o,f,g,t,first,V,hd,W,q,m⟩:=N.ex;refine⟨o,f,g,t,first,k _ _ Y V,hd,W,k _ _ (λz=>?_) q,?_⟩
 ·subst z;rw[L]at q;cases q;exact bL (show(Ur "set_iterator")=.type "list" from J) (by decide)
 ·cases m with
  |A D=>exact .A D
  |B Z U =>
   obtain⟨M,e,c,n,d⟩:=Z;refine .B ⟨M,k _ _ (λz=>?_) e,c,n,d⟩ U;subst z;rw[L]at e;cases e;rw[J]at c;exact bL c (by decide)
  |C D hd O=>exact .C D hd O
section
variable{prog:Sb}{w:SH}{A:TJ}{E:aA->RI->Prop}{s:RI}{R:XF->RI->Prop}
def BD(C:A.handled=af){B a S:az}{ord:List aA}{Z:ao}{es:Array (Int×aA)}{ep:Nat}{t:SetTable}{h₁:aq}(U:B≠a)(W:a≠S)(V:B≠S)(hn:ord.length<=aj)(G:h₁.get? a=aa Z)(hd:Z.data=.set es ep t)(x:ord.length=es.size)(res:aA)
(F:∀h' c,(∀b o,b≠S->b≠B->h₁.get? b=aa o->h'.get? b=aa o)->h'.get? S=aa {cls:=.type "list",dict:=af,data:=.seq ord.toArray c,slots:=#[]}->R (.ok (.ret res)) {s with heap:=h'}):
 ∀(k i:Nat)(h:aq)(c:Nat),ord.length-i=k->i<=ord.length->NX w h B a ord i->(∀b o,b≠S->b≠B->h₁.get? b=aa o->h.get? b=aa o) →
  h.get? S=aa {cls:=.type "list",dict:=af,data:=.seq (ord.take i).toArray c,slots:=#[]} →
  ak (R6 prog w) A (.builtin "list.extend.loop" ⟨[.ref S,.ref B,res],[]⟩) R {s with heap:=h}:=by
 intro k
 induction k with
 |zero =>
  intro i h c y z N q Y;have O:i=ord.length:=by lia
  refine codeAny_builtin Uw ?_;rw[To SD _];show av _ A.in1 (Vh (.ref B) >>= _) _ _ _;refine Rz (HE (s:={s with heap:=h}) (A:=A.in1) C N O (λo H I Q e1 e2=>?_) λh' j=>?_)
  ·have K:=q a Z W U.symm G;replace e1:h.get? a=aa o:=e1;rw[K]at e1;cases e1;rw[hd]at e2;cases e2;exact x
  ·subst O;rw[List.take_length]at Y;exact au (F h' c (λb o r g e=>j b o g (q b o r g e)) (j S _ V.symm Y))
 |succ k u =>
  intro i h c y z N q Y;have L:i<ord.length:=by lia
  have v:ord[i]?=aa ord[i]:=RJ L;refine codeAny_builtin Uw ?_;rw[To SD _];show av _ A.in1 (Vh (.ref B) >>= _) _ _ _;refine Rz (DQ (s:={s with heap:=h}) N U v λh' P p=>?_);have M:∀b o,b≠B->h.get? b=aa o->h'.get? b=aa o:=p.extBut;have D:=M S _ V.symm Y;have f:∀b o,b≠S->h'.get? b=aa o->(h'.update S (Ti (·.push ord[i]))).get? b=aa o:=λb o E e=>(SR _ _ (SM E)).trans e;have J:(ord.take i).toArray.size=i:=by simp;lia
  show av _ A.in1 (V3 S (·.push ord[i]) >>= _) _ _ _;refine Rz ?_;have n:(ord.take i).toArray.push ord[i]=(ord.take (i+1)).toArray:=by rw[List.push_toArray,List.take_append_getElem]
  obtain⟨d,hg⟩:∃d,(h'.update S (Ti (·.push ord[i]))).get? S=aa {cls:=.type "list",dict:=af,data:=.seq (ord.take (i+1)).toArray d,slots:=#[]}:=⟨_,by rw[←n];exact Sj (Ti (·.push ord[i])) D rfl⟩;exact Uc D rfl (au ⟨plainId_quiet SD _,u (i+1) _ d (by lia) L (P.keep D rfl W f) (λb o m l e=>f b o m (M b o l (q b o m l e))) hg⟩) (by rw[J];lia) (by show((ord.take i).toArray.push ord[i]).size<=aj+1;rw[Array.size_push,J];lia)
end
def EK:WX (.type "set") "__len__"=pure (aa (.builtin "set.__len__")):=by rw[V4,Va];kernel_rfl
section
variable{E:aA->RI->Prop}
def BE(B:s.TypeIs (.ref r) "set")(h:Q ai s):av (R6 prog w) A (UU (.ref r)) Q E s:=by
 unfold UU;refine Rz (Xx B EK ?_);generalize hid:("set.__len__":String)=id0
 wp_delta
 rw[show splitId id0=aa ("set","__len__") from by subst hid;decide +kernel];subst hid;refine Rz (UM (T:="set") (b:=ah) B (by rw[isSubtype_type];kernel_rfl) ?_);refine V1 (λq=>bL q (by decide)) (λ_=>?_);refine V1 (λ_=>?_) (λq=>bL (by decide +kernel) q);refine Rz (UR B ?_);exact au h
def uU{R:XF->RI->Prop}(v:A.handled=af){a S:az}{o:ao}{es:Array (Int×aA)}{ep:Nat}{t:SetTable}(Y:s.heap.get? a=aa o)(Z:o.ExactSet)(hd:o.data=.set es ep t)(x:t.fits es.size=ah)(J:es.size<U9)(r:Tb (w.params.followText "set-order") t)(O:a≠S)(res:aA)(L:Nat)(j:s.heap.get? S=aa {cls:=.type "list",data:=.seq #[] L})
(z:∀h' d (ord:List aA) c,(∀b o,b≠S->s.heap.get? b=aa o->h'.get? b=aa o)->ord.Perm (es.toList.map (·.2))->h'.get? S=aa {cls:=.type "list",dict:=af,data:=.seq ord.toArray c,slots:=#[]}->R (.ok (.ret res)) {s with heap:=h',drawn:=d}):
 av (R6 prog w) A.in1 (SS (.ref S) (.ref a) res)
  (λfin s'=>match fin with|.done f=>R (.ok f) s'|.again m=>m.quiet=ah/\ak (R6 prog w) A m R s') (λe s'=>R (.error e) s') s:=by
 have y:s.TypeIs (.ref a) "set":=⟨o,Y,Z.1⟩;have H:a<s.heap.objs.size:=RL Y;have Sl:S<s.heap.objs.size:=RL j;unfold SS;refine Rz (UR y ?_);have F:Us (.ref S) (.ref a)=ai:=by simp[Us,O.symm]
 have E:(Ur "set"==Ur "list")=ai:=by decide
 have C:(Ur "set"==Ur "tuple")=ai:=by decide
 simp only[F,E,C,U8,UP,if_false];refine Rz (Ak (s:=s) Y Z hd x J r λh₁ d p ord N V M u k=>?_);have n:ord.length=es.size:=by rw[k.length_eq,RX,So]
 have G:=U5 J;have W:∀(h:aq)(D:Nat),(∀b o,b≠S->h₁.get? b=aa o->h.get? b=aa o)->h.get? S=aa {cls:=.type "list",data:=.seq #[] D}->ak (R6 prog w) A (.builtin "list.extend.loop" ⟨[.ref S,.ref p,res],[]⟩) R {s with heap:=h,drawn:=d}:=by
  intro h D l q;refine BD (s:={s with drawn:=d}) (h₁:=h₁) (t:=t) v (SY (Se H M)) O (SY (Se Sl M)) (by lia) (V a o Y) hd n res (λh' c g i=>z h' d ord c (λb o J e=>g b o J (Si (Se (RL e) M)) (V b o e)) k i)
   ord.length 0 h D (Nat.sub_zero _) (SV _) (N.keep (V S _ j) rfl O l) (λb o J _ e=>l b o J e) (by simpa using q)
 have q:=V S _ j;refine Rz (SQ (BE (s:={s with heap:=h₁,drawn:=d}) ⟨o,V a o Y,Z.1⟩ ?_));refine V1 (λ_=>?_) (λ_=>au ⟨plainId_quiet SD _,W _ L (λb o _ e=>e) q⟩);refine Rz (Vk ?_);refine Rz ?_;show av _ _ (V3 S (·.push .none) >>= λ_=>V3 S (·.pop)) _ _ _;refine Rz (Uc q rfl ?_);have B:=Sj (Ti (·.push TL)) q rfl;refine Uc (hz:=by seq_fits) B rfl ?_;have U:=Sj (Ti (·.pop)) B rfl;refine au ⟨plainId_quiet SD _,W _ _ (λb o J e=>?_) U⟩;exact(SR _ _ (SM J)).trans ((SR _ _ (SM J)).trans e)
def tH(i:A.handled=af)(W:s.heap.get? a=aa o)(Z:o.ExactSet)(hd:o.data=.set es ep t)(j:t.fits es.size=ah)(k:es.size<U9)(c:Tb (w.params.followText "set-order") t)
(h:∀h' d ord,s.heap.objs.size<h'.objs.size->(∀b o,s.heap.get? b=aa o->h'.get? b=aa o)->ord.Perm (es.toList.map (·.2))->R ord {s with heap:=h',drawn:=d}):
 av (R6 prog w) A (collect (.ref a)) R E s:=by
 have g:a<s.heap.objs.size:=RL W;unfold collect;refine Rz (wpAny_runValue (codeAny_builtin PySem.F.entry_proto_collect ?_));rw[To PySem.F.plain_proto_collect _];show av _ A.in1 (newList [] >>= λl=>again (.builtin "list.__iadd__" ⟨[l,.ref a],[]⟩)) _ _ s;refine Rz (Su ?_);refine au ⟨plainId_quiet W5 _,codeAny_builtin PySem.F.entry_list_iadd ?_⟩;rw[To W5 _];have D:(s.heap.push {cls:=.type "list",data:=.seq ([]:List aA).toArray}).get? s.heap.objs.size=aa {cls:=.type "list",data:=.seq #[]}:=RM _ rfl;show av _ A.in1 (SS (.ref s.heap.objs.size) (.ref a) (.ref s.heap.objs.size)) _ _ _;have U:=uU (prog:=prog) (A:=A) (s:={s with heap:=s.heap.push {cls:=.type "list",data:=.seq ([]:List aA).toArray} })
  (R:=λ(q:XF) (O:RI)=>∃ (h':aq) (d:Drawn) (ord:List aA) (M:Nat),q=.ok (.ret (.ref s.heap.objs.size))/\O={ s with heap:=h',drawn:=d } ∧
   (∀ b o,s.heap.get? b=aa o->h'.get? b=aa o)/\ord.Perm (es.toList.map (·.2))/\h'.get? s.heap.objs.size=aa { cls:=.type "list",dict:=af,data:=.seq ord.toArray M,slots:=#[] })
  i (RC _ W) Z hd j k c (Si g) (.ref s.heap.objs.size) 0 D
  (λh' d ord M L J B=>⟨h',d,ord,M,rfl,rfl,λb o e=>L b o (Si (RL e)) (RC _ e),J,B⟩)
 refine Ue U (λfin O x=>?_) λe O x=>?_
 ·cases fin with
  |done f =>
   obtain⟨h',d,ord,M,e,rfl,L,J,B⟩:=x;cases e;show av _ A (load s.heap.objs.size >>= _) _ _ _;refine Rz (wpAny_load B ?_);refine au ?_;show R ord.toArray.toList _;exact h h' d ord (RL B) L J
  |again Y =>
   refine⟨x.1,codeAny_mono x.2 λq V y=>?_⟩;obtain⟨h',d,ord,M,rfl,rfl,L,J,B⟩:=y;show av _ A (load s.heap.objs.size >>= _) _ _ _;refine Rz (wpAny_load B ?_);refine au ?_;show R ord.toArray.toList _;exact h h' d ord (RL B) L J
 ·obtain⟨_,_,_,_,m,_⟩:=x;cases m
theorem wD:∀{vs:List aA},(∀v∈vs,∃k,WE k v=ah)->∃ks,Vp vs ks/\∀k,k∈ks↔∃v∈vs,WE k v=ah
 |[],_=>⟨[],.nil,λk=>by simp⟩
 |v::vs,h=>by
  obtain⟨k,D⟩:=h v RZ;obtain⟨ks,O,L⟩:=wD λu M=>h u (RP _ M);obtain⟨t,rfl⟩:=Yt D;refine⟨k::ks,.cons k t O,λj=>?_⟩;constructor
  ·intro J;rcases List.mem_cons.mp J with rfl|J
   exact⟨_,RZ,D⟩
   ·obtain⟨u,q,B⟩:=(L j).mp J;exact⟨u,RP _ q,B⟩
  ·rintro ⟨u,q,B⟩
   rcases List.mem_cons.mp q with rfl|q
   rw[Value.isInt_inj _ _ _ B D];exact RZ;exact RP _ ((L j).mpr ⟨u,q,B⟩)
theorem qc:∀{l ks:List Int},l.Nodup->(∀k∈l,k∈ks)->ks.length=l.length->l.Perm ks
 |[],ks,_,_,h=>by rw[List.length_eq_zero_iff.mp h]
 |x::l,ks,n,m,h=>by have q:=m x RZ;obtain⟨J,D⟩:=List.nodup_cons.mp n;have:=qc (l:=l) (ks:=ks.erase x) D (λk B=>(List.mem_erase_of_ne (a:=k) (b:=x) (λz=>J (by rw[←z];exact B))).mpr (m k (RP _ B))) (by rw[List.length_erase_of_mem q,h];simp);exact(this.cons x).trans (List.perm_cons_erase q).symm
theorem uV:∀(ns q:List Int),q.Nodup->(ns.foldl (fun σ v=>if σ.any (·==v)then σ else σ++[v]) q).Nodup
 |[],q,h=>h
 |n::ns,q,h=>by
  show(ns.foldl _ (if q.any (·==n)then q else q++[n])).Nodup
  by_cases c:q.any (·==n)=ah
  rw[bJ c];exact uV ns q h
  ·rw[bK c];refine uV ns _ (List.nodup_append.mpr ⟨h,by simp,λa D b B=>?_⟩);rw[List.mem_singleton.mp B];intro z;subst z;exact c (List.any_eq_true.mpr ⟨a,D,by simp⟩)
def yx(ns:List Int):(bq ns).Nodup:=uV ns [] VX
def yy(p:us.Perm vs)(h:Vp vs ks):∃B,Vp us B/\B.Perm ks:=by
 induction p generalizing ks with
 |nil=>exact⟨ks,h,.refl _⟩
 |cons x p O =>
  cases h with
  |cons n t h =>
   obtain⟨B,a,b⟩:=O h;exact⟨n::B,.cons n t a,b.cons n⟩
 |swap x y l =>
  cases h with
  |cons n t h =>
   cases h with
   |cons L M h=>exact⟨L::n::_,.cons L M (.cons n t h),.swap _ _ _⟩
 |trans p q J D =>
  obtain⟨W,a,b⟩:=D h;obtain⟨k2,V,U⟩:=J a;exact⟨k2,V,U.trans b⟩
def uW(y:A.handled=af)(u:o8 prog w (w.params.followText "set-order") s.heap a (λl=>(bq ns).any (·==l)) (bq ns).length)(G:(bq ns).length<64)
(F:∀h' d p out e,Vp out.toList (bG (bq ns))->(∀b o,s.heap.get? b=aa o->h'.get? b=aa o)->s.heap.objs.size<=p->h'.get? p=aa (seqObj "list" out e)->Q (.ref p) {s with heap:=h',drawn:=d}):
 av (R6 prog w) A (call (.builtin "sorted") [.ref a]) Q E s:=by
 obtain⟨o,I,S,t,x,hex,hd,M,C,Y,z,hn,r⟩:=u;have H:=U5 Y;refine BS.tG (tH (A:=A.in1) y x hex hd z Y r λh' d ord K Z J=>⟨by rw[J.length_eq,RX,So];lia,?_⟩);obtain⟨V,W,k2⟩:=wD (vs:=I.toList.map (·.2)) λv m=>by obtain⟨e,B,rfl⟩:=List.mem_map.mp m;obtain⟨⟨k,L,_⟩,_⟩:=M e B;exact⟨k,L⟩
 obtain⟨g,j,i⟩:=yy J W;have f:V.length=(bq ns).length:=by have:=Yd W;simp at this;lia
 have c:(bq ns).Perm V:=qc (yx ns) (λk L=>(k2 k).mpr (by
  obtain ⟨e,B,q⟩:=(C k).mp (List.any_eq_true.mpr ⟨k,L,by simp⟩);exact ⟨e.2,List.mem_map.mpr ⟨e,B,rfl⟩,q⟩)) f
 refine PyProof.Rows.list_sort_tree (RM _ rfl) j (by rw[J.length_eq,RX,So];lia) λout D R P N=>⟨_,rfl,?_⟩;obtain⟨e,B⟩:=PyProof.Rows.sortedHeap_at (h:=h'.push (seqObj "list" ord.toArray 0)) (a:=h'.objs.size) (vs:=ord) (n:=0) (out:=out) (RM _ rfl);have O:D=bG (bq ns):=X9 ((P.trans i).trans (c.symm.trans (bE _).symm)) N (BT.nM _);subst O;refine F _ d _ out e R (λb ob q=>?_) (Ub K) B;have U:=Z b ob q;have lt:=RL U;rw[PyProof.Rows.sortedHeap_old (Si lt) (by rw[SE];exact Wu lt)];exact RC _ U
end
end BX
namespace BS
open PySem PySem.Spec PyProof.Rows L2
def Inv.drew(I:Inv X zt σ H s):Inv X zt σ H {s with drawn:=d}:=⟨I.ok,I.os,I.bare,I.base,I.loc,I.cell,I.free,I.freeC,I.pin,I.aJ,I.len⟩
theorem uX:∀(ns q:List Int),(ns.foldl (fun σ v=>if σ.any (·==v)then σ else σ++[v]) q).length<=ns.length+q.length
 |[],q=>by simp
 |n::ns,q=>by
  show(ns.foldl _ (if q.any (·==n)then q else q++[n])).length<=_
  by_cases c:q.any (·==n)=ah
  ·rw[bJ c];have:=uX ns q;simp only[RY];lia
  ·rw[bK c];have:=uX ns (q++[n]);simp only[RY,Sh,SO]at this⊢;lia
section
def BH(O:Ok X F G sc N)(g:fV N=ah)(hg:dJ sc "sorted"=ah)(U:dJ sc "set"=ah)(K:noStar ex=ah)(hA:PA X [ex] (tDs X F G sa)):
 PE X (.Call (.Name "sorted" np) [.Call (.Name "set" zp) [ex] [] pos] [] p) (tD X F G (.bi .sset ai sa)):=by
 intro l s k H Q I q;have q:=iF q;refine Call_ (gH (u:=.builtin "sorted") I (dQ O hg) (O.blt _ (by decide)) (by decide +kernel) (VT ?_ (cX rfl) rfl));rw[cX (show noStar (.Call (.Name "set" zp) [ex] [] pos)=ah from rfl)];show av _ _ (spliced ((ai,eval (.Call (.Name "set" zp) [ex] [] pos) X.env)::UW p (Sv [] X.env))) _ _ s;refine Vi (Call_ (gH (u:=.type "set") I (dQ O U) (O.blt _ (by decide)) (by decide +kernel) (Ss (thn (hA pos l s k H _ I q) λus s1 ⟨vs,H1,I1,r1,q1⟩=>?_) (cX K) rfl)));obtain⟨m,h,ws,z,h',R,L,e,n⟩:=q1;obtain⟨j,d,e1,e2,⟨_,rfl,rfl⟩|⟨_,q,_⟩⟩:=gI e
 rotate_left
 exact aT q;have t:=fX R L e1;have hd:∃D,j=[.aB D]:=by
  match j,e2 with
  |[.aB D],_=>exact⟨D,rfl⟩
 obtain⟨D,rfl⟩:=hd;rw[BT.sM]at e2;obtain⟨ns,g1,J⟩:=Option.bind_eq_some_iff.mp e2
 by_cases c:ns.length<64
 rotate_left
 rw[bK c]at J;exact bI J;rw[bJ c]at J;cases J;obtain⟨v,rfl,r⟩:=t.one;obtain⟨a,vt,rfl,ha,ra⟩:=r.aB;rw[gq g1]at ra;have ev:=fY ra;subst ev;obtain⟨u,rfl,eu⟩:=vals1 r1;cases eu;obtain⟨B,f,w,hz⟩:=I1.list ha.sq;have T:=intsAre_of f;have x:=f.length;rw[RX]at x;have sz:B.toArray.size=ns.length:=by simp;lia
 refine BX.Ae (items:=B.toArray) (ns:=ns) (I1.ok.hd (O.calm g)) w.isList (by simpa using T) (by rw[sz];unfold U9;lia) λh2 Z W S=>?_;rw[sz,EI]at W;refine Vq ?_;have dl:=uX ns [];have Y:(bq ns).length<64:=by have:(bq ns).length<=ns.length+0:=dl;lia
 refine BX.uW (s:={s1 with heap:=h2,toks:=Z}) (ns:=ns) (I1.ok.hd (O.calm g)) W Y λh3 d p M e C k2 A y=>?_;have i:s1.heap.objs.size<=p:=by obtain⟨o,_,_,_,P,_⟩:=W;exact Sz (Ub (RL P)) A
 have E:=jV C;have sl:aj=16777216:=Wo;have l2:(bG (bq ns)).length=(bq ns).length:=(bE _).length_eq;exact⟨.ref _,_,Inv.drew (I1.laid (o:=.aB ((bG (bq ns)).map V.int)) (t':=Z) (λb u q=>k2 b u (S b u q)) i ⟨by rw[RX];lia,M.toList,e,E,y⟩),rfl,jd R (I1.aJ.fresh i) (ly _) n⟩
end
end BS
end
section
namespace BS
open PySem PySem.Spec PyProof.Rows L2
section
end
noncomputable def om(sc:Tu)(x:ay):Bool:=match sc.names.lookup x with
 |some .local=>ah|some .cell=>ah|_=>ai
inductive CTs(sc:Tu)(N:List ay):List (Nat×ay)->List RN->Prop
 |nil:CTs sc N [] []
 |cons{i:Nat}{x:ay}{p:Pos}{tg:List (Nat×ay)}{es:List RN}(h1:N[i]?=aa x)(h2:om sc x=ah)(r:CTs sc N tg es):CTs sc N ((i,x)::tg) (.Name x p::es)
inductive CT(sc:Tu)(N:List ay):List (Nat×ay)->RN->Prop
 |one{i:Nat}{x:ay}{p:Pos}(h1:N[i]?=aa x)(h2:om sc x=ah):CT sc N [(i,x)] (.Name x p)
 |aC{tg:List (Nat×ay)}{es:List RN}{p:Pos}{k:Nat}(q:Nat.ble 2 tg.length=ah)(h:CTs sc N tg es):CT sc N tg (.Tuple es k p)
section
def RS.set{K:RB}(S:RS P w K m H σ s)(r:RW P w K m H v z):RS P w K m H (σ.set i (aa v)) (s.set i (aa z)):=by
 refine⟨by simp[S.len],λj y e=>?_⟩
 by_cases c:i=j
 ·subst c;have B:i<s.length:=by
   rcases R0 i s.length with q|q
   exact q;rw[RT (by simpa using q)]at e;exact cU e
  rw[Sw B]at e;cases e;exact⟨v,by rw[Sw (by rw[S.len];exact B)],r⟩
 ·rw[Sg c]at e;obtain⟨u,J,D⟩:=S.get j y e;exact⟨u,by rw[Sg c];exact J,D⟩
def oq(O:Ok X F G sc N)(h:om sc x=ah):L2.Loc X.env.scope x:=by
 rw[O.hsc];unfold om at h;unfold L2.Loc;cases e:sc.names.lookup x with
 |none=>rw[e]at h;exact aT h
 |some k=>rw[e]at h;cases k<;>first|(exact .inl rfl)|(exact .inr rfl)|exact aT h
def wF(h:kD e=ah):∀x,foldedSetIterable e env x=pure x:=by intro x;cases e<;>first|rfl|exact aT h
def GOk(X:Cx)(tg:List (Nat×ay))(g:TG):Prop:=∀(m:List az)(H:Hp)(B:L2.St)(s:bx) (x:V) (d:aM) (D:List aM) (Q:L2.St->Hp->Prop),RS X.prog X.w X.K m H B s->RD X.K m H x d->bf tg.length d=aa D →
 (∀q,RS X.prog X.w X.K m H q (BT.sets tg D s)->Q q H)->g x B H Q
def P5(K:RB)(n:Nat)(t:TGs):TG:=λv B H Q=>∃a q,v=.ref a/\(SqT K H a q\/LL K H a q)/\q.length=n/\t q B H Q
def IX{X:Cx}{es:List RN}{k:Nat}{t:TGs}{n:Nat}{pos:Pos}(U:X.calm=ah)(h:PGs X es t)(hn:(UC es X.env).length=n)(q:(UC es X.env).findIdx? (·.1)=af):PG X (.Tuple es k pos) (P5 X.K n t):=by
 intro D s B H v u Q I r hw;obtain⟨a,M,rfl,L|L,O,hw⟩:=hw;exact G3 U h hn q D s B H _ u Q I r ⟨a,M,rfl,L,O,hw⟩
 ·cases r;obtain⟨z,J,f,V,Y,e⟩:=rdL I L;rw[assign_Tuple];refine Rz (WB ?_);unfold unpack;rw[hn,q];refine Rz (SQ ?_);have sz:n=J.toArray.size:=by rw[RG,←O];exact Y
  rw[sz];refine PySem.W.kun_itemsOf (I.ok.hd U) ⟨_,e,rfl,_,rfl⟩ λc Z=>?_;have d:Inv X D B H {s with heap:=c}:=I.aH (t':=s.toks) λb o e=>Z b o (Si (RL e)) e;exact h D _ B H M _ Q d (by simpa using V) hw
inductive GsO(X:Cx)(tg:List (Nat×ay))(es:List RN):Prop
 |mk(q:TGs)(h:PGs X es q)(hn:(UC es X.env).length=tg.length)(B:(UC es X.env).findIdx? (·.1)=af)
  (ok:∀(m:List az)(H:Hp)(σ:L2.St)(s:bx) (vs:List V) (ds:List aM) (Q:L2.St->Hp->Prop),RS X.prog X.w X.K m H σ s->RDs X.K m H vs ds->ds.length=tg.length->(∀σ',RS X.prog X.w X.K m H σ' (BT.sets tg ds s)->Q σ' H)->q vs σ H Q):GsO X tg es
def P6{X:Cx}{sc:Tu}{N:List ay}(O:Ok X F G sc N){tg:List (Nat×ay)}{es:List RN}(h:CTs sc N tg es)(M:∀q∈tg,X.fn q.2=ah\/X.env.scope.names.lookup q.2=aa .local):GsO X tg es:=by
 induction h with
 |nil =>
  refine⟨K6,Dn,rfl,rfl,λm H L s B J Q S r D q=>?_⟩;cases r with
  |nil=>exact⟨rfl,q _ S⟩|cons _ _=>cases D
 |@cons i x p tg es a Z r U =>
  obtain⟨b,Y,hn,V,ok⟩:=U λq W=>M q (RP _ W);refine⟨_,zu (vH (i:=i) O.nd (by rw[O.hN];exact a) (oq O Z) (M (i,x) (by simp))) Y,bR (·+1) hn,?_,λm H L s B J Q S r D q=>?_⟩
  ·show((ai,Xb (.Name x p) X.env)::UC es X.env).findIdx? (·.1)=af;rw[List.findIdx?_cons];show(if ai=ah then _ else _)=_;rw[bK (by decide),V];rfl
  ·cases r with
   |nil=>cases D|@cons v d B J ra t=>exact⟨v,B,rfl,ok m H (L.set i (aa v)) (s.set i (aa (.p d))) B J Q (S.set (.p ra)) t (Nat.succ.inj D) q⟩
def sCT(O:Ok X F G sc N)(W:X.calm=ah)(h:CT sc N tg te)(J:∀q∈tg,X.fn q.2=ah\/X.env.scope.names.lookup q.2=aa .local):∃g,PG X te g/\GOk X tg g:=by
 cases h with
 |@one i x p Y L =>
  refine⟨_,vH (i:=i) O.nd (by rw[O.hN];exact Y) (oq O L) (J (i,x) (by simp)),?_⟩;intro m H D s v d Z Q S r e q;simp only[RY,SO,Wx,BT.nN]at e;cases e;exact q _ (S.set (.p r))
 |@aC tg f p k U h =>
  obtain⟨b,V,hn,M,ok⟩:=P6 O h J;refine⟨_,IX (n:=tg.length) W V hn M,?_⟩;intro m H D s v d Z Q S r e q;have L:=X0 U;unfold bf at e;rw[bK (by lia)]at e;cases r with
  |@aC a B dd h r =>
   rw[BT.sO]at e;obtain⟨c,e⟩:=dw e;subst e;exact⟨a,B,rfl,.inl (h.elim (λq=>.inl q.1) λ⟨o,its,n,q,_⟩=>.inr ⟨o,its,n,q⟩),by rw[r.length];exact c,ok m H D s B _ Q S r c q⟩
  |@aB a B dd h r =>
   rw[BT.sN]at e;obtain⟨c,e⟩:=dw e;subst e;exact⟨a,B,rfl,.inr (h.elim (λq=>.inl q.1) .inr),by rw[r.length];exact c,ok m H D s B _ Q S r c q⟩
  |_=>exact cU e
end
end BS
end
section
namespace BC
open PySem
section
def yz{target:RN}(I:Nat->RI->Prop)
(turn:∀ n s,I n s->av (R6 prog w) A (Vh it) (λr B=>match r with
  |none=>R (.ok .next) B
  | some v=>av (R6 prog w) A (V5 target it v) (λ_ s₀=>av (R6 prog w) A (Xb target env v) (λ_ M =>
   av (R6 prog w) A (forIn ifs ah λc r=>if r=ah then do let ok ← isTrue c env (eval c env);pure (Vs ok) else pure (Vs r)) (λok q =>
    if ok=ah then av (R6 prog w) A (eval elt env) (λx L =>
     av (R6 prog w) A (call (.builtin "list.append") [acc,x]) (λ_ J=>∃ m,m < n/\I m J) (λ_ _=>False) L) (λ_ _=>False) q
    else ∃ m,m < n/\I m q) (λ_ _=>False) M) (λ_ _=>False) s₀) (λ_ _=>False) B) (λ_ _=>False) s)
(n:Nat)(h:I n s):ak (R6 prog w) A (.compLoop (.ListComp elt [⟨target,iter,ifs,0⟩] scope pos) 0 it acc env) R s:=by
 refine codeAny_loop rfl I (λn s a=>?_) n h;show av _ A ((compTurn (.ListComp elt [⟨target,iter,ifs,0⟩] scope pos) 0 it acc env).onRaise (λx=>do noteFrame x env;theTreesLotGoes x)) _ _ s;refine wpAny_noted ?_;rw[compTurn_list];refine Rz (WB (Rz (Ue (turn n s a) (λr B U=>?_) λ_ _ D=>D.elim)));cases r with
 |none=>exact au U
 |some v =>
  refine Rz (Ue U (λ_ s₀ V=>?_) λ_ _ D=>D.elim);refine Rz (Ue V (λ_ M Z=>Rz (Ue Z (λok q O=>?_) λ_ _ D=>D.elim)) λ_ _ D=>D.elim);cases ok with
  |false=>exact au ⟨rfl,O⟩
  |true =>
   exact Rz (Rz (Ue O (λx L Y=>Rz (Ue Y (λ_ J W=>au (au ⟨rfl,W⟩)) λ_ _ D=>D.elim)) λ_ _ D=>D.elim))
end
noncomputable def iZ(cells:List (ay×az)):List (ay×UY)->List (ay×az)->List (ay×az)
 |[],acc=>acc
 |(n,k)::r,acc=>if k==.free then(match cells.lookup n with|some c=>iZ cells r ((n,c)::acc)|none=>iZ cells r acc)else iZ cells r acc
def uY(cells:List (ay×az))(names:List (ay×UY)):Prop:=∀x∈names,x.2=.free->∃c,cells.lookup x.1=aa c
theorem oz:∀(names:List (ay×UY)) (q:List (ay×az)),uY env.cells names →
 (forIn names q λx (r:List (ay×az))=>(if x.2==.free then do let c ←cellOf env x.1;pure (Vs ((x.1,c)::r))else pure (Vs r):Sem (ForInStep (List (ay×az)))))=pure (iZ env.cells names q)
 |[],q,_=>rfl
 |(n,k)::r,q,h=>by
  have B:=λq=>oz (env:=env) r q λx D=>h x (RP _ D);rw[VM]
  by_cases c:k=.free
  ·subst c;obtain⟨a,e⟩:=h (n,.free) RZ rfl;have e:env.cells.lookup n=aa a:=e;simp only[iZ,e];show(cellOf env n >>= _) >>= _=_;unfold cellOf;rw[e];exact B _
  ·have J:(k==TN)=ai:=by simpa using c
   simp only[iZ,J];exact B _
def lX{q B:Type}{m m':Sem q}{f:q->Sem B}(h:m=m'):(m >>= f)=(m' >>= f):=by rw[h]
def uZ{q:Tu}{env:Env}(h:uY env.cells q.names):closureFor q env=pure (iZ env.cells q.names []):=by have:=oz (env:=env) q.names [] h;unfold closureFor;exact(lX this).trans rfl
theorem q9:∀{names:List (ay×UY)}{B:List (ay×az)},(∀x c,B.lookup x=aa c->cells.lookup x=aa c)->∀x c,(iZ cells names B).lookup x=aa c->cells.lookup x=aa c
 |[],B,h,x,c,e=>h x c e
 |(n,k)::r,B,h,x,c,e=>by
  rw[iZ]at e;split at e
  ·split at e
   ·rename_i a J;refine q9 (λy b q=>?_) x c e;rw[T3]at q;split at q
    ·rename_i D;have:y=n:=by simpa using D
     subst this;cases q;exact J
    exact h y b q
   exact q9 h x c e
  exact q9 h x c e
theorem m6:∀{names:List (ay×UY)}{q:List (ay×az)},(∃c,q.lookup x=aa c)->∃c,(iZ cells names q).lookup x=aa c
 |[],q,h=>h
 |(n,k)::r,q,h=>by
  rw[iZ];split
  ·split
   ·refine m6 ?_;rw[T3];split;exact⟨_,rfl⟩;exact h
   exact m6 h
  exact m6 h
theorem rf:∀{names:List (ay×UY)}{B:List (ay×az)},(x,TN)∈names->(∃c,cells.lookup x=aa c)->∃c,(iZ cells names B).lookup x=aa c
 |[],B,h,_=>nomatch h
 |(n,k)::r,B,h,q=>by
  rw[iZ];rcases List.mem_cons.mp h with e|e
  ·cases e;obtain⟨c,D⟩:=q;rw[bJ (by rfl),D];refine m6 ?_;exact⟨c,by simp⟩
  ·split
   ·split;exact rf e q;exact rf e q
   exact rf e q
end BC
end
section
namespace BS
open PySem PySem.Spec PyProof.Rows L2
variable{cond:aY}
def oA(F:FT)(G:ay->Option aN)(sc:Tu)(N:List ay)(cond:aY)(q:List RN):Prop :=
 (cond=.nil/\q=[])\/∃c D,cond=.cons c .nil/\q=[D]/\∀B,Ok B F G sc N->PT B D (tDT B F G c)
structure tK(sc:Tu)(N tg:List ay)(fv:List (Nat×ay))(scope:Tu):Prop where
 k1:scope.kind=.function
 k2:sc.kind=.function
 cell:∀y∈scope.names,y.2≠.cell
 loc:∀y∈scope.names,y.2=.local->scope.names.lookup y.1=aa .local
 free:∀y∈scope.names,y.2=.free->sc.names.lookup y.1=aa .cell
 fvs:∀q∈fv,N[q.1]?=aa q.2/\(q.2,TN)∈scope.names/\sc.names.lookup q.2=aa .cell/\(d8 scope sc).names.lookup q.2=aa .cell
 nd:(tg++fv.map (·.2)).Nodup
theorem qd:∀{l:List ay},nU l=ah->l.Nodup
 |[],_=>VX
 |x::r,h=>by simp only[nU,RK,Wl]at h;refine List.nodup_cons.mpr ⟨λz=>?_,qd h.2⟩;have:=h.1;simp[z]at this
def MQ(h:kE sc N tg fv scope=ah):tK sc N tg fv scope:=by
 simp only[kE,RK]at h;obtain⟨⟨⟨⟨⟨⟨W,V⟩,M⟩,L⟩,J⟩,D⟩,U⟩:=h;rw[Ug]at M L J D;refine⟨bQ W,bQ V,λy B e=>?_,λy B e=>?_,λy B e=>?_,λq O=>?_,qd U⟩
 ·have:=M y B;rw[e]at this;simp at this
 ·have:=L y B;rw[e]at this;simpa using this
 ·have:=J y B;rw[e]at this;simpa using this
 ·have:=D q O;simp only[RK]at this;obtain⟨⟨⟨a,b⟩,c⟩,d⟩:=this;exact⟨by simpa using a,by simpa using b,by simpa using c,by simpa using d⟩
theorem kF{sc:Tu}{x:ay}{k:UY}(M:k=.cell\/k=.free):∀{names:List (ay×UY)},(∀y∈names,y.2≠.cell) →
 (names.map λ(n,k)=>if(k==TN&&sc.kind==.function&&sc.names.lookup n==aa .cell)then(n,VV)else(n,k)).lookup x=aa k->(x,TN)∈names
 |[],_,h=>by simp at h
 |(n,q)::r,hc,h=>by
  have U:=kF (sc:=sc) (x:=x) M (names:=r) λy V=>hc y (RP _ V);replace h:UF x ((if(q==TN&&sc.kind==.function&&sc.names.lookup n==aa .cell)=ah then(n,VV)else(n,q))::(r.map λ(n,k)=>if(k==TN&&sc.kind==.function&&sc.names.lookup n==aa .cell)then(n,VV)else(n,k)))=aa k:=h;have O:∀(B:UY),(B=q\/(B=.cell/\q=.free))->UF x ((n,B)::(r.map λ(n,k)=>if(k==TN&&sc.kind==.function&&sc.names.lookup n==aa .cell)then(n,VV)else(n,k)))=aa k->(x,TN)∈(n,q)::r:=by
   intro B W D;rw[T3]at D;split at D
   ·rename_i J;have J:x=n:=by simpa using J
    subst J;have e:B=k:=RO D;have L:q=.free:=by
     rcases W with rfl|⟨_,e2⟩
     ·rcases M with z|z
      exact bL (e.trans z) (hc (x,B) RZ);exact e.trans z
     exact e2
    rw[L];exact RZ
   exact RP _ (U D)
  by_cases c:(q==TN&&sc.kind==.function&&sc.names.lookup n==aa .cell)=ah
  ·rw[bJ c]at h;refine O .cell (.inr ⟨rfl,?_⟩) h;simp only[RK]at c;exact bQ c.1.1
  ·rw[bK c]at h;exact O q (.inl rfl) h
def blk(X:Cx)(B:List ay)(s2:RI)(H1:Hp)(q:Tu)(C:az)(fp:List az):Cx :=
 {X with N:=B,s₀:=s2,H₀:=H1,env:=Yo q (BC.iZ X.env.cells q.names []) C X.env,outer:=X.stack,stack:=X.stack,ex:=fp,fn:=λ_=>ai,pn:=[],xe:=λ_ _=>False}
section
variable{X:Cx}{F:FT}{G:ay->Option aN}{sc:Tu}{N:List ay}{zt:List (az×ao)}{σ:L2.St}{H1:Hp}{s2:RI}
def mG{q:Tu}{x:ay}{c:az}(e:(BC.iZ X.env.cells q.names []).lookup x=aa c):X.env.cells.lookup x=aa c :=
 BC.q9 (λ_ _ z=>by simp at z) x c e
def tL(q:X.env.scope=sc)(x:ay):(Yo scope (BC.iZ X.env.cells scope.names []) C X.env).kindOf x=(d8 scope sc).names.lookup x:=by subst q;rfl
def wG(J:Inv X zt σ H1 s2)(q:X.env.scope=sc)(D:tK sc N tg fv scope)(B:(x,TN)∈scope.names):∃c,(BC.iZ X.env.cells scope.names []).lookup x=aa c:=by refine BC.rf B (J.ok.has x (.inl ?_));have:=D.free _ B rfl;rw[←q]at this;exact this
theorem IY(B:Inv X zt σ H1 s2)(J:X.env.scope=sc){scope:Tu}{tg:List ay}{Y:List (Nat×ay)}(M:tK sc N tg Y scope){Z:List ay}{C:az}{fp:List az}(V:C=s2.heap.objs.size+1)
(L:∀b∈fp,oZ X zt H1 b)(U:∀b∈fp,b<s2.heap.objs.size):(blk X Z s2 H1 scope C fp).Ok where
 mod:=B.ok.mod
 kind:=M.k1
 glob:=B.ok.glob
 blt:=B.ok.blt
 above:=by show s2.heap.objs.size<=C;rw[V];exact TF _
 inj:=λx y c a b=>B.ok.inj x y c (mG a) (mG b)
 has:=λx W=>by
  refine wG B J M ?_;have O:(d8 scope sc).names.lookup x=aa .cell\/(d8 scope sc).names.lookup x=aa .free:=by rw[←tL J (C:=C)];exact W
  rcases O with e|e
  exact kF (.inl rfl) M.cell e;exact kF (.inr rfl) M.cell e
 cab:=λx c z=>by cases z
 hd:=B.ok.hd
 frames:=B.ok.frames
 stk:=.inl rfl
 exf:=λb D=>⟨λz=>by have l:=U b D;have z:b=C:=z;rw[z,V]at l;exact bL l (Nat.not_lt.mpr (TF _)),λx c e=>(L b D).2.2.2.2.1 x c (mG e)⟩
 bs:=B.bs
 bsz:=Sz B.ok.bsz B.sz
 noex:=λb o e D=>by
  have q:=(B.ok.bs b o e).1;rcases (L b D).2.2.2.1 with z|z
  exact B.ok.noex b o e z;exact bL (RL q) (Nat.not_lt.mpr z)
 exfs:=λb D z=>by
  rcases List.mem_cons.mp (B.qw b z)with e|e
  exact(L b D).2.1 e;exact(L b D).2.2.1 e
 kK:=B.stack
 frf:=B.vF
end
noncomputable def lobj(us:List aA)(n:Nat):ao:={cls:=.type "list",data:=.seq us.toArray n}
section
variable{X:Cx}{F:FT}{G:ay->Option aN}{sc:Tu}{N:List ay}{zt:List (az×ao)}{σ:L2.St}{H1:Hp}{s2:RI}
noncomputable def kG(n:Nat)(σ:L2.St)(B:List (Nat×ay)):L2.St:=Sd n af++B.map λq=>(σ[q.1]?).getD af
theorem EL(D:Inv X zt σ H1 s2)(B:X.env.scope=sc)(s:X.N=N)(Z:tK sc N tg fv scope)(W:C=s2.heap.objs.size+1)
(r:∀b∈fp,oZ X zt H1 b)(U:∀b∈fp,b<s2.heap.objs.size)(J:∀b o,s2.heap.get? b=aa o->h1.get? b=aa o)(O:h1.Ns C m)(t:h1.get? s2.heap.objs.size=aa (lobj [] 0)):
 Inv (blk X (tg++fv.map (·.2)) s2 H1 scope C fp) [(s2.heap.objs.size,lobj [] 0)] (kG tg.length σ fv) H1 {s2 with heap:=h1,toks:=tk} where
 ok:=IY D B Z W r U
 os:=rfl
 bare:=D.bare
 base:=Un.aH J
 loc:=by
  refine⟨m,O,λi x v e1 e2 F=>?_⟩;have e1:(tg++fv.map (·.2))[i]?=aa x:=e1;unfold kG at e2
  by_cases c:i<tg.length
  ·rw[RE (by simpa using c),UO,bJ c]at e2;cases e2
  ·rw[SB (by simpa using c)]at e2;rw[SB (by simpa using c)]at e1;simp only[UZ,Sa]at e1 e2;cases g:fv[i-tg.length]? with
   |none=>rw[g]at e1;exact cU e1
   |some q =>
    rw[g]at e1 e2;simp only[VB,Vc]at e1 e2;subst e1;obtain⟨A,y,d,w⟩:=Z.fvs q (RU g);have Y:σ[q.1]?=aa (aa v):=by
     cases a:σ[q.1]? with
     |none=>rw[a]at e2;exact cU e2|some o=>rw[a]at e2;simp only[Yw]at e2;rw[e2]
    obtain⟨E,n,V⟩:=D.loc;obtain⟨u,f,h⟩:=V q.1 q.2 v (by rw[s];exact A) Y (by rw[B];exact .inr (.inl d));refine⟨u,f,?_⟩;have j:X.env.kindOf q.2=aa .cell:=by show X.env.scope.names.lookup q.2=_;rw[B];exact d
    rcases h with⟨k,_⟩|⟨k,c,ec,o,L,hd⟩
    rw[j]at k;cases k
    ·obtain⟨G,M⟩:=wG D B Z y;have:=mG M;rw[ec]at this;cases this;refine .inr ⟨.inl ?_,c,M,o,J c o L,hd⟩;show(Yo scope (BC.iZ X.env.cells scope.names []) C X.env).kindOf q.2=_;rw[tL B];exact w
 cell:=λx c e=>by obtain⟨v,o,L,hd⟩:=D.cell x c (mG e);exact⟨v,o,J c o L,hd⟩
 free:=D.aJ.fresh (by show s2.heap.objs.size<=C;rw[W];exact TF _)
 freeC:=λx c e=>D.freeC x c (mG e)
 pin:=λp l=>by
  have e:p=(s2.heap.objs.size,lobj [] 0):=by have:p∈[]++[(s2.heap.objs.size,lobj [] 0)]:=l;simpa using this
  subst e;refine⟨t,D.aJ.fresh (RQ _),?_,?_,λv z=>by cases (show Data.seq _ _=Data.cell v from z)⟩
  ·show s2.heap.objs.size≠C;rw[W];exact Si (T4 _)
  ·intro z;obtain⟨_,o,L,_⟩:=D.stack.mem z;exact bL (RL L) (Te _)
 aJ:=D.aJ.aH J
 len:=by show(kG tg.length σ fv).length=(tg++fv.map (·.2)).length;simp[kG]
end
noncomputable def tgF:Nat->List ay->List (Nat×ay)
 |_,[]=>[]|k,x::r=>(k,x)::tgF (k+1) r
noncomputable abbrev tgI(tg:List ay):List (Nat×ay):=tgF 0 tg
theorem rj:∀(tg:List ay)(k:Nat),(tgF k tg).length=tg.length
 |[],_=>rfl|_::r,k=>bR (·+1) (rj r (k+1))
theorem wH{q:Nat×ay}:∀{tg:List ay}{k:Nat},q∈tgF k tg->q.2∈tg
 |x::r,k,h=>by
  rcases List.mem_cons.mp h with rfl|h
  exact RZ;exact RP _ (wH h)
def wI(h:nmE te=aa x):∃p,te=.Name x p:=by
 cases te with
 |Name y p=>cases h;exact⟨p,rfl⟩|_=>exact bL (show(af:Option ay)=aa _ from h) (λz=>nomatch z)
def BI(h:Im te=a::l):∃k p,te=.Tuple (a::l) k p:=by
 cases te with
 |Tuple q k p=>cases h;exact⟨k,p,rfl⟩|_=>exact bL (show([]:List RN)=_::_ from h) (λz=>nomatch z)
theorem BJ{sc:Tu}{fs:List ay}:∀(tg:List ay){pre:List ay}{es:List RN},tg.map aa=es.map nmE->(∀x∈tg,om sc x=ah)->CTs sc (pre++(tg++fs)) (tgF pre.length tg) es
 |[],pre,es,e,_=>by
  cases es with
  |nil=>exact .nil|cons _ _=>cases e
 |x::r,pre,es,e,h=>by
  cases es with
  |nil=>cases e
  |cons a es =>
   obtain⟨p,rfl⟩:=wI (Xr e).symm;have q:=BJ (fs:=fs) r (pre:=pre++[x]) (List.tail_eq_of_cons_eq e) λy B=>h y (RP _ B);rw[SZ,Sh]at q;exact .cons (by simp) (h x RZ) q
def EM(h:sV sc tg te=ah):CT sc (tg++fs) (tgI tg) te/\(tgI tg).length=tg.length/\∀q∈tgI tg,sc.names.lookup q.2=aa .local:=by
 have st:∀{x:ay},sc.names.lookup x=aa .local->om sc x=ah:=λe=>by unfold om;rw[e]
 unfold sV at h;rw[RK,Uq,RK,Ug]at h;obtain⟨h,J⟩:=h;have lo:∀{x},x∈tg->sc.names.lookup x=aa .local:=λ{x} B=>bQ (J x B);rcases h with h|⟨h1,h2⟩
 ·have e:=bQ h;cases tg with
  |nil=>exact bL (bR WR e) (by simp)
  |cons x r =>
   cases r with
   |cons _ _=>exact bL (bR WR e) (by simp)
   |nil =>
    obtain⟨p,rfl⟩:=wI (Xr e).symm;have l:sc.names.lookup x=aa .local:=lo RZ;exact⟨.one rfl (st l),rfl,λq D=>by rw[List.mem_singleton.mp D];exact l⟩
 ·have e:=bQ h2;cases g:Im te with
  |nil=>rw[g]at e;cases tg with
   |nil=>exact aT h1|cons _ _=>cases e
  |cons a l =>
   rw[g]at e;obtain⟨k,p,rfl⟩:=BI g;exact⟨.aC (by rw[rj];exact h1) (BJ (pre:=[]) tg e λx B=>st (lo B)),rj _ _,λq D=>lo (wH D)⟩
theorem wJ:∀(tg:List ay)(k:Nat)(ds:List aM)(q:bx),ds.length=tg.length->k+tg.length<=q.length->BT.sets (tgF k tg) ds q=q.take k++(ds.map BT.gn++q.drop (k+tg.length))
 |[],k,ds,q,h,_=>by cases List.length_eq_zero_iff.mp h;exact(List.take_append_drop k q).symm
 |x::r,k,ds,q,h,hl=>by
  cases ds with
  |nil=>cases h
  |cons d ds =>
   rw[RY]at hl;have kl:k<q.length:=by lia
   show BT.sets (tgF (k+1) r) ds (q.set k (aa (.p d)))=_;rw[wJ r (k+1) ds _ (Nat.succ.inj h) (by rw[Td];lia),List.drop_set_of_lt (by lia),List.take_succ,Sw kl,List.take_set,List.set_eq_of_length_le (by rw[Vz];lia),SZ,show k+1+r.length=k+(x::r).length by rw[RY];lia];rfl
def u0{n:Nat}{d:aM}{ds:List aM}(h:bf n d=aa ds):ds.length=n:=by
 unfold bf at h
 by_cases c:n=1
 rw[bJ c]at h;cases h;exact c.symm
 ·rw[bK c]at h;cases d with
  |aC q=>rw[BT.sO]at h;obtain⟨c,h⟩:=dw h;rw[←h];exact c|aB q=>rw[BT.sN]at h;obtain⟨c,h⟩:=dw h;rw[←h];exact c|_=>exact cU h
def EN(h:(tgI tg).length=tg.length)(J:tg≠[])(hd:bf tg.length d0=aa ds)(D:sl.length=tg.length+fs.length)(B:sl.drop tg.length=fs):
 BT.sets (tgI tg) ds sl=ds.map BT.gn++fs/\(ds.map BT.gn++fs).length=tg.length+fs.length/\(ds.map BT.gn++fs).drop tg.length=fs:=by
 have hn:=u0 hd;have g:=wJ tg 0 ds sl hn (by lia);rw[Wx,B]at g;have q:(ds.map BT.gn).length=tg.length:=by rw[RX];exact hn
 exact⟨g,by rw[Sh,q],by rw[←q];exact List.drop_left⟩
theorem lY:∀{B:List (Nat×ay)}{fs:bx},BT.frees s B=aa fs->fs.length=B.length/\∀(i:Nat)(q:Nat×ay),B[i]?=aa q->fs[i]?=s[q.1]?
 |[],fs,e=>by simp[BT.frees]at e;subst e;exact⟨rfl,λi q z=>by simp at z⟩
 |q::r,fs,e=>by
  simp only[BT.frees]at e;cases g:s[q.1]? with
  |none=>rw[g]at e;exact cU e
  |some w =>
   rw[g]at e;obtain⟨L,e1,e2⟩:=dh e;subst e2;obtain⟨J,D⟩:=lY e1;refine⟨by simp[J],λi p z=>?_⟩;cases i with
   |zero=>simp at z;subst z;simp[g]|succ i=>simpa using D i p (by simpa using z)
def yC{K:RB}(S:RS P w K m H σ s)(J:BT.frees s fv=aa fs):RS P w K m H (kG n σ fv) (Sd n af++fs):=by
 obtain⟨q,L⟩:=lY J;refine⟨by simp[kG,q],λi y e=>?_⟩
 by_cases c:i<n
 ·rw[RE (by simpa using c),UO,bJ c]at e;cases e
 ·rw[SB (by simpa using c)]at e;simp only[UZ]at e;have D:i-n<fv.length:=by
   rw[←q];rcases R0 (i-n) fs.length with z|z
   exact z;rw[RT z]at e;exact cU e
  have g:=RJ D;rw[L _ _ g]at e;obtain⟨v,B,r⟩:=S.get _ _ e;refine⟨v,?_,r⟩;unfold kG;rw[SB (by simpa using c)];simp only[UZ,Sa,g,VB,B,Yw]
def EO{rest:List aM}(e:BT.eH f n (d::r) h=aa (rest,h2)):
 ∃xs o B q,bf n d=aa xs/\f xs h=aa (o,B)/\BT.eH f n r B=aa (q,h2)/\rest=(match o with|some x=>x::q|none=>q):=by
 rw[BT.eH]at e;cases g:bf n d with
 |none=>rw[g]at e;exact cU e
 |some xs =>
  rw[g]at e;obtain⟨o,B,e1,e2⟩:=cY e;unfold BT.DW at e2;obtain⟨q,L,J,D⟩:=cY e2;unfold BT.vU at D;cases D;exact⟨xs,o,B,q,rfl,e1,J,rfl⟩
theorem Un.behind(u:Un fs ex H H' h h1)(a:∀b,b<h.objs.size->H2 b=H' b)(lt:∀b o,H b=aa o->b<h.objs.size)(k:∀b o,b<h.objs.size->h1.get? b=aa o->h2.get? b=aa o):Un fs ex H H2 h h2 where
 keep:=λb o e n c d=>k b o (RL e) (u.keep b o e n c d)
 slot:=λb o e n c d=>by obtain⟨J,q⟩:=u.slot b o e n c d;exact⟨J,k b _ (RL e) q⟩
 free:=λb o e n d=>by rw[a b (RL e)];exact u.free b o e n d
 there:=λb o e d=>by obtain⟨B,q⟩:=u.there b o e d;exact⟨B,k b B (RL e) q⟩
 tups:=λb D e=>by rw[a b (lt b _ e)];exact u.tups b D e
 frzs:=λb o w e=>by rw[a b (lt b _ e)];exact u.frzs b o w e
 tbls:=λb L e=>by rw[a b (lt b _ e)];exact u.tbls b L e
section
theorem IZ(O:Ok X F G sc N)(hu:fV N=ah)(q:tK sc N tg fv scope):
 Ok (blk X (tg++fv.map (·.2)) s2 H1 scope C fp) F G (d8 scope sc) (tg++fv.map (·.2)) where
 hsc:=by have:=O.hsc;subst this;rfl
 hN:=rfl
 nd:=q.nd
 calm:=λ_=>O.calm hu
 hu:=O.hu
 own:=XZ
 glob:=O.glob
 call:=O.call
 aF:=O.aF
 mkc:=O.mkc
 blt:=O.blt
 lam:=O.lam
 lamx:=λh=>bL (show ai=ah from h "") (by decide)
def BK(e:BT.nP mu sr n (aa fs) ec ee ws h=aa z)(g:(aR ws h).bind (BT.iR sr)=aa ds):
 wB sr ws/\∃M,(∀xs h r,M xs h=aa r->BT.iC ec ee fs xs h=aa r/\qZ ws ds r.2)/\qZ ws ds h/\bB (BT.eH M n ds h) (BT.iW mu)=aa z:=by
 unfold BT.nP at e;rw[g]at e;simp only at e
 by_cases B:BT.jb ws=ah
 ·rw[bJ B]at e;exact⟨.inl B,_,λxs h r q=>⟨q,oi B⟩,oi B,e⟩
 ·rw[bK B]at e;have two:sr=.seq/\∃q,ws=[.r q]:=by unfold BT.uM at e;split at e;exact⟨rfl,_,rfl⟩;exact cU e
  obtain⟨rfl,q,rfl⟩:=two;rw[BT.Aw]at e;have U:bg h q=aa ds:=by
   simp only[aR,aW,VB]at g;cases L:bg h q with
   |none=>rw[L]at g;exact cU g|some xs=>rw[L]at g;cases g;rfl
  refine⟨.inr ⟨rfl,q,rfl⟩,_,λxs h r q=>?_,λO D=>by cases D;exact U,e⟩;unfold BT.chk at q;cases J:BT.iC ec ee fs xs h with
  |none=>rw[J]at q;exact cU q
  |some V =>
   rw[J]at q;simp only at q;split at q
   ·rename_i c;cases q;exact⟨rfl,λO D=>by cases D;exact c⟩
   exact cU q
inductive LI(X:Cx)(F:FT)(G:ay->Option aN)(scope:Tu)(tg:List ay)(fv:List (Nat×ay))(cond:aY)(elt:aU)(s2:RI)(H1:Hp)(C:az)(fp:List az)(tn:Nat->aq->Prop)(m1:List az)(ds outs:List aM)(fs:bx)(h2:aO)(f':List aM->aO->Option (Option aM×aO))(Cc:aO->Prop)(n:Nat)(s:RI):Prop
 |mk(i:Nat)(D:L2.St)(H':Hp)(m':List az)(q:aO)(out rest:List aM)(vs:List V)(us:List aA)(W:Nat)(B:bx)(p0:i<=ds.length)(p1:n=ds.length-i)(p2:Inv (blk X (tg++fv.map (·.2)) s2 H1 scope C fp) [(s2.heap.objs.size,lobj us W)] D H' s)(Z:tn i s.heap)(p4:(∀b∈fp,H' b=af))(p5:Ext m1 H1 m' H')(p6:RH X.K m' H' q)(p7:RS X.prog X.w X.K m' H' D B)(p8:B.length=tg.length+fs.length)(Y:B.drop tg.length=fs)(L:dg vs us)(J:RDs X.K m' H' vs out)(O:BT.eH f' tg.length (ds.drop i) q=aa (rest,h2))(U:out++rest=outs)(M:Cc q):LI X F G scope tg fv cond elt s2 H1 C fp tn m1 ds outs fs h2 f' Cc n s
structure Apart(X:Cx)(zt:List (az×ao))(H:Hp)(C:az):Prop where
 fr:H C=af
 lo:C≠X.env.locals
 ab:X.s₀.heap.objs.size<=C
 ce:∀x c,X.env.cells.lookup x=aa c->c≠C
 pi:∀p∈X.pn++zt,p.1≠C
def qe(O:Ok X F G sc N)(hu:fV N=ah)
(hk:kE sc N tg fv scope=ah)(ht:sV (d8 scope sc) tg te=ah)(hset:kD iter=ah)(hI:PI X te iter (iD X F G sr sa))(hC:oA F G (d8 scope sc) (tg++fv.map (·.2)) cond ifs)
(hE:∀X',Ok X' F G (d8 scope sc) (tg++fv.map (·.2))->PE X' elt' (tD X' F G elt)):∀(zt:List (az×ao)) (s:RI) (σ:L2.St) (H:Hp) (Q:VK) (use:Option (aA->Sem Unit)) (Q':aA->RI->Prop),Inv X zt σ H s->tD X F G (.comp mu sr sa tg fv cond elt) σ H Q →
 (∀(Z:RI)(H6:Hp)(C D:az)(m:ay->Option aA),Inv X zt σ H6 Z->Z.heap.Ns C m->Apart X zt H6 C->Q (.ref D) H6->compPost (R6 X.prog X.w) X.A X.xe use Q' (.ref D) C (.ok .next) Z) →
 av (R6 X.prog X.w) X.A (comprehension (.ListComp elt' [⟨te,iter,ifs,0⟩] scope pos) scope X.env (firstIterPos [⟨te,iter,ifs,0⟩] pos) (newList []) ai (eval iter X.env) use) Q' X.xe s:=by
 have cf:=MQ hk;obtain⟨ct,tl,tloc⟩:=EM (fs:=fv.map (·.2)) ht;have t0:tg≠[]:=by
  rintro rfl
  simp[sV]at ht
 intro zt s σ H Q use Q' I q hfin;obtain⟨m,s',h,z,h',R,S,ee,zr⟩:=q;simp only[aL]at ee;obtain⟨ws,h1,e1,e2⟩:=cY ee;cases g1:(aR ws h1).bind (BT.iR sr)with
 |none=>unfold BT.nP at e2;rw[g1]at e2;exact cU e2
 |some W =>
  cases g2:BT.frees s' fv with
  |none=>unfold BT.nP at e2;rw[g1,g2]at e2;exact cU e2
  |some fs =>
   rw[g2]at e2;obtain⟨ca,f',hf',c1,e2⟩:=BK e2 g1;obtain⟨L,h2,e3,e4⟩:=cY e2;unfold BT.iW at e4
   by_cases cl:L.length<=BT.lim
   case neg=>rw[bK cl]at e4;exact cU e4
   rw[bJ cl] at e4;have ez:BT.new mu L h2=(z,h'):=RO e4;have hfree:BC.uY X.env.cells scope.names:=λx hx e=>I.ok.has x.1 (.inl (by
    have:=cf.free x hx e;show X.env.scope.names.lookup x.1=_;rw[O.hsc];exact this))
   refine wpAny_comprehension_free (use:=use) rfl (wF hset) (BC.uZ hfree) cf.k1 cf.loc
    (thn (hI zt s σ H (λJ H1=>∃m1,Ext m H m1 H1/\RH X.K m1 H1 h1/\uT X.K J m1 H1 W (qZ ws W)) I ⟨m,s',h,ws,h1,W,R,S,e1,g1,ca,λH1 m1 J x1 R1 it=>⟨m1,x1,R1,it⟩⟩) λv s1 hv=>thn hv λitv s2 h2'=>?_)
   obtain⟨it,fp,tn,J,H1,rfl,I1,T,st,hf,m1,x1,R1,ito⟩:=h2';have hlt:∀b∈fp,b<s2.heap.objs.size:=λb B=>by obtain⟨o,ho,_⟩:=T.obj 0 _ st b B;exact RL ho
   refine Su (wpAny_newFunctionEnv cf.cell (by intro y hy;simp at hy) (λh3 hns hsb=>?_) cf.k1);dsimp only at hns hsb⊢;generalize hH2:s2.heap.push {cls:=.type "list",dict:=af,data:=.seq ([]:List aA).toArray}=H2 at hns hsb⊢;have E:H2.objs.size=s2.heap.objs.size+1:=by rw[←hH2,SE]
   have old:∀b o,s2.heap.get? b=aa o->h3.get? b=aa o:=λb o e=>hsb.extBut b o (by rw[E];exact Si (Wu (RL e))) (RC _ (hH2 ▸ RC _ e));have hacc:h3.get? s2.heap.objs.size=aa (lobj [] 0):=hsb.extBut _ _ (by rw[E];exact Si (T4 _)) (RC _ (hH2 ▸ RM _ rfl));have I4:=EL (tk:=s2.toks+([]:List (ay×aA)).length) I1 O.hsc O.hN cf E hf hlt old hns hacc;have O':=IZ (s2:=s2) (H1:=H1) (C:=H2.objs.size) (fp:=fp) O hu cf;obtain⟨g,hg1,hg2⟩:=sCT O' (O.calm hu) ct λq hq=>.inr (by rw[O'.hsc];exact tloc q hq);have hfl:fs.length=fv.length:=(lY g2).1;have k:∀{H':Hp}{o:ao},(∀b∈fp,H' b=af)->∀b∈fp,oZ (blk X (tg++fv.map (·.2)) s2 H1 scope H2.objs.size fp) [(s2.heap.objs.size,o)] H' b:=λ{H' o} hn b B=>by
    refine⟨hn b B,?_,?_,.inl B,λx c e=>(hf b B).2.2.2.2.1 x c (mG e),λp hp=>?_⟩
    ·show b≠H2.objs.size;rw[E];exact Si (Wu (hlt b B))
    ·intro a;rcases List.mem_cons.mp (I1.qw b a)with e|e
     exact(hf b B).2.1 e;exact(hf b B).2.2.1 e
    ·have hp':p=(s2.heap.objs.size,o):=by have:p∈[]++[(s2.heap.objs.size,o)]:=hp;simpa using this
     rw[hp'];show s2.heap.objs.size≠b;exact SY (hlt b B)
   have loop:∀s4:RI,s4={s2 with heap:=h3,toks:=s2.toks+([]:List (ay×aA)).length} →
    ak (R6 X.prog X.w) X.A (.compLoop (.ListComp elt' [⟨te,iter,ifs,0⟩] scope pos) 0 (.ref it) (.ref s2.heap.objs.size) (Yo scope (BC.iZ X.env.cells scope.names []) H2.objs.size X.env))
     (compPost (R6 X.prog X.w) X.A X.xe use Q' (.ref s2.heap.objs.size) H2.objs.size) s4:=by
    rintro s4 rfl
    refine BC.yz (LI X F G scope tg fv cond elt s2 H1 H2.objs.size fp tn m1 W L fs h2 f' (qZ ws W)) ?_
     W.length ⟨0,_,H1,m1,h1,[],L,[],[],0,_,SV _,rfl,I4,T.keep 0 _ _ st (λb B o e=>old b o e),λb B=>(hf b B).1,.refl _ _,R1,yC (S.ext x1) g2,by simp,by simp,.nil,.nil,by rw[List.drop_zero];exact e3,rfl,c1⟩
    rintro n s5 ⟨i,σ5,H5,m5,hh,out,rest,vs,us,nn,sl,hi,rfl,I5,st5,fr5,x5,R5,S5,sl1,sl2,rv5,rd5,go5,ou5,cc5⟩
    by_cases c:i<W.length
    ·rw[Xg c]at go5;obtain⟨xs,o,hA,t,eT,eF,eG,eR⟩:=EO go5;obtain⟨eF,cA⟩:=hf' _ _ _ eF;refine thn (T.item (blk X (tg++fv.map (·.2)) s2 H1 scope H2.objs.size fp) rfl rfl rfl (O.calm hu) i _ s5 σ5 H5 _ I5 (k fr5) st5 (ito.go m5 H5 hh i x5 R5 cc5 c)) λr Z hr=>?_;obtain⟨u,rfl,hr⟩:=hr;refine thn hr λ_ s7 zq=>?_;obtain⟨x,H7,I7,r7,y7,st7,fr7⟩:=zq;obtain⟨x7,k7,rd7⟩:=ito.yld m5 H5 hh i x H7 W[i] x5 R5 cc5 (RJ c) y7;have R7:=R5.ext x7 k7;have I7':=I7.pinned (k fr7) (T.obj _ _ st7);obtain⟨sq1,sq2,sq3⟩:=EN tl t0 eT sl1 sl2;refine thn (hg1 _ s7 σ5 H7 x u (fun M H8=>H8=H7/\RS X.prog X.w X.K m5 H7 M (xs.map BT.gn++fs)) I7' r7 (hg2 m5 H7 σ5 sl x W[i] xs _ (S5.ext x7) rd7 (by rw[tl];exact eT) fun M S8=>⟨rfl,by rw[←sq1];exact S8⟩)) λ_ s8 h8=>?_;obtain⟨M,H8,I8,rfl,S8⟩:=h8;have aH:∀{s9:RI}{σ9:L2.St}{j:Hp},Inv (blk X (tg++fv.map (·.2)) s2 H1 scope H2.objs.size fp) ([(s2.heap.objs.size,lobj us nn)]++lM fp s7.heap) σ9 j s9->tn (i+1) s9.heap/\∀b∈fp,j b=af:=λ{s9 σ9 j} I9=>by refine⟨T.keep _ _ _ st7 λb B o e=>(I9.pin (b,o) (SK _ (SK _ (i7 B e)))).1,λb B=>?_⟩;obtain⟨o,e,_⟩:=T.obj _ _ st7 b B;exact(I9.pin (b,o) (SK _ (SK _ (i7 B e)))).2.1
     have elem:∀{s9:RI}{j:Hp}{m9:List az}{h9:aO}{w:aN}{hB:aO}{d:aM},Inv (blk X (tg++fv.map (·.2)) s2 H1 scope H2.objs.size fp) ([(s2.heap.objs.size,lobj us nn)]++lM fp s7.heap) M j s9->Ext m5 H8 m9 j->RH X.K m9 j h9 →
      aL F G elt (xs.map BT.gn++fs) h9=aa (w,hB)->BT.pB w hB=aa (aa d,hA)->o=aa d →
      av (R6 X.prog X.w) X.A (eval elt' (Yo scope (BC.iZ X.env.cells scope.names []) H2.objs.size X.env)) (λx s₄ =>
       av (R6 X.prog X.w) X.A (call (.builtin "list.append") [.ref s2.heap.objs.size,x]) (λ_ s₅=>∃ m,m < W.length - i/\LI X F G scope tg fv cond elt s2 H1 H2.objs.size fp tn m1 W L fs h2 f' (qZ ws W) m s₅) (λ_ _=>False) s₄) (λ_ _=>False) s9:=by
      intro s9 j m9 h9 w hB d I9 x9 R9 eE V eO;have ew:w=.p d/\hB=hA:=by
       unfold BT.pB at V;cases w with
       |p d'=>cases V;exact⟨rfl,rfl⟩|_=>exact cU V
      obtain⟨rfl,rfl⟩:=ew;refine thn (hE _ O' _ s9 M j (λv Ha=>∃P,Ext m9 j P Ha/\RH X.K P Ha hB/\RD X.K P Ha v d) I9 ⟨m9,_,h9,_,hB,R9,S8.ext x9,eE,λv Ha P xa Ra ra=>by cases ra with|p ra=>exact⟨P,xa,Ra,ra⟩⟩) λu10 s10 ⟨v10,H10,I10,r10,m10,x10,R10,rd10⟩=>?_
      obtain⟨pD,nD,f,nfD,_⟩:=I10.pin (s2.heap.objs.size,lobj us nn) (by simp);have lus:=rv5.length;have lvs:=rd5.length;have lou:out.length<=L.length:=by rw[←ou5];simp
      have lle:=fW;have cl':L.length<=BT.lim:=cl;refine wpAny_list_append_plain ⟨nn,pD⟩ (λh11 U Y=>?_) (by rw[RG];lia);obtain⟨nn',U⟩:=U;have U:h11.get? s2.heap.objs.size=aa (lobj (us++[u10]) nn'):=by rw[U];simp[lobj]
      have Y:S7 s2.heap.objs.size s10.heap h11:=Y;obtain⟨st10,fr10⟩:=aH I10;have I11:Inv (blk X (tg++fv.map (·.2)) s2 H1 scope H2.objs.size fp) [] M H10 {s10 with heap:=h11} :=
       Inv.turned (t':=s10.toks) (I10.mS (λp hp=>by cases hp)) (λb o B e=>(Y.2 b B).trans e) nD f (.inr (RQ _)) (λx c e a=>by obtain⟨v,o,ho,_⟩:=I1.cell x c (mG e);have:=RL ho;rw[a]at this;exact bL this (Te _)) λp hp=>by cases hp
      have I12:Inv (blk X (tg++fv.map (·.2)) s2 H1 scope H2.objs.size fp) [(s2.heap.objs.size,lobj (us++[u10]) nn')] M H10 {s10 with heap:=h11}:=I11.mS λp hp=>by simp only[List.mem_singleton]at hp;subst hp;exact⟨U,nD,f,nfD,λv a=>by cases (show Data.seq _ _=Data.cell v from a)⟩
      have xt:Ext m5 H5 m10 H10:=(x7.trans x9).trans x10;refine⟨W.length-(i+1),by lia,i+1,M,H10,m10,hB,out++[d],t,vs++[v10],us++[u10],nn',_,c,rfl,I12,?_,fr10,x5.trans xt,R10,(S8.ext x9).ext x10,sq2,sq3,rv5.append (.cons r10 .nil),(rd5.ext xt).append (.cons rd10 .nil),eG,?_,cA⟩
      ·refine T.keep _ _ _ st10 λb B o' e=>(Y.2 b ?_).trans e;exact Si (hlt b B)
      rw[←ou5,eR,eO,SZ];rfl
     unfold BT.iC at eF;obtain⟨cs,hc,eC,V⟩:=cY eF;rcases hC with⟨rfl,rfl⟩|⟨cc,cc',rfl,rfl,hCC⟩
     ·simp only[aX]at eC;cases eC;have V:=(show bB _ BT.pB=_ from V);obtain⟨w,hB,eE,eL⟩:=cY V;refine wpAny_tests_nil ?_;rw[bJ rfl];have:∃d,o=aa d:=by
       unfold BT.pB at eL;cases w with
       |p d'=>cases eL;exact⟨_,rfl⟩|_=>exact cU eL
      obtain⟨d,rfl⟩:=this;exact elem I8 (.refl _ _) R7 eE eL rfl
     ·simp only[aX]at eC;obtain⟨wc,hc2,eC1,eC2⟩:=cY eC;simp only[BT.kZ,BT.eS,BT.jc]at eC2;cases eC2;have B:∃b,wc=.p (.bl b):=by
       cases wc with
       |p d =>
        cases d<;>first|exact⟨_,rfl⟩|exact cU V
       |_=>exact cU V
      obtain⟨b,rfl⟩:=B;refine wpAny_tests_one (thn (hCC _ O' _ s8 M H8 (λb' Ha=>b'=b/\∃P,Ext m5 H8 P Ha/\RH X.K P Ha hc) I8 ⟨m5,_,hh,b,hc,R7,S8,eC1,λHa P xa Ra=>⟨rfl,P,xa,Ra⟩⟩) λb' s9 zq=>?_);obtain⟨j,I9,hbb,m9,x9,R9⟩:=zq;subst hbb;cases b' with
      |false =>
       have V:=(show aa ((af:Option aM),hc)=aa _ from V);cases V;rw[bK (by decide)];obtain⟨st9,fr9⟩:=aH I9;have xt:Ext m5 H5 m9 j:=x7.trans x9;refine⟨W.length-(i+1),by lia,i+1,M,j,m9,hA,out,t,vs,us,nn,_,c,rfl,I9.kM,st9,fr9,x5.trans xt,R9,S8.ext x9,sq2,sq3,rv5,rd5.ext xt,eG,?_,cA⟩;rw[←ou5,eR]
      |true =>
       have V:=(show bB _ BT.pB=_ from V);rw[bJ rfl];obtain⟨w,hB,eE,eL⟩:=cY V;have:∃d,o=aa d:=by
        unfold BT.pB at eL;cases w with
        |p d'=>cases eL;exact⟨_,rfl⟩|_=>exact cU eL
       obtain⟨d,rfl⟩:=this;exact elem I9 x9 R9 eE eL rfl
    ·have ei:i=W.length:=by lia
     subst ei;rw[List.drop_length,BT.eH]at go5;cases go5;rw[Tt]at ou5;subst ou5;refine thn (T.done (blk X (tg++fv.map (·.2)) s2 H1 scope H2.objs.size fp) rfl rfl rfl (O.calm hu) _ _ s5 σ5 H5 _ I5 (k fr5) st5 (ito.stop m5 H5 _ x5 R5 cc5)) λr Z zq=>?_;obtain⟨hr,I6⟩:=zq;subst hr;obtain⟨mm,hmm,_⟩:=I6.loc;obtain⟨pD,nD,f,nfD,_⟩:=I6.pin (s2.heap.objs.size,lobj us nn) (by simp);have f:s2.heap.objs.size≠H2.objs.size:=f;have hos:Z.os=s2.os:=I6.os;have lus:=rv5.length;have lvs:=rd5.length;have lle:=fW;have cl':out.length<=BT.lim:=cl;have aJ:HOk X.prog X.w (upd H5 s2.heap.objs.size (.aB vs)) Z.heap:=λb u e=>by
      by_cases eb:b=s2.heap.objs.size
      ·subst eb;rw[d9]at e;cases e;exact⟨by lia,us,nn,rv5,pD⟩
      ·rw[dB eb]at e;refine(I6.aJ b u e).stay (λc v hc q=>q) (λc q=>?_) λc l q=>?_;rw[dB (λa=>by rw[a,nD]at q;exact cU q)];exact q;rw[dB (λa=>by rw[a,nD]at q;exact cU q)];exact q
     have u7:Un (frs X.stack) fp H1 (upd H5 s2.heap.objs.size (.aB vs)) s2.heap Z.heap:=Un.behind (h1:=Z.heap) I6.base (λb B=>dB (Si B)) (λb o e=>I1.aJ.lt e) λb o B e=>e;have I7:=I1.call (g':=Z.gens) (t':=Z.toks) (d':=Z.drawn) (ch:=fp) u7 aJ I6.bare λb B=>⟨(hf b B).2.2.2.1,(hf b B).2.1,(hf b B).2.2.2.2.1,(hf b B).2.2.2.2.2⟩;have fr6:H5 H2.objs.size=af:=I6.free;have ltC:s2.heap.objs.size<H2.objs.size:=by rw[E];exact T4 _
     have ap:Apart X zt (upd H5 s2.heap.objs.size (.aB vs)) H2.objs.size:=by
      refine⟨by rw[dB (SM f)];exact fr6,?_,?_,λx c e a=>?_,λp hp a=>?_⟩;exact SY (VU I1.lt ltC);exact Sz I1.sz (Ub ltC)
      ·obtain⟨v,o,ho,_⟩:=I1.cell x c e;have l:=RL ho;rw[a]at l;exact bL (VU l ltC) (Te _)
      ·have l:=RL (I1.pin p hp).1;rw[a]at l;exact bL (VU l ltC) (Te _)
     refine hfin Z _ _ _ mm ?_ hmm ap (mY (mu:=mu) R5 nD rd5 (by rw[ez];exact λv' H' m' xx RR rr=>zr v' H' m' ((x1.trans x5).trans xx) RR rr));obtain⟨hp6,g6,d6,t6,os6⟩:=Z;have hos:os6=s2.os:=hos;subst hos;exact I7
   exact codeAny_compStart_list (loop _ rfl) (T.self _ 0 _ _ _ (T.keep 0 _ _ st (λb B o e=>old b o e)) (loop _ rfl))
def ER(O:Ok X F G sc N)(Y:fV N=ah)
(c:kE sc N tg fv scope=ah)(Z:sV (d8 scope sc) tg te=ah)(J:kD iter=ah)(f:PI X te iter (iD X F G sr sa))(h:oA F G (d8 scope sc) (tg++fv.map (·.2)) cond ifs)
(g:∀M,Ok M F G (d8 scope sc) (tg++fv.map (·.2))->PE M elt' (tD M F G elt)):PE X (.ListComp elt' [⟨te,iter,ifs,0⟩] scope pos) (tD X F G (.comp mu sr sa tg fv cond elt)):=by
 intro W s V H Q I q;rw[eval_ListComp];refine qe O Y c Z J f h g W s V H Q af _ I q λU k C D m j hn L a=>?_;refine⟨m,hn,λi B=>?_⟩;have B:S7 C U.heap i:=B;exact⟨.ref D,k,Inv.turned (t':=U.toks) j (λb o d e=>(B.2 b d).trans e) L.fr L.lo (.inr L.ab) L.ce L.pi,rfl,a⟩
def ES(O:Ok X F G sc N)(l:fV N=ah)
(r:kE sc N tg fv scope=ah)(n:sV (d8 scope sc) tg te=ah)(L:kD iter=ah)(u:PI X te iter (iD X F G sr sa))(x:oA F G (d8 scope sc) (tg++fv.map (·.2)) cond ifs)
(w:∀Y,Ok Y F G (d8 scope sc) (tg++fv.map (·.2))->PE Y elt' (tD Y F G elt))(k:N[i]?=aa y)(f:sc.names.lookup y=aa .local)
(U:Vl (.ListComp elt' [⟨te,iter,ifs,0⟩] scope pos) (aa (.Name y py)) spos.line X.env=pure ah):
 PS X (.Assign [.Name y py] (.ListComp elt' [⟨te,iter,ifs,0⟩] scope pos) spos) (zw (tD X F G (.comp mu sr sa tg fv cond elt)) (vG i)):=by
 intro Z s h H D I q;rw[exec_Assign_Name_used _ _ _ _ U];refine Rz (WB (Rz ?_));show av _ X.A (do let _ ←comprehension (.ListComp elt' [⟨te,iter,ifs,0⟩] scope pos) scope X.env _ (newList []) ai (eval iter X.env) (aa (Xb (.Name y py) X.env))) _ _ s;refine Rz (thn (qe O l r n L u x w Z s h H _ (aa (Xb (.Name y py) X.env)) (λ_ d=>SP X Z D .next d) I q λR Q C g m P hn J V=>?_) λ_ d V=>au (au V));show av _ X.A (Xb (.Name y py) X.env (.ref g)) _ _ _;refine wpAny_assign_Name (pP P O.nd (by rw[O.hN];exact k) (.inl (by rw[O.hsc];exact f)) (v:=.ref g) rfl (λc K p=>?_) (.inr (by rw[O.hsc];exact f)));obtain⟨a,j,W⟩:=p;have M:C≠a:=by
  rcases W with rfl|W
  exact J.lo;exact λz=>J.ce y a W z.symm
 refine⟨m,hn.sameBut j M,λE B=>?_⟩;have B:S7 C c.heap E:=B;exact⟨_,Q,Inv.turned (t':=c.toks) K (λb o t e=>(B.2 b t).trans e) J.fr J.lo (.inr J.ab) J.ce J.pi,V⟩
end
section
variable{E:aA->RI->Prop}
end
section
end
end BS
end
section
namespace L2
open PySem PySem.Spec PyProof.Rows
section
variable{X:Cx}{tg:Wk}
end
end L2
namespace BS
open PySem PySem.Spec PyProof.Rows L2
section
variable{F:FT}{G:ay->Option aN}
end
end BS
end
section
namespace BS
open PySem PySem.Spec PyProof.Rows L2
variable{k1:Nat}
section
variable{E:aA->RI->Prop}
def gu(q:s.heap.IsTupleIter it t i)(M:s.heap.IsTuple t items)(L:items[i]?=aa x)
(U:∀h',h'.IsTupleIter it t (i+1)->S7 it s.heap h'->Q x {s with heap:=h'}):
 av (R6 prog w) A (Sx (.ref it)) Q E s:=by
 obtain ⟨o,B,O,hd⟩:=id q;obtain ⟨V,D,_,W,J⟩:=M;unfold Sx;refine Rz (SG (name:=RV "__next__") q.typeIs F.slot_tuple_iterator_next
  (Tg F.slot_tuple_iterator_next q.typeIs F.entry_tuple_iterator_next ?_ (F.args_tuple_iterator_next_1 _)))
 show av _ _ (field (.ref it) 0 >>= _) _ _ s;refine Rz (Tn B hd (x:=.ref t) rfl ?_);show av _ _ (if (SJ t==TL)=ah then _ else _) _ _ s;rw[bK (show ¬ ((SJ t==TL)=ah) from Sn)];show av _ _ (field (.ref it) 1 >>= _) _ _ s;refine Rz (Tn B hd (x:=.int i 0) rfl ?_);show av _ _ (seqItems? (.ref t) >>= _) _ _ s;refine Rz (TM D J ?_);simp only[Tj,L];refine Rz (T9 B hd (by simp) (au ⟨x,rfl,au (U _ ?_ (SC ..))⟩));exact ⟨_,Sj _ B (Obj.isFreed_of_fields (Obj.data_mapFields hd _)),(Obj.cls_mapFields ..).trans O,by
  rw[Obj.data_mapFields hd];simp[UL]⟩
def rA(L:A.handled=af)(q:s.heap.IsTupleIter it t i)(O:s.heap.IsTuple t items)(M:items[i]?=af)
(U:∀h' e,WT it s.heap h'->(∃o,h'.get? e=aa o/\o.cls=.type "StopIteration")->E (.ref e) {s with heap:=h'}):
 av (R6 prog w) A (Sx (.ref it)) Q E s:=by
 obtain ⟨o,D,Y,hd⟩:=id q;obtain ⟨V,B,_,W,J⟩:=O;unfold Sx;refine Rz (SG (name:=RV "__next__") q.typeIs F.slot_tuple_iterator_next
  (Tg F.slot_tuple_iterator_next q.typeIs F.entry_tuple_iterator_next ?_ (F.args_tuple_iterator_next_1 _)))
 show av _ _ (field (.ref it) 0 >>= _) _ _ s;refine Rz (Tn D hd (x:=.ref t) rfl ?_);show av _ _ (if(SJ t==TL)=ah then _ else _) _ _ s;rw[bK (show ¬((SJ t==TL)=ah) from Sn)];show av _ _ (field (.ref it) 1 >>= _) _ _ s;refine Rz (Tn D hd (x:=.int i 0) rfl ?_);show av _ _ (seqItems? (.ref t) >>= _) _ _ s;refine Rz (TM B J ?_);simp only[Tj,M];refine Rz (Vk (Rz (T9 D hd (by simp) ?_)));show av _ _ (newExc (.type "StopIteration") [] >>= _) _ _ _;refine Rz ?_;simp only[newExc,newTuple];refine Rz (Su ?_ (by size_fits));refine Rz (m:=Wg _ _) (wpAny_of_eq (a:=TL) (by first|rfl|(simp only[Wg];rfl)) ?_);refine Su ?_ (by size_fits);simp only[raiseNew];refine Rz (wpAny_handled ?_)
 first|rw[show A.in1.handled=af from L]|rw[L]
 refine Rz (au (wpAny_throw ?_));exact U _ _ (((SC ..).extBut.push _).push _) ⟨_,RM _ rfl,rfl⟩
noncomputable abbrev yD(h:aq)(z TI TO:az)(q:aA)(f:Bool):Prop :=
 h.get? z=aa {cls:=.type "zip",dict:=af,data:=.fields #[q,.bool f,.bool ai,.ref TI,.ref TO],slots:=#[]}
def BN{z TI TO i1 i2 l1 l2:az}{k2:Nat}{xs ys:Array aA}{x y a b:aA}{Q:aA->RI->Prop}(D:Ys z TI TO i1 i2 l1 l2)
(hz:X3 s.heap z TI TO .none)(hTI:U3 s.heap TI (.ref i1) (.ref i2))(hTO:U3 s.heap TO a b)
(h1:s.heap.IsTupleIter i1 l1 k1)(h2:s.heap.IsTupleIter i2 l2 k2)(hl1:s.heap.IsTuple l1 xs)(X:s.heap.IsTuple l2 ys)(hx:xs[k1]?=aa x)(hy:ys[k2]?=aa y)
(hQ:∀ h',X3 h' z TI TO (UL s.heap.objs.size)->U3 h' TO x y->h'.IsTupleIter i1 l1 (k1+1)->h'.IsTupleIter i2 l2 (k2+1)->U3 h' s.heap.objs.size x y->h'.objs.size=s.heap.objs.size+1 →
  (∀ c o,c≠z->c≠TO->c≠i1->c≠i2->s.heap.get? c=aa o->h'.get? c=aa o)->Q (.ref s.heap.objs.size) { s with heap:=h' }):
 av (R6 prog w) A (Builtin.«zip.__next__» ⟨[.ref z],[]⟩) (λfin s'=>∃v,fin=.done (.ret v)/\Q v s') E s:=by
 show av _ _ (field (.ref z) 2 >>= _) _ _ _;refine Rz (Tn hz rfl (x:=.bool ai) rfl ?_);show av _ _ (field (.ref z) 3 >>= _) _ _ _;refine Rz (Tn hz rfl (x:=.ref TI) rfl ?_);refine Rz (TM hTI rfl ?_);show av _ _ (SI (.ref z) >>= _) _ _ _;refine Rz ?_;unfold SI;refine Rz (Tn hz rfl (x:=.none) rfl (au ?_));simp only[if_true];refine Rz (Vk ?_);refine Rz (Tn hz rfl (x:=.ref TO) rfl ?_);refine Rz (Vt hz (by simp) λN d B=>?_);replace d:X3 N z TI TO .ellipsis:=d;refine Rz ?_;simp only[List.zipIdx_cons,List.zipIdx_nil,VM,Xf];refine Rz (Rz (wpAny_onRaise ?_));show av _ _ (Sx (.ref i1) >>= _) _ _ _;refine Rz (gu (h1.extBut B.extBut D.i1z) (hl1.extBut B.extBut D.l1z) hx λK C M=>au ?_);have i:U3 K TO a b:=M.extBut _ _ D.TOi1 (B.extBut _ _ D.TOz hTO);refine Rz (TM i rfl ?_);refine Rz (wpAny_updateSeq_pair i λI W L=>?_);replace W:U3 I TO x b:=W;refine Rz (wpAny_letGo (au ?_));refine Rz (Rz (wpAny_onRaise ?_));show av _ _ (Sx (.ref i2) >>= _) _ _ _;refine Rz (gu (((h2.extBut B.extBut D.i2z).extBut M.extBut D.i12.symm).extBut L.extBut D.TOi2.symm)
  (((X.extBut B.extBut D.l2z).extBut M.extBut D.l2i1).extBut L.extBut D.l2TO) hy λH t U=>au ?_)
 have h:U3 H TO x b:=U.extBut _ _ D.TOi2 W;refine Rz (TM h rfl ?_);refine Rz (wpAny_updateSeq_pair h λq J O=>?_);replace J:U3 q TO x y:=J;refine Rz (wpAny_letGo (au (au ?_)));refine Rz (TM J rfl ?_);refine Rz (wpAny_newTuple ?_);have R:q.objs.size=s.heap.objs.size:=by rw[O.1,U.1,L.1,M.1,B.1]
 have j:X3 q z TI TO .ellipsis:=O.extBut _ _ D.TOz.symm (U.extBut _ _ D.i2z.symm (L.extBut _ _ D.TOz.symm (M.extBut _ _ D.i1z.symm d)));have n:∀c o,c≠z->c≠TO->c≠i1->c≠i2->s.heap.get? c=aa o->q.get? c=aa o:=λc o F T c3 c4 e =>
  O.extBut _ _ T (U.extBut _ _ c4 (L.extBut _ _ T (M.extBut _ _ c3 (B.extBut _ _ F e))))
 have u:q.IsTupleIter i1 l1 (k1+1):=((C.extBut L.extBut D.TOi1.symm).extBut U.extBut D.i12).extBut O.extBut D.TOi1.symm;have p:q.IsTupleIter i2 l2 (k2+1):=t.extBut O.extBut D.TOi2.symm;have l:z<q.objs.size:=RL j;have hTOlt:TO<q.objs.size:=RL J;show av _ _ (Vg (.ref z) (.ref q.objs.size) >>= _) _ _ _;refine Rz ?_;unfold Vg;have m:X3 (q.push {cls:=.type "tuple",data:=.seq #[x,y]}) z TI TO .ellipsis:=RC _ j;refine Rz (Vt m (by simp) λG Z g=>?_);replace Z:X3 G z TI TO (UL q.objs.size):=Z;refine Vt Z (by simp) λY V f=>?_;replace V:X3 Y z TI TO (UL q.objs.size):=V;have S:∀c o,c≠z->q.get? c=aa o->Y.get? c=aa o:=λc o F e=>f.extBut _ _ F (g.extBut _ _ F (RC _ e));have k:U3 Y q.objs.size x y:=f.extBut _ _ (SY l) (g.extBut _ _ (SY l) (RM _ rfl));have P:Y.objs.size=q.objs.size+1:=by rw[f.1,g.1,SE]
 rw[R]at V k P;refine au ⟨_,rfl,?_⟩;show Q (.ref q.objs.size) _;rw[R];exact hQ Y V (S _ _ D.TOz J) (let ⟨o,e,r⟩:=u;⟨o,S _ o D.i1z e,r⟩) (let ⟨o,e,r⟩:=p;⟨o,S _ o D.i2z e,r⟩) k P λc o F T c3 c4 e=>S c o F (n c o F T c3 c4 e)
def wK{z TI TO a:az}{f:Bool}{L:ao}{Q:Bool->RI->Prop}(hz:yD s.heap z TI TO (UL a) f)(M:s.heap.get? a=aa L)
(J:∀h',yD h' z TI TO (UL a) ah->S7 z s.heap h'->Q ai {s with heap:=h'}):av (R6 prog w) A (SI (.ref z)) Q E s:=by
 unfold SI;refine Rz (Tn hz rfl (x:=UL a) rfl ?_);show av _ _ (loadIfAlive ((a:Int).toNat) >>= _) _ _ _;rw[Tj];refine Rz (PySem.W.kdx_alive M ?_);simp only[Option.isNone_some,UP,if_false];refine Rz (Tn hz rfl (x:=.bool f) rfl ?_);cases f with
 |true =>
  rw[bK (show ¬((Vn ah != Vn ah)=ah) from Sn)];exact au (J s.heap hz (U7 _ _))
 |false =>
  rw[bJ (show(Vn ai != Vn ah)=ah from rfl)];refine Rz (Vt hz (by simp) λD B q=>?_);exact au (J D B q)
def ET{z TI TO i1 i2 l1 l2 c:az}{f:Bool}{h:ao}{k2:Nat}{xs ys:Array aA}{x y:aA}{Q:aA->RI->Prop}(D:Ys z TI TO i1 i2 l1 l2)
(hz:yD s.heap z TI TO (UL c) f)(k:s.heap.get? c=aa h)(Z:U3 s.heap TI (.ref i1) (.ref i2))
(h1:s.heap.IsTupleIter i1 l1 k1)(h2:s.heap.IsTupleIter i2 l2 k2)(Y:s.heap.IsTuple l1 xs)(W:s.heap.IsTuple l2 ys)(j:xs[k1]?=aa x)(i:ys[k2]?=aa y)
(l:∀ h',yD h' z TI TO (UL c) ah->h'.IsTupleIter i1 l1 (k1+1)->h'.IsTupleIter i2 l2 (k2+1)->U3 h' s.heap.objs.size x y->h'.objs.size=s.heap.objs.size+1 →
  (∀ b o,b≠z->b≠i1->b≠i2->s.heap.get? b=aa o->h'.get? b=aa o)->Q (.ref s.heap.objs.size) { s with heap:=h' }):
 av (R6 prog w) A (Builtin.«zip.__next__» ⟨[.ref z],[]⟩) (λfin s'=>∃v,fin=.done (.ret v)/\Q v s') E s:=by
 show av _ _ (field (.ref z) 2 >>= _) _ _ _;refine Rz (Tn hz rfl (x:=.bool ai) rfl ?_);show av _ _ (field (.ref z) 3 >>= _) _ _ _;refine Rz (Tn hz rfl (x:=.ref TI) rfl ?_);refine Rz (TM Z rfl ?_);show av _ _ (SI (.ref z) >>= _) _ _ _;refine Rz (wK hz k λd M q=>?_);simp only[UP,if_false];refine Rz ?_;simp only[← Yh,VM,Xf];refine Rz (Rz (SQ ?_));show av _ _ (Sx (.ref i1) >>= _) _ _ _;refine Rz (gu (h1.extBut q.extBut D.i1z) (Y.extBut q.extBut D.l1z) j λa U B=>au (au ?_));refine Rz (Rz (SQ ?_));show av _ _ (Sx (.ref i2) >>= _) _ _ _;refine Rz (gu ((h2.extBut q.extBut D.i2z).extBut B.extBut D.i12.symm)
  ((W.extBut q.extBut D.l2z).extBut B.extBut D.l2i1) i λJ O L=>au (au (au ?_)))
 refine Rz (wpAny_newTuple (hsz:=by show 2<=aj;decide) ?_);have hsz:J.objs.size=s.heap.objs.size:=by rw[L.1,B.1,q.1]
 have V:∀b o,J.get? b=aa o->(J.push {cls:=.type "tuple",data:=.seq #[x,y]}).get? b=aa o:=λb o e=>RC _ e;refine au ⟨_,rfl,?_⟩;have g:U3 (J.push {cls:=.type "tuple",data:=.seq #[x,y]}) J.objs.size x y:=RM _ rfl;show Q (.ref J.objs.size) _;rw[hsz]at g⊢;exact l _ (V _ _ (L.extBut _ _ D.i2z.symm (B.extBut _ _ D.i1z.symm M))) (let ⟨o,e,r⟩:=U;⟨o,V _ o (L.extBut _ _ D.i12 e),r⟩) (let ⟨o,e,r⟩:=O;⟨o,V _ o e,r⟩) g (by rw[SE,hsz])
  λb o p n m e=>V b o (L.extBut _ _ m (B.extBut _ _ n (q.extBut _ _ p e)))
def I0{z TI TO i1 i2 l1 l2 c:az}{f:Bool}{W:ao}{xs:Array aA}{Q:Fin->RI->Prop}(Z:A.handled=af)(D:Ys z TI TO i1 i2 l1 l2)
(hz:yD s.heap z TI TO (UL c) f)(d:s.heap.get? c=aa W)(U:U3 s.heap TI (.ref i1) (.ref i2))
(h1:s.heap.IsTupleIter i1 l1 k1)(O:s.heap.IsTuple l1 xs)(Y:xs[k1]?=af)
(g:∀h' e,(∀b o,b≠z->b≠i1->s.heap.get? b=aa o->h'.get? b=aa o)->(∃o,h'.get? e=aa o/\o.cls=.type "StopIteration")->E (.ref e) {s with heap:=h'}):
 av (R6 prog w) A (Builtin.«zip.__next__» ⟨[.ref z],[]⟩) Q E s:=by
 show av _ _ (field (.ref z) 2 >>= _) _ _ _;refine Rz (Tn hz rfl (x:=.bool ai) rfl ?_);show av _ _ (field (.ref z) 3 >>= _) _ _ _;refine Rz (Tn hz rfl (x:=.ref TI) rfl ?_);refine Rz (TM U rfl ?_);show av _ _ (SI (.ref z) >>= _) _ _ _;refine Rz (wK hz d λV M B=>?_);simp only[UP,if_false];refine Rz ?_;simp only[←Yh,VM,Xf];refine Rz (Rz (SQ ?_));show av _ _ (Sx (.ref i1) >>= _) _ _ _;exact Rz (rA Z (h1.extBut B.extBut D.i1z) (O.extBut B.extBut D.l1z) Y λL e J a=>g L e (λb o i h q=>J _ _ h (B.extBut _ _ i q)) a)
structure ZLo(z TI TO i1 i2 l1 l2 S:az):Prop where
 D:Ys z TI TO i1 i2 l1 l2
 z:z<S
 TI:TI<S
 TO:TO<S
 i1:i1<S
 i2:i2<S
 l1:l1<S
 l2:l2<S
structure ZS(z TI TO i1 i2 l1 l2 S:az)(xs ys:Array aA)(i:Nat)(h:aq):Prop where
 st:(i=0/\X3 h z TI TO .none/\∃a b,U3 h TO a b)\/∃(c:az) (f:Bool) (oc:ao),yD h z TI TO (UL c) f/\h.get? c=aa oc/\S<c
 ti:U3 h TI (.ref i1) (.ref i2)
 a1:h.IsTupleIter i1 l1 i
 a2:h.IsTupleIter i2 l2 i
 t1:h.IsTuple l1 xs
 t2:h.IsTuple l2 ys
def ZS.keep{TI TO S:az}(L:ZLo z TI TO i1 i2 l1 l2 S)(Z:ZS z TI TO i1 i2 l1 l2 S xs ys i h)(k:∀b o,b≠S->h.get? b=aa o->h'.get? b=aa o):ZS z TI TO i1 i2 l1 l2 S xs ys i h':=by
 have n:∀{b:az},b<S->b≠S:=λq=>Si q;refine⟨?_,k _ _ (n L.TI) Z.ti,let ⟨o,e,r⟩:=Z.a1;⟨o,k _ o (n L.i1) e,r⟩,let ⟨o,e,r⟩:=Z.a2;⟨o,k _ o (n L.i2) e,r⟩,let ⟨o,e,r⟩:=Z.t1;⟨o,k _ o (n L.l1) e,r⟩,let ⟨o,e,r⟩:=Z.t2;⟨o,k _ o (n L.l2) e,r⟩⟩;rcases Z.st with⟨e,q,a,b,p⟩|⟨c,f,oc,q,hc,lt⟩
 exact .inl ⟨e,k _ _ (n L.z) q,a,b,k _ _ (n L.TO) p⟩;exact .inr ⟨c,f,oc,k _ _ (n L.z) q,k _ _ (SY lt) hc,lt⟩
def ZS.at{TI TO S:az}{x y:aA}(L:ZLo z TI TO i1 i2 l1 l2 S)(Z:ZS z TI TO i1 i2 l1 l2 S xs ys i h)
(k:∀b o,b≠z->b≠TO->b≠i1->b≠i2->h.get? b=aa o->h'.get? b=aa o):U3 h' TI (.ref i1) (.ref i2)/\h'.IsTuple l1 xs/\h'.IsTuple l2 ys :=
 ⟨k _ _ L.D.TIz L.D.TITO L.D.TIi1 L.D.TIi2 Z.ti,let ⟨o,e,r⟩:=Z.t1;⟨o,k _ o L.D.l1z L.D.l1TO L.D.l1i1 L.D.l1i2 e,r⟩,let ⟨o,e,r⟩:=Z.t2;⟨o,k _ o L.D.l2z L.D.l2TO L.D.l2i1 L.D.l2i2 e,r⟩⟩
def EU{TI TO S:az}(L:ZLo z TI TO i1 i2 l1 l2 S)(Z:ZS z TI TO i1 i2 l1 l2 S xs ys i s.heap)(n:S<s.heap.objs.size)(l:xs[i]?=aa x)(k:ys[i]?=aa y)
(m:∀h',ZS z TI TO i1 i2 l1 l2 S xs ys (i+1) h'->U3 h' s.heap.objs.size x y->h'.objs.size=s.heap.objs.size+1->(∀b o,b≠z->b≠TO->b≠i1->b≠i2->s.heap.get? b=aa o->h'.get? b=aa o)->Q (aa (.ref s.heap.objs.size)) {s with heap:=h'}):
 av (R6 prog w) A (Vh (.ref z)) Q E s:=by
 have lt:∀{b:az},b<S->S<b->False:=λp q=>Te _ (VU p q);rcases Z.st with⟨e,q,a,b,p⟩|⟨c,f,oc,q,hc,hl⟩
 ·have J:s.TypeIs (.ref z) "zip":=⟨_,q,rfl⟩;unfold Vh;refine Rz (VN (SG (name:=RV "__next__") J F.slot_zip_next
   (Tg F.slot_zip_next J F.entry_zip_next
    (BN L.D q Z.ti p Z.a1 Z.a2 Z.t1 Z.t2 l k λh' a1 a2 j h M g B=>au (m h' ?_ M g B)) (F.args_zip_next_1 _))))
  obtain⟨d,Y,W⟩:=Z.at (x:=x) (y:=y) L B;exact⟨.inr ⟨_,ai,_,a1,M,n⟩,d,j,h,Y,W⟩
 ·have J:s.TypeIs (.ref z) "zip":=⟨_,q,rfl⟩;unfold Vh;refine Rz (VN (SG (name:=RV "__next__") J F.slot_zip_next
   (Tg F.slot_zip_next J F.entry_zip_next
    (ET L.D q hc Z.ti Z.a1 Z.a2 Z.t1 Z.t2 l k λh' a1 j h M g B=>au (m h' ?_ M g λb o V _ U O e=>B b o V U O e)) (F.args_zip_next_1 _))))
  obtain⟨d,Y,W⟩:=Z.at (x:=x) (y:=y) (h':=h') L λb o V _ U O e=>B b o V U O e;exact⟨.inr ⟨c,ah,oc,a1,B c oc (λz=>lt (z ▸ L.z) hl) (λz=>lt (z ▸ L.i1) hl) (λz=>lt (z ▸ L.i2) hl) hc,hl⟩,d,j,h,Y,W⟩
def EV{TI TO S:az}(V:A.handled=af)(L:ZLo z TI TO i1 i2 l1 l2 S)(Z:ZS z TI TO i1 i2 l1 l2 S xs ys i s.heap)(hi:0<i)(M:xs[i]?=af)
(Y:∀h',(∀b o,b≠z->b≠i1->s.heap.get? b=aa o->h'.get? b=aa o)->Q af {s with heap:=h'}):
 av (R6 prog w) A (Vh (.ref z)) Q E s:=by
 rcases Z.st with⟨e,q,a,b,p⟩|⟨c,f,oc,q,hc,hl⟩
 lia
 ·have J:s.TypeIs (.ref z) "zip":=⟨_,q,rfl⟩;unfold Vh;refine Rz (VN (SG (name:=RV "__next__") J F.slot_zip_next
   (Tg F.slot_zip_next J F.entry_zip_next (I0 V L.D q hc Z.ti Z.a1 Z.t1 M λh' e U W=>?_) (F.args_zip_next_1 _))))
  obtain⟨o,O,B⟩:=W;refine Rz (UM (T:="StopIteration") (b:=ah) ⟨o,O,B⟩ isSubtype_stop ?_);exact au (Y _ U)
structure ZG(xs ys:Array aA)(S:az)(h:aq)(as:List az):Prop where
 rise:as.Pairwise (· < ·)
 above:∀a∈as,S<a
 pairs:∀(j:Nat)(a:az),as[j]?=aa a->∃x y,xs[j]?=aa x/\ys[j]?=aa y/\U3 h a x y
def ZG.there{S:az}(g:ZG xs ys S h as)(B:a∈as):a<h.objs.size:=by obtain⟨j,q⟩:=List.mem_iff_getElem?.mp B;obtain⟨_,_,_,_,e⟩:=g.pairs j a q;exact RL e
end
section
variable{prog:Sb}{w:SH}{A:TJ}{s:RI}{R:XF->RI->Prop}{xs ys:Array aA}{z TI TO i1 i2 l1 l2 S:az}
def EW(hh:A.handled=af)(L:ZLo z TI TO i1 i2 l1 l2 S)(hn0:0<xs.size)(hxy:xs.size=ys.size)(hn:xs.size<=aj)(res:aA){h₁:aq}
(hR:∀ h' tk B c as,(∀ b o,b≠S->b≠z->b≠TO->b≠i1->b≠i2->h₁.get? b=aa o->h'.get? b=aa o)->h'.get? S=aa { cls:=.type "list",dict:=af,data:=.seq B c,slots:=#[] }->as.length=xs.size->ZG xs ys S h' as →
  B.toList=as.map SJ->R (.ok (.ret res)) { s with heap:=h',toks:=tk }):
 ∀(k i:Nat)(h:aq)(tk c:Nat)(B:Array aA) (as:List az),xs.size-i=k->i<=xs.size->ZS z TI TO i1 i2 l1 l2 S xs ys i h->(∀b o,b≠S->b≠z->b≠TO->b≠i1->b≠i2->h₁.get? b=aa o->h.get? b=aa o) →
  h.get? S=aa {cls:=.type "list",dict:=af,data:=.seq B c,slots:=#[]}->B.toList=as.map SJ->as.length=i->ZG xs ys S h as →
  ak (R6 prog w) A (.builtin "list.extend.loop" ⟨[.ref S,.ref z,res],[]⟩) R {s with heap:=h,toks:=tk}:=by
 have f:∀{b:az},b<S->S≠b:=λq=>SY q;have g:∀{a b:az},S<a->b<S->a≠b:=λp q=>SY (VU q p);intro k
 induction k with
 |zero =>
  intro i h tk c B as hk hi Y D E J O U;have hin:i=xs.size:=by lia
  refine codeAny_builtin Uw ?_;rw[To SD _];show av _ A.in1 (Vh (.ref z) >>= _) _ _ _;refine Rz (EV (s:={s with heap:=h,toks:=tk}) (A:=A.in1) hh L Y (by lia) (Tc (by lia)) λh' u=>?_);have u:∀b o,b≠z->b≠i1->h.get? b=aa o->h'.get? b=aa o:=u;refine au (hR h' tk B c as (λb o I m H l G e=>u b o m l (D b o I m H l G e)) (u S _ (f L.z) (f L.i1) E) (by lia) ⟨U.rise,U.above,λj a W=>?_⟩ J);obtain⟨x,y,e1,e2,K⟩:=U.pairs j a W;have T:=U.above a (RU W);exact⟨x,y,e1,e2,u a _ (g T L.z) (g T L.i1) K⟩
 |succ k ih =>
  intro i h tk c B as hk hi Y D E J O U;have t:i<xs.size:=by lia
  have P:xs[i]?=aa xs[i]:=Sq t;have N:ys[i]?=aa (ys[i]'(by lia)):=Sq (by lia);have n:B.size=i:=by rw[←So,J,RX,O]
  refine codeAny_builtin Uw ?_;rw[To SD _];show av _ A.in1 (Vh (.ref z) >>= _) _ _ _;refine Rz (EU (s:={ s with heap:=h,toks:=tk }) L Y (RL E) P N λh' r Q hz V=>?_);dsimp only at Q hz V ⊢;have C:=V S _ (f L.z) (f L.TO) (f L.i1) (f L.i2) E;have F:∀ b o,b≠S->h'.get? b=aa o->(h'.update S (Ti (·.push (SJ h.objs.size)))).get? b=aa o:=λb o M e=>(SR _ _ (SM M)).trans e;have v:S < h.objs.size:=RL E;show av _ A.in1 (V3 S (·.push (SJ h.objs.size)) >>= _) _ _ _;refine Rz ?_;refine Uc C rfl (au ⟨plainId_quiet SD _,ih (i+1) _ tk _ (B.push (SJ h.objs.size)) (as++[h.objs.size]) (by lia) t (r.keep L F)
   (λb o I m H l G e=>F b o I (V b o m H l G (D b o I m H l G e))) (Sj _ C rfl) (by rw[YA,J,Ve];rfl) (by rw[Sh,O];rfl) ⟨?_,?_,?_⟩⟩) (by rw[n];lia) (by show (B.push (SJ h.objs.size)).size<=aj+1;rw[Array.size_push,n];lia)
  ·refine List.pairwise_append.mpr ⟨U.rise,List.pairwise_singleton _ _,λa d b M=>?_⟩;rw[List.mem_singleton.mp M];exact U.there d
  ·intro a d;rcases List.mem_append.mp d with d|d
   exact U.above a d;rw[List.mem_singleton.mp d];exact v
  ·intro j b W;rcases Nat.lt_trichotomy j as.length with h1|h1|h1
   ·rw[RE h1]at W;obtain⟨x',X,e1,e2,K⟩:=U.pairs j b W;have M:=U.above b (RU W);exact⟨x',X,e1,e2,F b _ (SY M) (V b _ (g M L.z) (g M L.TO) (g M L.i1) (g M L.i2) K)⟩
   ·subst h1;have M:h.objs.size=b:=by simpa using W
    subst M;exact⟨_,_,by rw[O];exact P,by rw[O];exact N,F _ _ (SY v) Q⟩
   ·have Z:(as++[h.objs.size])[j]?=af:=RT (by rw[Sh,Um];lia);rw[Z]at W;cases W
end
def u5:WX (.type "zip") "__len__"=pure af:=by rw[V4,Va];kernel_rfl
def tM:WX (.type "zip") "__length_hint__"=pure af:=by rw[V4,Va];kernel_rfl
section
variable{prog:Sb}{w:SH}{A:TJ}{E:aA->RI->Prop}{s:RI}{R:XF->RI->Prop}{xs ys:Array aA}{z TI TO i1 i2 l1 l2 S:az}
def yE(k:A.handled=af)(L:ZLo z TI TO i1 i2 l1 l2 S)(O:0<xs.size)(M:xs.size=ys.size)(hn:xs.size<=aj)(res:aA)(D:Nat)(W:X3 s.heap z TI TO .none)(Z:ZS z TI TO i1 i2 l1 l2 S xs ys 0 s.heap)(d:s.heap.get? S=aa {cls:=.type "list",data:=.seq #[] D})
(m:∀ h' tk J c as,(∀ b o,b≠S->b≠z->b≠TO->b≠i1->b≠i2->s.heap.get? b=aa o->h'.get? b=aa o)->h'.get? S=aa { cls:=.type "list",dict:=af,data:=.seq J c,slots:=#[] }->as.length=xs.size->ZG xs ys S h' as →
  J.toList=as.map SJ->R (.ok (.ret res)) { s with heap:=h',toks:=tk }):
 av (R6 prog w) A.in1 (SS (.ref S) (.ref z) res)
  (λfin s'=>match fin with|.done f=>R (.ok f) s'|.again g=>g.quiet=ah/\ak (R6 prog w) A g R s') (λe s'=>R (.error e) s') s:=by
 have V:S≠z:=SY L.z;have U:s.TypeIs (.ref z) "zip":=⟨_,W,rfl⟩;unfold SS;refine Rz (UR U ?_);have r:Us (.ref S) (.ref z)=ai:=by simp[Us,V]
 have p:(Ur "zip"==Ur "list")=ai:=by decide
 have n:(Ur "zip"==Ur "tuple")=ai:=by decide
 simp only[r,p,n,U8,UP,if_false];refine Rz (wpAny_pyIter_zip W ?_);refine Rz (SQ ?_);unfold UU;refine Rz (Xx U u5 ?_);show av _ A.in1 (specialOf (SJ z) (RV "__length_hint__") >>= _) _ _ _;refine Rz (Xx U tM ?_);refine au ?_;show av _ A.in1 (rule "list.extend.makes-room" >>= λ_=>Builtin.List.listTouch (.ref S) >>= λ_ =>
  again (.builtin "list.extend.loop" ⟨[.ref S,.ref z,res],[]⟩)) _ _ _
 refine Rz (Vk ?_);refine Rz ?_;show av _ A.in1 (V3 S (·.push .none) >>= λ_=>V3 S (·.pop)) _ _ _;refine Rz (Uc d rfl ?_);have q:=Sj (Ti (·.push TL)) d rfl;refine Uc (hz:=by seq_fits) q rfl ?_;have B:=Sj (Ti (·.pop)) q rfl;have oth:∀b o,b≠S->s.heap.get? b=aa o->((s.heap.update S (Ti (·.push TL))).update S (Ti (·.pop))).get? b=aa o :=
  λb o Y e=>(SR _ _ (SM Y)).trans ((SR _ _ (SM Y)).trans e)
 exact au ⟨plainId_quiet SD _,EW (s:=s) (h₁:=s.heap) k L O M hn res m xs.size 0 _ s.toks _ #[] [] (Nat.sub_zero _) (SV _) (Z.keep L oth) (λb o h _ _ _ _ e=>oth b o h e) B rfl rfl
  ⟨Xa,(λ_ l=>nomatch l),(λj a i=>by simp at i)⟩⟩
def EX(k:A.handled=af)(L:ZLo z TI TO i1 i2 l1 l2 S)(M:0<xs.size)(J:xs.size=ys.size)(hn:xs.size<=aj)(h:X3 s.heap z TI TO .none)(Z:ZS z TI TO i1 i2 l1 l2 S xs ys 0 s.heap)(U:s.heap.get? S=aa {cls:=.type "list",data:=.seq #[]})
(m:∀ h' tk q c as,(∀ b o,b≠S->b≠z->b≠TO->b≠i1->b≠i2->s.heap.get? b=aa o->h'.get? b=aa o)->h'.get? S=aa { cls:=.type "list",dict:=af,data:=.seq q c,slots:=#[] }->as.length=xs.size->ZG xs ys S h' as →
  q.toList=as.map SJ->R (.ok (.ret .none)) { s with heap:=h',toks:=tk }):
 av (R6 prog w) A.in1 (Builtin.«list.__init__» ⟨[.ref S,.ref z],[]⟩)
  (λfin s'=>match fin with|.done f=>R (.ok f) s'|.again W=>W.quiet=ah/\ak (R6 prog w) A W R s') (λe s'=>R (.error e) s') s:=by
 show av _ _ (do let old ←Wv (.ref S);Builtin.List.listUpdate (.ref S) (λ_=>#[]);letGo old.toList.reverse;SS (.ref S) (.ref z) .none) _ _ s;refine Rz ?_;unfold Wv;refine Rz (TM U rfl (au ?_));show av _ _ (V3 S (λ_=>#[]) >>= λ_=>letGo (#[]:Array aA).toList.reverse >>= λ_=>SS (.ref S) (.ref z) .none) _ _ s;refine Rz (Uc U rfl ?_);have B:=Sj (Ti (λ_=>(#[]:Array aA))) U rfl;have oth:∀b o,b≠S->s.heap.get? b=aa o->(s.heap.update S (Ti (λ_=>(#[]:Array aA)))).get? b=aa o :=
  λb o l e=>(SR _ _ (SM l)).trans e
 refine Rz (wpAny_letGo ?_);refine yE (s:={s with heap:=s.heap.update S (Ti (λ_=>(#[]:Array aA)))}) k L M J hn .none _ (oth _ _ (Si L.z) h) (Z.keep L oth) B λh' tk q c as j O i n D=>?_;exact m h' tk q c as (λb o V g d a Y e=>j b o V g d a Y (oth b o V e)) O i n D
def EY(k:A.handled=af)(L:ZLo z TI TO i1 i2 l1 l2 s.heap.objs.size)(V:0<xs.size)(U:xs.size=ys.size)(hn:xs.size<=aj)(h:X3 s.heap z TI TO .none)(Z:ZS z TI TO i1 i2 l1 l2 s.heap.objs.size xs ys 0 s.heap)
(l:∀ h' tk q c as,(∀ b o,b≠z->b≠TO->b≠i1->b≠i2->s.heap.get? b=aa o->h'.get? b=aa o)->h'.get? s.heap.objs.size=aa { cls:=.type "list",dict:=af,data:=.seq q c,slots:=#[] }->as.length=xs.size->ZG xs ys s.heap.objs.size h' as →
  q.toList=as.map SJ->Q (.ref s.heap.objs.size) { s with heap:=h',toks:=tk }):
 av (R6 prog w) A (call (.type "list") [.ref z]) Q E s:=by
 refine callType_codes (Q₁:=λD B=>D=.ref s.heap.objs.size/\B={s with heap:=s.heap.push {cls:=.type "list",data:=.seq #[]} }) PySem.F.called_list (PySem.F.typeCall_list_1 _) PySem.F.entry_list_init
  (code_list_new _ ⟨rfl,rfl⟩) λD B J=>?_
 obtain⟨rfl,rfl⟩:=J;have Y:(s.heap.push {cls:=.type "list",data:=.seq #[]}).get? s.heap.objs.size=aa {cls:=.type "list",data:=.seq #[]}:=RM _ rfl;have O:∀b o,s.heap.get? b=aa o->(s.heap.push {cls:=.type "list",data:=.seq #[]}).get? b=aa o:=λb o e=>RC _ e;refine⟨⟨_,Y,rfl⟩,PySem.F.args_list_init_2 _ _,EX (s:={s with heap:=s.heap.push {cls:=.type "list",data:=.seq #[]} }) (A:=A.in1) k L V U hn (O _ _ h) (Z.keep L λb o _ e=>O b o e) Y λh' tk q c as j W i m M=>?_⟩;exact⟨rfl,l h' tk q c as (λb o g f d a e=>j b o (Si (RL e)) g f d a (O b o e)) W i m M⟩
end
noncomputable abbrev EZ(h:aq)(l1:az):aq:=h.push {cls:=.type "tuple_iterator",data:=.fields #[.ref l1,.int 0 0]}
noncomputable abbrev E1(h:aq)(l1 l2:az):aq:=(EZ h l1).push {cls:=.type "tuple_iterator",data:=.fields #[.ref l2,.int 0 0]}
noncomputable abbrev E2(h:aq)(l1 l2:az):aq:=(E1 h l1 l2).push {cls:=.type "tuple",data:=.seq #[.ref h.objs.size,.ref (EZ h l1).objs.size]}
noncomputable abbrev E3(h:aq)(l1 l2:az):aq:=(E2 h l1 l2).push {cls:=.type "tuple",data:=.seq #[.none,.none]}
noncomputable abbrev u6(h:aq)(l1 l2:az):aq:=(E3 h l1 l2).push {cls:=.type "zip",data:=.fields #[.none,.bool ai,.bool ai,.ref (E1 h l1 l2).objs.size,.ref (E2 h l1 l2).objs.size]}
def rB(l1 l2:az)(xs ys:Array aA):
 Meets (Builtin.«zip.__new__» ⟨[.type "zip",.ref l1,.ref l2],[]⟩) (λ_ R s=>s.heap.IsTuple l1 xs/\s.heap.IsTuple l2 ys ∧
  R (.ok (.ret (.ref (E3 s.heap l1 l2).objs.size))) { s with heap:=u6 s.heap l1 l2 }) :=
 .of_wp λM w A R s h=>by
  obtain⟨U,g,d,L,os⟩:=s;obtain⟨B,q,h⟩:=h;have O:=sub_zip;have J:Heap.IsTuple (Shared.heap ⟨U,g,d,L,os⟩) l1 xs:=B;have D:Heap.IsTuple (Shared.heap ⟨U.push {cls:=.type "tuple_iterator",data:=.fields #[.ref l1,.int 0 0]},g,d,L,os⟩) l2 ys:=Heap.IsTuple.push q _
  wp_walk using WC J,WC D
  exact⟨_,rfl,h⟩
section
variable{E:aA->RI->Prop}
def E4(O:s.heap.IsTuple l1 xs)(M:s.heap.IsTuple l2 ys)
(h:∀ h',X3 h' (s.heap.objs.size+4) (s.heap.objs.size+2) (s.heap.objs.size+3) .none->U3 h' (s.heap.objs.size+2) (.ref s.heap.objs.size) (.ref (s.heap.objs.size+1)) →
  U3 h' (s.heap.objs.size+3) .none .none->h'.IsTupleIter s.heap.objs.size l1 0->h'.IsTupleIter (s.heap.objs.size+1) l2 0->h'.objs.size=s.heap.objs.size+5 →
  (∀ c o,s.heap.get? c=aa o->h'.get? c=aa o)->Q (.ref (s.heap.objs.size+4)) { s with heap:=h' }):
 av (R6 prog w) A (call (.type "zip") [.ref l1,.ref l2]) Q E s:=by
 refine callType_new F.called_zip (by decide) (F.typeCall_zip_2 _ _) (F.newCall_zip_2 _ _) (λL=>F.args_object_init_3 L _ _) F.entry_zip_new
  (rB l1 l2 xs ys) ⟨O,M,?_⟩
 have J:(EZ s.heap l1).objs.size=s.heap.objs.size+1:=SE ..;have D:(E1 s.heap l1 l2).objs.size=s.heap.objs.size+2:=by rw[SE,J]
 have B:(E2 s.heap l1 l2).objs.size=s.heap.objs.size+3:=by rw[SE,D]
 have q:(E3 s.heap l1 l2).objs.size=s.heap.objs.size+4:=by rw[SE,B]
 have Z:(u6 s.heap l1 l2).objs.size=s.heap.objs.size+5:=by rw[SE,q]
 have U:(u6 s.heap l1 l2).get? (E3 s.heap l1 l2).objs.size=aa _:=RM _ rfl;have V:(u6 s.heap l1 l2).get? (E2 s.heap l1 l2).objs.size=aa _:=RC _ (RM _ rfl);have W:(u6 s.heap l1 l2).get? (E1 s.heap l1 l2).objs.size=aa _:=RC _ (RC _ (RM _ rfl));have Y:(u6 s.heap l1 l2).get? (EZ s.heap l1).objs.size=aa _:=RC _ (RC _ (RC _ (RM _ rfl)));have a:(u6 s.heap l1 l2).get? s.heap.objs.size=aa _:=RC _ (RC _ (RC _ (RC _ (RM _ rfl))));show _/\_;rw[D,B,q] at U;rw[J,D] at W;rw[B] at V;rw[J] at Y;rw[q];exact ⟨⟨_,U,rfl⟩,h _ U W V ⟨_,a,rfl,rfl⟩ ⟨_,Y,rfl,rfl⟩ Z λc o x =>
  RC _ (RC _ (RC _ (RC _ (RC _ x))))⟩
def yF(h:A.handled=af)(M:s.heap.IsTuple l1 xs)(J:s.heap.IsTuple l2 ys)(V:0<xs.size)(U:xs.size=ys.size)(hn:xs.size<=aj)
(i:∀ h' tk q c as,(∀ b o,s.heap.get? b=aa o->h'.get? b=aa o)->h'.get? (s.heap.objs.size+5)=aa { cls:=.type "list",dict:=af,data:=.seq q c,slots:=#[] }->as.length=xs.size->ZG xs ys (s.heap.objs.size+5) h' as →
  q.toList=as.map SJ->Q (.ref (s.heap.objs.size+5)) { s with heap:=h',toks:=tk }):
 av (R6 prog w) A (call (.type "zip") [.ref l1,.ref l2]) (λv g=>v=.ref (s.heap.objs.size+4)/\av (R6 prog w) A (call (.type "list") [v]) Q E g) E s:=by
 have f:l1<s.heap.objs.size:=let ⟨o,e,_⟩:=M;RL e;have d:l2<s.heap.objs.size:=let ⟨o,e,_⟩:=J;RL e;refine E4 M J λB a p n m l Y W=>⟨rfl,?_⟩;have D:Ys (s.heap.objs.size+4) (s.heap.objs.size+2) (s.heap.objs.size+3) s.heap.objs.size (s.heap.objs.size+1) l1 l2:=zipApart_new f d;have L:ZLo (s.heap.objs.size+4) (s.heap.objs.size+2) (s.heap.objs.size+3) s.heap.objs.size (s.heap.objs.size+1) l1 l2 B.objs.size:=by rw[Y];exact⟨D,T4 _,Wa (by decide:2<5) _,Wa (by decide:3<5) _,Nat.lt_add_of_pos_right (by decide),Wa (by decide:1<5) _,Se f (Uh _ _),Se d (Uh _ _)⟩
 have Z:ZS (s.heap.objs.size+4) (s.heap.objs.size+2) (s.heap.objs.size+3) s.heap.objs.size (s.heap.objs.size+1) l1 l2 B.objs.size xs ys 0 B :=
  ⟨.inl ⟨rfl,a,_,_,n⟩,p,m,l,let ⟨o,e,r⟩:=M;⟨o,W _ o e,r⟩,let ⟨o,e,r⟩:=J;⟨o,W _ o e,r⟩⟩
 refine EY (s:={s with heap:=B}) h L V U hn a Z λh' tk q c as k e1 e2 O j=>?_;have k:∀b o,b≠s.heap.objs.size+4->b≠s.heap.objs.size+3->b≠s.heap.objs.size->b≠s.heap.objs.size+1->B.get? b=aa o->h'.get? b=aa o:=k;have e1:h'.get? B.objs.size=aa {cls:=.type "list",dict:=af,data:=.seq q c,slots:=#[]}:=e1;have O:ZG xs ys B.objs.size h' as:=O;show Q (.ref B.objs.size) _;rw[Y]at e1 O⊢;refine i h' tk q c as (λb o e=>k b o ?_ ?_ ?_ ?_ (W b o e)) e1 e2 O j
 all_goals exact Si (Se (RL e) (by first|exact Uh _ _|exact RQ _))
end
noncomputable def hpz(H:Hp)(n S:az)(as:List az)(ps:List (V×V)):Hp:=λb=>if b<n then H b else if b=S then aa (.aB (as.map V.ref))else((as.zip ps).lookup b).map λp=>HO.aC [p.1,p.2]
def BO{as:List az}{ps:List (V×V)}{b:az}{p:V×V}(h:(as.zip ps).lookup b=aa p):∃j:Nat,as[j]?=aa b/\ps[j]?=aa p:=by
 induction as generalizing ps with
 |nil=>cases h
 |cons a as B =>
  cases ps with
  |nil=>cases h
  |cons q ps =>
   rw[Yy,T3]at h
   by_cases e:b=a
   ·subst e;simp at h;subst h;exact⟨0,rfl,rfl⟩
   ·have L:(b==a)=ai:=by simpa using e
    rw[L]at h;obtain⟨j,J,D⟩:=B h;exact⟨j+1,by simpa using J,by simpa using D⟩
def E5{as:List az}{ps:List (V×V)}(L:as.Pairwise (· < ·)){j:Nat}{b:az}{p:V×V}(h1:as[j]?=aa b)(h2:ps[j]?=aa p):(as.zip ps).lookup b=aa p:=by
 induction as generalizing ps j with
 |nil=>simp at h1
 |cons a as J =>
  cases ps with
  |nil=>simp at h2
  |cons q ps =>
   rw[Yy,T3];obtain⟨D,B⟩:=List.pairwise_cons.mp L;cases j with
   |zero =>
    simp at h1 h2;subst h1 h2;simp
   |succ j =>
    simp at h1 h2;have lt:=D b (RU h1);have M:(b==a)=ai:=by simp only[bS,ne_eq];exact SY lt
    rw[M];exact J B h1 h2
theorem wL{K:RB}:∀{as:List az}{q B:List V}{xs ys:List aM},as.length=q.length->q.length=B.length->RDs K m H q xs->RDs K m H B ys →
 (∀(j:Nat) a v u,as[j]?=aa a->q[j]?=aa v->B[j]?=aa u->H a=aa (.aC [v,u])/\a∉m)->RDs K m H (as.map V.ref) (BT.sI xs ys)
 |[],_,_,_,_,h1,h2,r1,r2,_=>by
  cases r1 with
  |nil=>simp[BT.sI];exact .nil|cons _ _=>simp at h1
 |a::as,_,_,_,_,h1,h2,r1,r2,k=>by
  cases r1 with
  |nil=>simp at h1
  |cons M J =>
   cases r2 with
   |nil=>simp at h2
   |cons L D =>
    obtain⟨O,k2⟩:=k 0 a _ _ rfl rfl rfl;refine .cons (.aC (.inl ⟨.inl O,k2⟩) (.cons M (.cons L .nil))) (wL (by simpa using h1) (by simpa using h2) J D λj a v u e1 e2 U=>k (j+1) a v u (by simpa using e1) (by simpa using e2) (by simpa using U))
def qf(r:dg vs us){j:Nat}(h:us[j]?=aa u):∃v,vs[j]?=aa v/\RelV v u:=by
 have D:=r.length;have q:j<vs.length:=by have:=(List.getElem?_eq_some_iff.mp h).1;lia
 obtain⟨B,e1,e2⟩:=r.get (RJ q);rw[h]at e1;cases e1;exact⟨_,RJ q,e2⟩
section
def BP{X:Cx}{sc:Tu}{N:List ay}(O:Ok X F G sc N)(hu:fV N=ah){ex P:RN}{sa:aY}{np zp p pos:Pos}(hg:dJ sc "list"=ah)(hg2:dJ sc "zip"=ah)(hs:noStar ex=ah)(hs2:noStar P=ah)(hA:PA X [ex,P] (tDs X F G sa)):
 PE X (.Call (.Name "list" np) [.Call (.Name "zip" zp) [ex,P] [] pos] [] p) (tD X F G (.bi .lzip ai sa)):=by
 intro zt s T H Q I q;have q:=iF q;refine Call_ (gH (u:=.type "list") I (dQ O hg) (O.blt _ (by decide)) (by decide +kernel) (Ss ?_ (cX rfl) rfl));rw[cX (show noStar (.Call (.Name "zip" zp) [ex,P] [] pos)=ah from rfl)];show av _ _ (spliced ((ai,eval (.Call (.Name "zip" zp) [ex,P] [] pos) X.env)::UW p (Sv [] X.env))) _ _ s;refine Vi (Call_ (gH (u:=.type "zip") I (dQ O hg2) (O.blt _ (by decide)) (by decide +kernel) (Ss (thn (hA pos zt s T H _ I q) λus s1 ⟨vs,H1,I1,r1,L⟩=>?_) (cX hs) (dI (by simp[c7,hs2])))));obtain⟨m,h,ws,z,h',R,rws,e,zr⟩:=L;obtain⟨ds,d,e1,e2,⟨_,rfl,rfl⟩|⟨_,q,_⟩⟩:=gI e
 rotate_left
 cases q;have rr:=fX R rws e1;have hd:∃xs ys,ds=[.aC xs,.aC ys]:=by
  match ds,e2 with
  |[.aC xs,.aC ys],_=>exact⟨xs,ys,rfl⟩
 obtain⟨xs,ys,rfl⟩:=hd;rw[BT.An]at e2
 by_cases c:0<xs.length/\xs.length=ys.length
 rotate_left
 rw[bK c]at e2;cases e2;rw[bJ c]at e2;cases e2;cases rr with
 |cons ra t =>
  cases t with
  |cons W t =>
   cases t;cases ra with
   |d ra =>
    cases W with
    |d W =>
     cases ra with
     |@aC a B _ h1 ra =>
      cases W with
      |@aC b D _ h2 W =>
       obtain⟨u1,u2,rfl,ru1,ru2⟩:=r1.two;cases ru1;cases ru2;have sq1:SqT X.K H1 a B:=h1.elim (λq=>.inl q.1) λ⟨o,its,n,q,_⟩=>.inr ⟨o,its,n,q⟩;have sq2:SqT X.K H1 b D:=h2.elim (λq=>.inl q.1) λ⟨o,its,n,q,_⟩=>.inr ⟨o,its,n,q⟩;obtain⟨A,f,p1,z1⟩:=I1.tuple sq1;obtain⟨r,Z,p2,z2⟩:=I1.tuple sq2;have n1:=ra.length;have n2:=W.length;have n3:=f.length;have n4:=Z.length;refine thn (yF (Q:=EP X zt T Q) (I1.ok.hd (O.calm hu)) (xs:=A.toArray) (ys:=r.toArray) p1 p2 (by simp;lia) (by simp;lia) (by simp;lia) λh' tk acc cc J k g1 g2 E g4=>?_) λv s2 hv=>Vq hv.2;have M:∀c:az,c<s1.heap.objs.size->hpz H1 s1.heap.objs.size (s1.heap.objs.size+5) J (B.zip D) c=H1 c:=λc U=>bJ U;have nS:¬(s1.heap.objs.size+5<s1.heap.objs.size):=Nat.not_lt.mpr (Uh _ _);have atS:hpz H1 s1.heap.objs.size (s1.heap.objs.size+5) J (B.zip D) (s1.heap.objs.size+5)=aa (.aB (J.map V.ref)):=by unfold hpz;rw[bK nS,bJ rfl]
       have C:∀c:az,s1.heap.objs.size+5<c->hpz H1 s1.heap.objs.size (s1.heap.objs.size+5) J (B.zip D) c=((J.zip (B.zip D)).lookup c).map λp=>HO.aC [p.1,p.2]:=λc U=>by unfold hpz;rw[bK (Nat.not_lt.mpr (Sz (Uh _ 5) (Ub U))),bK (SY U)]
       have zg:∀(j:Nat)(v u:V),B[j]?=aa v->D[j]?=aa u->(B.zip D)[j]?=aa (v,u):=λj v u L i=>by rw[Xd];exact⟨L,i⟩
       have S:∀(j:Nat) a v u,J[j]?=aa a->B[j]?=aa v->D[j]?=aa u->hpz H1 s1.heap.objs.size (s1.heap.objs.size+5) J (B.zip D) a=aa (.aC [v,u]):=λj a v u L i q3=>by rw[C a (E.above a (RU L)),E5 E.rise L (zg j v u i q3)];rfl
       have fresh:∀c:az,s1.heap.objs.size<=c->H1 c=af:=λc U=>I1.aJ.fresh U;have live:∀c u,H1 c=aa u->hpz H1 s1.heap.objs.size (s1.heap.objs.size+5) J (B.zip D) c=aa u:=λc u q=>by rw[M c (I1.aJ.lt q)];exact q
       have aJ:HOk X.prog X.w (hpz H1 s1.heap.objs.size (s1.heap.objs.size+5) J (B.zip D)) h':=λc u q=>by
        by_cases lc:c<s1.heap.objs.size
        ·rw[M c lc]at q;exact(I1.aJ c u q).stay (λb o _ w=>k b o w) (λb w=>live b _ w) λb l w=>live b _ w
        ·by_cases ec:c=s1.heap.objs.size+5
         ·subst ec;rw[atS]at q;cases q;refine⟨by rw[RX,g2];simp;lia,acc.toList,cc,?_,by simpa using g1⟩;rw[g4];clear g1 g2 E g4 S C atS M live
          induction J with
          |nil=>exact .nil|cons a J ih=>exact .cons rfl ih
         ·have Y:=q;unfold hpz at Y;rw[bK lc,bK ec]at Y;cases hL:(J.zip (B.zip D)).lookup c with
          |none=>rw[hL]at Y;cases Y
          |some pr =>
           rw[hL]at Y;cases Y;obtain⟨j,j1,j2⟩:=BO hL;obtain⟨v,w⟩:=pr;rw[Xd]at j2;obtain⟨x,y,x1,y1,pa⟩:=E.pairs j c j1;obtain⟨v',v1,v2⟩:=qf f (by simpa using x1);obtain⟨w',w1,w2⟩:=qf Z (by simpa using y1);rw[j2.1]at v1;rw[j2.2]at w1;cases v1;cases w1;exact⟨by show 2<=aj;decide,[x,y],.cons v2 (.cons w2 .nil),_,pa,rfl,_,rfl⟩
       have I2:Inv X zt T (hpz H1 s1.heap.objs.size (s1.heap.objs.size+5) J (B.zip D)) { s1 with heap:=h',toks:=tk }:=Inv.EB (s:=s1) (tk:=tk) (fp:=[]) I1 (λb hb=>nomatch hb) (λb o _ e=>k b o e) M aJ;have x:Ext m H1 m (hpz H1 s1.heap.objs.size (s1.heap.objs.size+5) J (B.zip D)):=⟨⟨[],by simp,by simp⟩,λc o q _ _=>live c o q,λc q=>by
        cases g:H1 c with
        |none=>rfl
        | some o=>rw[live c o g] at q;exact bL q (by simp),λc ob vs q=>live c _ q⟩
       have ni:∀c:az,s1.heap.objs.size<=c->c∉m:=λc U=>R.jF (fresh c U);refine⟨.ref (s1.heap.objs.size+5),_,I2,rfl,zr _ _ m x (R.ext x live) (.p (.aB (.inl ⟨.inl atS,ni _ (Uh _ _)⟩) (wL ?_ ?_ (ra.ext x) (W.ext x) λj a v u L i q3=>⟨S j a v u L i q3,ni a ?_⟩)))⟩;rw[g2];simp;lia;lia;exact Sz (Uh _ 5) (Ub (E.above a (RU L)))
end
inductive ZK
 |l(a:az)|t(a:az)|s(x:ay)(k:Tok)
noncomputable def ZK.ty:ZK->String
 |.l _=>"list_iterator"|.t _=>"tuple_iterator"|.s x _=>strIterType x
noncomputable def ZK.val:ZK->aA
 |.l a=>.ref a|.t a=>.ref a|.s x k=>.str x k
def ZK.at(q:ZK)(B:az)(i:Nat)(h:aq):Prop:=match q with
 |.l a=>h.IsListIter B a i|.t a=>h.IsTupleIter B a i|.s x k=>h.IsStrIter B (strIterType x) x k i
def ZK.item(q:ZK)(i:Nat)(h:aq)(u:aA):Prop:=match q with
 |.l a=>∃B:List aA,h.IsList a B.toArray/\B[i]?=aa u|.t a=>∃B:List aA,h.IsTuple a B.toArray/\B[i]?=aa u|.s x _=>∃c t,x.cps[i]?=aa c/\u=.str ⟨#[c]⟩ t
def ZK.done(q:ZK)(i:Nat)(h:aq):Prop:=match q with
 |.l a=>∃B:List aA,h.IsList a B.toArray/\B.length<=i|.t a=>∃B:List aA,h.IsTuple a B.toArray/\B.length<=i|.s x _=>x.cps.size<=i
section
variable{prog:Sb}{w:SH}{A:TJ}{E:aA->RI->Prop}{s:RI}
end
def ZK.ob(q:ZK):ao:={cls:=.type q.ty,data:=.fields #[q.val,.int 0 0]}
def ZK.here(q:ZK)(h:aq):Prop:=match q with
 |.l a=>∃B:List aA,h.IsList a B.toArray|.t a=>∃B:List aA,h.IsTuple a B.toArray|.s _ _=>True
section
variable{prog:Sb}{w:SH}{A:TJ}{E:aA->RI->Prop}{s:RI}
end
section
variable{prog:Sb}{w:SH}{A:TJ}{E:aA->RI->Prop}{s:RI}
end
def ZK.has(q:ZK)(K:RB)(H:Hp)(i:Nat):Prop:=match q with
 |.l a=>∃B x,SqL K H a B/\B[i]?=aa x|.t a=>∃B x,SqT K H a B/\B[i]?=aa x|.s x _=>∃c,x.cps[i]?=aa c
def ZK.is(q:ZK)(K:RB)(H:Hp)(i:Nat)(v:V):Prop:=match q with
 |.l a=>∀B,SqL K H a B->B[i]?=aa v|.t a=>∀B,SqT K H a B->B[i]?=aa v|.s x _=>∃c,x.cps[i]?=aa c/\v=.str ⟨#[c]⟩
def ZK.over(q:ZK)(K:RB)(H:Hp)(i:Nat):Prop:=match q with
 |.l a=>∃B,SqL K H a B/\B.length<=i|.t a=>∃B,SqT K H a B/\B.length<=i|.s x _=>x.cps.size<=i
section
variable{X:Cx}{zt:List (az×ao)}{σ:L2.St}{H:Hp}{s:RI}
end
section
variable{F:FT}{G:ay->Option aN}
end
section
variable{prog:Sb}{w:SH}{A:TJ}{E:aA->RI->Prop}{s:RI}
end
section
variable{F:FT}{G:ay->Option aN}
end
section
variable{X:Cx}{F:FT}{G:ay->Option aN}
end
section
variable{X:Cx}{F:FT}{G:ay->Option aN}
end
section
variable{m:List az}
def RBs.length{vs:List V}{ns:List Nat}(r:RBs m vs ns):vs.length=ns.length:=by
 induction r with
 |nil=>rfl|cons _ _ q=>rw[RY,RY,q]
theorem RBs.get:∀{vs:List V}{ns:List Nat}{i n:Nat},RBs m vs ns->ns[i]?=aa n->∃a,vs[i]?=aa (.ref a)/\m[n]?=aa a
 |_,_,_,_,.nil,e=>by simp at e
 |_,_,0,_,.cons r _,e=>by simp at e;subst e;exact⟨_,rfl,r⟩
 |_,_,i+1,d,.cons _ t,e=>by obtain⟨u,B,q⟩:=RBs.get (i:=i) (n:=d) t (by simpa using e);exact⟨u,by simpa using B,q⟩
theorem RBs.add{n:Nat}{a:az}(h:m[n]?=aa a):∀{vs:List V}{ns:List Nat},RBs m vs ns->RBs m (vs++[.ref a]) (ns++[n])
 |_,_,.nil=>.cons h .nil|_,_,.cons r t=>.cons r (RBs.add h t)
def RBs.atI{vs:List V}{ns:List Nat}{i:Int}{d:Nat}(r:RBs m vs ns)(e:BT.atP ns i=aa d):∃a,L2.atI vs i=aa (.ref a)/\m[d]?=aa a:=by unfold BT.atP at e;unfold L2.atI;obtain⟨j,J,D⟩:=Option.bind_eq_some_iff.mp e;obtain⟨v,B,q⟩:=r.get D;refine⟨v,?_,q⟩;rw[r.length];show((BT.place ns.length i).bind λj=>vs[j]?)=_;rw[J];exact B
end
section
variable{F:FT}{G:ay->Option aN}
def Ja{X:Cx}{a:aU}(σ:L2.St)(H:Hp)(Q:VK)(q:tD X F G (.obl a) σ H Q):Ho (tDs X F G (.cons a .nil)) σ H Q:=by
 obtain⟨m,s,h,z,Z,R,S,D,L⟩:=q;simp only[aL]at D;obtain⟨x,V,e1,e2⟩:=cY D;cases x with
 |o n =>
  cases e2;refine⟨m,s,h,[.o n],V,R,S,by simp only[aX,e1,BT.eS,BT.kZ,BT.jc],λY W U M J O=>?_⟩;cases O with
  |cons r t =>
   cases t;cases r with
   |o hn =>
    refine⟨by show 1<=_;decide,λp B=>?_⟩;refine L _ _ (U++[p]) (M.trans (iX B)) (J.Ip B ⟨_,d9,.cons ((iX (H:=W) (o:=.own 0) B).ix hn) .nil⟩) (.r ?_);rw[←J.len];simp
 |_=>exact cU e2
def Jb{X:Cx}:IxR X (rOp X.prog X.w X.K BT.Ia):=by
 intro q B L s J H v u k l Q I V W h c;obtain⟨m,h,x,y,z,A,R,U,D,e,M⟩:=h;cases U with
 |@r a n hn =>
  cases D with
  |p D =>
   cases D with
   |int i =>
    rw[BT.D7]at e;obtain⟨t,g,e⟩:=Option.bind_eq_some_iff.mp e;obtain⟨d,e1,e2⟩:=dh e;cases e2;obtain⟨O,j,f⟩:=R.vY _ _ _ hn g;obtain⟨b,Z,Y⟩:=f.atI e1;exact vP q B L s J H _ _ _ _ Q I V W ⟨a,O,i,_,rfl,rfl,.inl (.inl j),Z,M _ _ m (.refl _ _) R (.o Y)⟩ c
   |_=>exact cU e
  |_=>exact cU e
 |_=>exact cU e
def Jc{X:Cx}{sc:Tu}{N:List ay}(O:Ok X F G sc N){a:aU}{e:RN}{p pos:Pos}(d:dJ sc "len"=ah)(b:noStar e=ah)(f:PA X [e] (tDs X F G (.cons a .nil))):PE X (.Call (.Name "len" p) [e] [] pos) (tD X F G (.obn a)):=by
 refine PE.weak (fq ja (dQ O d) (O.blt _ (by decide)) PySem.boot_len f (by decide) (by decide) (cX b) rfl) fun j H Q q=>?_;obtain⟨m,s,h,z,i,R,S,D,L⟩:=q;simp only[aL]at D;obtain⟨x,o,e1,e2⟩:=cY D;cases x with
 |r n =>
  rw[BT.Ie]at e2;obtain⟨l,g,B⟩:=Option.bind_eq_some_iff.mp e2;obtain⟨c,B⟩:=dw B;cases B;refine⟨m,s,h,[.r n],i,R,S,by simp only[aX,e1,BT.eS,BT.kZ,BT.jc],λk u Z M J V=>?_⟩;cases V with
  |cons r t =>
   cases t;cases r with
   |r hn =>
    obtain⟨U,Y,W⟩:=J.vY _ _ _ hn g;refine⟨_,U,rfl,.inl (.inl (.inl Y)),?_⟩;rw[W.length];exact L _ _ Z M J (.p (.int _))
 |_=>exact cU e2
def Jd{X:Cx}{o a:aU}{M e:RN}{apos cpos:Pos}(K:dS M=ah)(E:(apos.endLine==cpos.line)=ah)(Y:noStar e=ah)(C:PE X M (tD X F G o))(N:PA X [e] (tDs X F G (.cons a .nil))):PE X (.Call (.Attribute M "append" apos) [e] [] cpos) (tD X F G (.oba o a)):=by
 refine PE.weak (zU Ua WN WM pV C N (lz K) (by rw[jJ (es:=[e]) (by simp[c7,Y])];rfl) E (cX Y) rfl) fun σ H Q q=>?_;obtain⟨m,s,h,z,h',R,S,b,f⟩:=q;simp only[aL]at b;obtain⟨x,O,e1,e2⟩:=cY b;cases x with
 |r n =>
  rw[BT.Ic]at e2;have c:(BT.bat O n).isSome=ah:=Decidable.byContradiction λz=>by rw[bK z]at e2;exact cU e2
  rw[bJ c]at e2;obtain⟨y,P,e3,D⟩:=cY e2;obtain⟨u,T⟩:=Option.isSome_iff_exists.mp c;refine⟨m,s,h,.r n,O,R,S,e1,λv H1 A V d k=>?_⟩;cases k with
  |r hn =>
   obtain⟨J,l,_⟩:=d.vY _ _ _ hn T;refine⟨.inl ⟨rfl,J,.inl (.inl l)⟩,A,s,O,[y],P,d,S.ext V,by simp only[aX,e3,BT.eS,BT.kZ,BT.jc],λvs H2 w U R2 j=>?_⟩;cases j with
   |cons r t =>
    cases t;cases r with
    |o I =>
     rw[BT.Ib]at D;obtain⟨ns,g,D⟩:=Option.bind_eq_some_iff.mp D;obtain⟨c2,D⟩:=dw D;cases D;have B:=U.ix hn;obtain⟨i,L,W⟩:=R2.vY _ _ _ B g;have:=fW;have Z:=W.length;exact⟨_,i,_,rfl,rfl,L,by lia,f _ _ w ((V.trans U).trans (gZ (RU B) L)) (R2.setC B ⟨_,L,rfl⟩ ⟨_,d9,W.add I⟩) (.p .aD)⟩
    |_=>exact cU D
 |_=>exact cU e2
def yG{K:RB}{C f:az}(h:Sk K (.ref C) "__init__"=aa (aa (.ref f)))(h2:Vx K (.ref f)=ah):Yv K (.ref C) (.type "type") "__init__"=aa (.val (.ref f)):=by unfold Yv;rw[show Sk K (.type "type") "__init__"=aa (aa (.builtin "type.__init__")) from(by decide +kernel:Sk [] (.type "type") "__init__"=aa (aa (.builtin "type.__init__")))];simp only[SW];rw[show Uj K (.builtin "type.__init__") "__get__"=aa (aa (.builtin "wrapper_descriptor.__get__")) from(by decide +kernel:Uj [] (.builtin "type.__init__") "__get__"=aa (aa (.builtin "wrapper_descriptor.__get__")))];simp only[SW];rw[show Vv K (.builtin "type.__init__")=aa ai from(by decide +kernel:Vv [] (.builtin "type.__init__")=aa ai)];simp only[SW];rw[h];simp only[SW];rw[bK (show ¬Builtin.heldUnderItsOwnName "__init__" (.ref f)=ah from λz=>nomatch z),bQ h2];simp only[SW];rw[bJ (by decide +kernel)]
def Je{X:Cx}{sc:Tu}{N:List ay}(O:Ok X F G sc N){c:ay}{as:aY}{e:RN}{es:List RN}{E apos cpos:Pos}(hg:dJ sc c=ah)(hn:fK c=ah)(hl:(apos.endLine==cpos.line)=ah)(L:(e::es).length<20)(J:c7 (e::es)=ah)(ha:PA X (e::es) (tDs X F G as)):
 PE X (.Call (.Attribute (.Name c E) "__init__" apos) (e::es) [] cpos) (tD X F G (.sup c as)):=by
 intro d s M H Q I q;obtain⟨m0,t,h,z,h',R,S,i,l⟩:=q;simp only[aL]at i;obtain⟨f,g,e1,e2⟩:=cY i;obtain⟨C,ga,fd,ps,k,b,Z,hB,hR,ok⟩:=O.aF _ _ _ _ _ e2;obtain⟨C',_,_,_,_,a,Y,_,_,_,_⟩:=O.mkc _ _ _ _ e2;cases b.cn.inj a.cn;have U:vL (spF X.prog X.w X.K (F (.m c "__init__"))) [] E0 (tDs X F G as) M H Q:=by refine⟨m0,t,h,f,g,R,S,e1,λus j T o R1 A=>?_⟩;rw[Tt];exact⟨T,f,g,z,h',R1,A,e2,λp H5 P n R5 y=>l p H5 P (o.trans n) R5 y⟩
 have D:=b.rd;simp only[Wq,RK,beq_iff_eq]at D;have V:Uj X.K (.ref C) "__getattribute__"=aa (aa (.builtin "type.__getattribute__")):=by unfold Uj;rw[D.1.1.1.2];exact D.1.1.2
 have B:=J;simp only[c7,RK]at B;refine Vw (thn (qx (v:=.ref C) (dQ O hg) Y rfl (gE hn).1 d s M H (λv H'=>v=.ref C/\H'=H) I ⟨rfl,rfl⟩) λu s1 ⟨x,j,I1,rx,ex,eh⟩=>?_) (lV rfl J L hl);subst ex eh;obtain rfl:u=SJ C:=rx;refine PySem.W.method_cls I1.kIn V (PySem.W.cls_value I1.kIn b.rd (yG Z.at_ Z.fn) rfl ?_);have I2:=I1.tok (s1.toks+1);refine Vd (first:=[]) (h₀:=X.base) I.ok.mod.kin Z.kp (thn (ha cpos d _ M j _ I2 U) λus s2 ⟨vs,H2,I3,r,q2⟩=>⟨I3.kIn,?_⟩) (cX B.1) (dI B.2);exact nu (us:=us) (vs:=vs) ok hR hB .nil nA I3 r q2
end
section
def yH{X:Cx}{v:V}{ds:List aM}(r:∀m H,RW X.prog X.w X.K m H v (.p (.aC ds))):∃a vs,v=.ref a/\KT X.K a vs:=by
 have z:=r [] (λ_=>af);cases z with
 |p z =>
  cases z with
  |@aC a vs _ h _ =>
   rcases h with⟨h,_⟩|h
   ·rcases h with h|⟨o,h⟩<;>exact cU h
   exact⟨a,vs,rfl,h⟩
def yI{X:Cx}{sc:Tu}{N:List ay}(O:Ok X F G sc N){x:ay}{as:aY}{es:List RN}{np apos cpos:Pos}(h2:dJ sc x=ah)(h3:fK x=ah)(hl:(apos.endLine==cpos.line)=ah)(V:es.length<20)(i:CEs sc N as es)(ha:PA X es (tDs X F G as)):
 PE X (.Call (.Attribute (.Name x np) "index" apos) es [] cpos) (tD X F G (.me .tindex (.aE x) as)):=by
 have B:=gU i;intro v s t H Q I q;obtain⟨m,K,h,z,h',R,S,k,y⟩:=q;simp only[aL]at k;obtain⟨w,g,e1,e2⟩:=cY k;obtain⟨_,e2⟩:=v9 e2;obtain⟨M,j,c,D⟩:=cY e2;obtain⟨w',e5,e6⟩:=dh e1;cases e6;obtain⟨u,v0,hm,P,U⟩:=O.glob _ _ e5;have hT:∃J L,aZ M=aa J/\w=.p (.aC L)/\J≠[]:=by
  cases w with
  |p d =>
   rw[BT.nE]at D;cases W:aZ M with
   |none=>rw[W]at D;exact cU D
   |some J =>
    rw[W]at D;obtain⟨b,l,e8⟩:=dh D;cases d with
    |aC L=>refine⟨J,L,rfl,rfl,λz=>?_⟩;subst z;exact cU l|_=>cases J<;>exact cU l
  |_=>cases M<;>(first|exact cU D|simp[aP]at D)
 obtain⟨J,L,W,rfl,Y⟩:=hT;obtain⟨a,vt,rfl,o,its,n,⟨k1,k2,k3,k4,k5⟩,k6⟩:=yH U;cases es with
 |nil =>
  cases as with
  |cons a r=>exact(n8 i).elim|nil=>simp only[aX]at c;cases c;simp[aZ]at W;exact bL W Y
 |cons e es =>
  simp only[c7,RK] at B;have Z:decide ((e::es).length+([]:List Wb).length+(if ([]:List Wb).isEmpty then 0 else 1) < 30)=ah:=bO (by
   simp only[RY,SO,List.isEmpty_nil,if_true] at V ⊢;lia)
  refine (zU PySem.F.plainAttrs_tuple PySem.F.slot_tuple_index PySem.F.type_tuple_index (yr O.hu) (qx (dQ O h2) hm P (gE h3).1) ha rfl (by
   rw[jJ (es:=e::es) (by simp only[c7,RK];exact B),Z];rfl) hl (cX B.1) (dI B.2)) v s t H Q I ?_
  refine⟨.inr (.inl ⟨rfl,o,k1,k2,k6⟩),m,K,h,M,j,R,S,c,λvs H2 f C R2 r2=>?_⟩;exact⟨f,j,.p (.aC L),M,z,h',R2,U f H2,r2,D,λE H5 m5 A R5 T=>y E H5 m5 (C.trans A) R5 T⟩
def Jf{X:Cx}{me:BT.Me}(B:me=.append\/me=.pop\/me=.extend){o:aU}:∀(m:List az)(h h2:aO)(H:Hp)(v:V) (x:aN) ws r,RH X.K m H h->RW X.prog X.w X.K m H v x->BT.lR x h=ah->aP me x ws h2=aa r->(∃σ s,RS X.prog X.w X.K m H σ s/\∃D,aL F G o s D=aa (x,h))->tyV X.K "list" v H:=by intro m h h2 H v x ws r R q ok e _;obtain⟨n,rfl⟩:=P4 B e;exact ty_list R q ok
def P7{X:Cx}{o:aU}:∀(m:List az)(h h2:aO)(H:Hp)(v:V) (x:aN) ws r,RH X.K m H h->RW X.prog X.w X.K m H v x->BT.lR x h=ah->aP .sindex x ws h2=aa r->(∃σ s,RS X.prog X.w X.K m H σ s/\∃B,aL F G o s B=aa (x,h))->tyV X.K "str" v H:=by
 intro m h h2 H v x ws r R q _ e _;cases x with
 |p d =>
  rw[BT.nF]at e;cases g:aZ ws with
  |none=>rw[g]at e;exact cU e
  |some J =>
   rw[g]at e;obtain⟨b,D,L⟩:=dh e;cases d with
   |str y=>cases q with|p r=>cases r;exact rfl
   |_=>cases J<;>exact cU D
 |_=>cases ws<;>(first|exact cU e|simp[aP]at e)
def P8{X:Cx}{me:BT.Me}(J:me=.count\/me=.lindex){o:aU}:∀(m:List az)(h h2:aO)(H:Hp)(v:V) (x:aN) ws r,RH X.K m H h->RW X.prog X.w X.K m H v x->BT.lR x h=ah->aP me x ws h2=aa r->(∃σ s,RS X.prog X.w X.K m H σ s/\∃O,aL F G o s O=aa (x,h))->tyV X.K "list" v H:=by
 intro m h h2 H v x ws r R M _ e _;have B:∃D,x=.p (.aB D):=by
  cases x with
  |p d =>
   rw[sX]at e;cases g:aZ ws with
   |none=>rw[g]at e;exact cU e
   |some W =>
    rw[g]at e;obtain⟨b,U,Y⟩:=dh e;cases d with
    |aB y=>exact⟨y,rfl⟩
    |_=>rcases J with rfl|rfl<;>cases W<;>exact cU U
  |_=>rcases J with rfl|rfl<;>cases ws<;>(first|exact cU e|simp[aP]at e)
 obtain⟨D,rfl⟩:=B;cases M with
 |p r =>
  cases r with
  |@aB a L _ h _=>exact .inl ⟨rfl,L,LL.sq (h.elim (λq=>.inl q.1) .inr)⟩
def P9(σ:L2.St)(H:Hp)(Q:Bool->Hp->Prop)(q:tDT X F G e σ H Q):tB (tD X F G e) σ H Q:=by obtain⟨m,s,J,b,L,R,S,M,B⟩:=q;refine⟨m,s,J,_,L,R,S,M,λv U D x O r=>?_⟩;exact⟨b,lU r,B U D x O⟩
def XE(F:FT)(G:ay->Option aN)(X:Cx)(e':aU)(e:RN):Prop:=PE X e (tD X F G e')/\(tOK e'=ah->PT X e (tDT X F G e')/\∀B q p,e=.BoolOp B q p->PW X e (tDT X F G e'))
def XO(F:FT)(G:ay->Option aN)(X:Cx)(q:aY)(o:Option RN):Prop:=∃t,PO X o t ∧
 ∀D H (Q:Option Int->Hp->Prop),(∃m s h l J M,RH X.K m H h/\RS X.prog X.w X.K m H D s/\aX F G q s h=aa (J,M)/\(aZ J).bind BT.qE=aa l/\∀B L,Ext m H L B->RH X.K L B M->Q l B)->t D H Q
def eZ(p:PE X e (tD X F G e'))(L:∀D vs q,e≠.BoolOp D vs q)(J:∀B,isTrue e X.env B=(do let v ←B;Xz e.pos;VP [v] (truthy v)):=by intro _;rfl):XE F G X e' e :=
 ⟨p,λ_=>⟨PT.weak (GZ p J) P9,λD vs q z=>bL z (L D vs q)⟩⟩
def Jg:XO F G X .nil af:=⟨_,DE,fun D H Q q=>by obtain⟨m,s,h,l,J,L,R,S,e1,e2,B⟩:=q;simp only[aX]at e1;cases e1;simp[aZ,BT.qE]at e2;subst e2;exact B H m (.refl _ _) R⟩
def Jh(O:PE X e (tD X F G a)):XO F G X (.cons a .nil) (aa e):=by
 refine⟨_,DF O,fun Z H Q q=>?_⟩;obtain⟨m,s,h,l,b,U,R,S,e1,e2,D⟩:=q;simp only[aX]at e1;obtain⟨x,c,V,B⟩:=cY e1;simp only[BT.kZ,BT.eS,BT.jc]at B;cases B;refine⟨m,s,h,x,U,R,S,V,λv Y M J W L=>?_⟩;cases L with
 |p r =>
  cases r<;>simp[aZ,BT.qE]at e2;subst e2;exact⟨_,rfl,D Y M J W⟩
 |_=>simp[aZ]at e2
def jK(V:PE X e (tD X F G a))(U:noStar e=ah):PA X [e] (tDs X F G (.cons a .nil)) :=
 PA.weak (jT V qz (cX U)) fun B H Q q=>by obtain⟨m,s,h,J,W,R,S,Y,D⟩:=cons_of B H Q q;exact⟨m,s,h,J,W,R,S,Y,λv b O L Z M=>j3 (D v b O L Z M)⟩
def u9(J:PE X e (tD X F G a))(D:PE X f (tD X F G b))(B:noStar e=ah)(q:noStar f=ah):PA X [e,f] (tDs X F G (.cons a (.cons b .nil))) :=
 PA.weak (jT J (jK D q) (cX B)) cons_of
def MR(sc:Tu)(q:RN)(o:aU):Prop:=∃x p,o=.aE x/\q=.Name x p/\dJ sc x=ah/\fK x=ah
def Qa(sc:Tu):Tq->Prop
 |.e o q=>uO o=ai\/MR sc q o|_=>True
def E6(h:CQ sc N t):Qa sc t:=by
 induction h with
 |aE q hn=>exact .inr ⟨_,_,rfl,rfl,q,hn⟩
 |_=>first|exact .inl rfl|exact UG
def Ji(h:CE' sc N o oe):uO o=ai\/MR sc oe o:=E6 h
def sMe(O:Ok X F G sc N)(h1:Eb m o=ah)(h2:name=AJ m)(M:dS oe=ah)(J:(apos.endLine==cpos.line)=ah)(D:es.length<20)(U:CE' sc N o oe)(q:CEs sc N as es)(L:PE X oe (tD X F G o))(B:PA X es (tDs X F G as)):
 PE X (.Call (.Attribute oe name apos) es [] cpos) (tD X F G (.me m o as)):=by
 subst h2;cases m with
 |append=>exact oh (sc:=sc) (N:=N) Ua WN WM yp M J D L q B (Jf (.inl rfl))|pop=>exact oh (sc:=sc) (N:=N) Ua PySem.F.slot_list_pop PySem.F.type_list_pop IB M J D L q B (Jf (.inr (.inl rfl)))|extend=>exact oh (sc:=sc) (N:=N) Ua PySem.F.slot_list_extend PySem.F.type_list_extend yq M J D L q B (Jf (.inr (.inr rfl)))|sindex=>exact oh (sc:=sc) (N:=N) PySem.F.plainAttrs_str PySem.F.slot_str_index PySem.F.type_str_index yt M J D L q B P7
 |tindex =>
  rcases Ji U with z|⟨x,p,rfl,rfl,hg,hn⟩
  exact Bool.noConfusion (z.symm.trans h1);exact yI O hg hn J D q B
 |count=>exact oh (sc:=sc) (N:=N) Ua PySem.F.slot_list_count PySem.F.type_list_count (Bq O.hu) M J D L q B (P8 (.inl rfl))|_=>simp[Eb]at h1
def MS(B:PE X (.BoolOp .And (x::r) p) (tD X F G (.and a b)))(w:tOK (.and a b)=ah->PW X (.BoolOp .And (x::r) p) (tDT X F G (.and a b))):XE F G X (.and a b) (.BoolOp .And (x::r) p) :=
 ⟨B,λq=>⟨(w q).pt,λ_ _ _ e=>by cases e;exact w q⟩⟩
def sOr(B:PE X (.BoolOp .Or (x::r) p) (tD X F G (.or a b)))(w:tOK (.or a b)=ah->PW X (.BoolOp .Or (x::r) p) (tDT X F G (.or a b))):XE F G X (.or a b) (.BoolOp .Or (x::r) p) :=
 ⟨B,λq=>⟨(w q).pt,λ_ _ _ e=>by cases e;exact w q⟩⟩
def m7(h:tOK (.and a b)=ah):tOK a=ah/\tOK b=ah:=by have h:(tOK a&&tOK b)=ah:=h;simpa only[RK]using h
def rC(h:tOK (.or a b)=ah):tOK a=ah/\tOK b=ah:=by have h:(tOK a&&tOK b)=ah:=h;simpa only[RK]using h
def MX(F:FT)(G:ay->Option aN)(sc:Tu)(N:List ay):Tq->Prop
 |.e M e=>∀(X:Cx),Ok X F G sc N->XE F G X M e|.es O es=>∀(X:Cx),Ok X F G sc N->PA X es (tDs X F G O)|.o B o=>∀(X:Cx),Ok X F G sc N->XO F G X B o|.c cond q=>oA F G sc N cond q|.i J L iter=>∀(X:Cx),Ok X F G sc N->∀(D:RN),sU J D=ah->PI X D iter (iD X F G J L)
def sQ(h:CQ sc N t):MX F G sc N t:=by
 refine @CQ.rec (λsc N t _=>MX F G sc N t)
  (λr k a X O=>eZ (v8 O r k a) (λ_ _ _ z=>nomatch z))
  (λh X O=>eZ (Eo h) (λ_ _ _ z=>nomatch z))
  (λk a X O=>eZ (Ep O k a) (λ_ _ _ z=>nomatch z))
  (λh _ _ B J X O=>eZ (PE.weak (Lf (opB h) (B _ O).1 (J _ O).1) (n9 λs h=>by simp only[aL])) (λ_ _ _ z=>nomatch z))
  (λ_ B X O=>eZ (PE.weak (Gn zC (B _ O).1) IK) (λ_ _ _ z=>nomatch z))
  (λ_ B X O=>⟨PE.weak (G2 (B _ O).1) Ew,λL=>⟨PT.weak (G1 ((B _ O).2 L).1) Eu,λ_ _ _ e=>nomatch e⟩⟩)
  (λ_ _ B J X O=>MS (PE.weak (zl (B _ O).1 (zk (J _ O).1)) wj) λL=>PW.weak (zj ((B _ O).2 (m7 L).1).1 (Dj ((J _ O).2 (m7 L).2).1)) wk)
  (λ_ _ B J X O=>MS (PE.weak (zl (B _ O).1 (J _ O).1) wj) λL=>PW.weak (zj ((B _ O).2 (m7 L).1).1 (((J _ O).2 (m7 L).2).2 _ _ _ rfl)) wk)
  (λ_ _ B J X O=>sOr (PE.weak (Gm (B _ O).1 (zk (J _ O).1)) Be) λL=>PW.weak (Gi ((B _ O).2 (rC L).1).1 (G0 ((J _ O).2 (rC L).2).1)) Bf)
  (λ_ _ B J X O=>sOr (PE.weak (Gm (B _ O).1 (J _ O).1) Be) λL=>PW.weak (Gi ((B _ O).2 (rC L).1).1 (((J _ O).2 (rC L).2).2 _ _ _ rfl)) Bf)
  (λh _ _ i B J X O=>⟨PE.weak (Dt (opC O h) (B _ O).1 (J _ O).1 i) (n9 λs h=>by simp only[aL]),λ_=>⟨PT.weak (Du (opC O h) (B _ O).1 (J _ O).1 i) (tw (n9 λs h=>by simp only[aL])),λ_ _ _ e=>nomatch e⟩⟩)
  (λh v _ _ _ i B J d X O=>⟨PE.weak (zF (opC O h) (opC O v) (B _ O).1 (J _ O).1 (d _ O).1 i) tE,λ_=>⟨PT.weak (zG (opC O h) (opC O v) (B _ O).1 (J _ O).1 (d _ O).1 i) (tw tE),λ_ _ _ e=>nomatch e⟩⟩)
  (λh _ _ _ d B J X O=>⟨PE.weak (zm ((d _ O).2 h).1 (B _ O).1 (J _ O).1) IJ,λL=>nomatch L⟩)
  (λ_ B X O=>⟨PE.weak (Hq (B _ O)) IP,λL=>nomatch L⟩)
  (λ_ B X O=>⟨PE.weak (zL (B _ O)) IQ,λL=>nomatch L⟩)
  (λ_ _ D B g X O=>eZ (PE.weak (Gq IA (B _ O).1 (g _ O).1 (sZ D)) (n9 λs h=>by simp only[aL])) (λ_ _ _ z=>nomatch z))
  (λ_ _ _ B y w X O=>eZ (by
   obtain ⟨tl,o,n⟩:=y _ O;obtain ⟨R,m,l⟩:=w _ O;exact PE.weak (zS osl (B _ O).1 o m) (IL n l)) (λ_ _ _ z=>nomatch z))
  (λM hn Z B X O=>eZ (Bg O M hn Z (B _ O)) (λ_ _ _ z=>nomatch z))
  (λW M V D _ B X O=>eZ (BH O W M V D (jK (B _ O).1 D)) (λ_ _ _ z=>nomatch z))
  (λW M V D _ B X O=>eZ (BB O W M V D (jK (B _ O).1 D)) (λ_ _ _ z=>nomatch z))
  (λW b M D _ B X O=>eZ (IM O W b M (by simp[c7,D]) (jK (B _ O).1 D)) (λ_ _ _ z=>nomatch z))
  (λb M V D _ B X O=>eZ (Bh O b M V D (B _ O).1) (λ_ _ _ z=>nomatch z))
  (λr k a c j E Z f B X O=>eZ (sMe O r k a c j E Z (f _ O).1 (B _ O)) (λ_ _ _ z=>nomatch z))
  (λW p L C D _ _ _ g d A X O=>⟨ER O W p L D (g _ O _ C) d λK u=>(A _ u).1,λL=>nomatch L⟩)
  (λb I _ B X O=>eZ (Ey (sc:=sc) (N:=N) b I (B _ O).1) (λ_ _ _ z=>nomatch z))
  (λa c j _ Z f B X O=>eZ (Bk O a c j (f _ O).1 Z (B _ O)) (λ_ _ _ z=>nomatch z))
  (λp _ B X O=>eZ (Ez p (B _ O).1) (λ_ _ _ z=>nomatch z))
  (λW b M Y U _ _ B J X O=>eZ (EA O W b M (by simp[c7,Y,U]) (u9 (B _ O).1 (J _ O).1 Y U)) (λ_ _ _ z=>nomatch z))
  (λW M V Y U _ _ B J X O=>eZ (BP O W M V Y U (u9 (B _ O).1 (J _ O).1 Y U)) (λ_ _ _ z=>nomatch z))
  (λM hn Z B X O=>eZ (Bl O M hn Z (B _ O)) (λ_ _ _ z=>nomatch z))
  (λD _ B X O=>⟨PE.weak (zL (jK (B _ O).1 D)) Ja,λL=>nomatch L⟩)
  (λa c D _ _ f B X O=>eZ (Jd a c D (f _ O).1 (jK (B _ O).1 D)) (λ_ _ _ z=>nomatch z))
  (λ_ _ D B g X O=>eZ (PE.weak (Gq Jb (B _ O).1 (g _ O).1 (sZ D)) (n9 λs h=>by simp only[aL])) (λ_ _ _ z=>nomatch z))
  (λM D _ B X O=>eZ (Jc O M D (jK (B _ O).1 D)) (λ_ _ _ z=>nomatch z))
  (λM hn c j Z B X O=>eZ (Je O M hn c j (gU Z) (B _ O)) (λ_ _ _ z=>nomatch z))
  (λX O=>PA.weak qz fun P H Q q=>j3 q)
  (λD _ _ B x X O=>PA.weak (jT (B _ O).1 (x _ O) (cX D)) cons_of)
  (λX O=>Jg)
  (λ_ B X O=>Jh (B _ O).1)
  (.inl ⟨rfl,rfl⟩)
  (λL _ B=>.inr ⟨_,_,rfl,rfl,λK u=>((B _ u).2 L).1⟩)
  (λM D _ B X O _ _=>Bv O M D (jK (B _ O).1 D))
  (λM D U _ _ B J X O _ _=>Bw O M D U (u9 (B _ O).1 (J _ O).1 D U))
  (λM D _ B X O _ _=>EF O M D (B _ O).1)
  (λ_ B X O _ _=>EE (B _ O).1)
  sc N t h
def sE(h:CE' sc N e' e)(O:Ok X F G sc N):PE X e (tD X F G e'):=(sQ h X O).1
def sT(h:CE' sc N e' e)(O:Ok X F G sc N)(B:tOK e'=ah):PT X e (tDT X F G e')/\∀q vs p,e=.BoolOp q vs p->PW X e (tDT X F G e'):=(sQ h X O).2 B
def sCC{cond:aY}(h:CC sc N cond ifs):oA F G sc N cond ifs:=sQ h
def sCI(h:CI sc N sr sa iter)(O:Ok X F G sc N)(hz:sU sr tg=ah):PI X tg iter (iD X F G sr sa):=sQ h X O tg hz
end
end BS
end
section
namespace BS
open PySem PySem.Spec PyProof.Rows L2
open Classical in
section
end
section
variable{F:FT}{G:ay->Option aN}
section
variable{X:Cx}{cl:List (ay×az)}{H3 H5:Hp}{s3 s5:RI}{m2 m5:List az}
end
end
end BS
end
section
namespace BS
open PySem PySem.Spec PyProof.Rows L2
variable{K:RB}{st:S9}{xe':aA->RI->Prop}
noncomputable def lZ:RN->Bool
 |.ListComp _ _ _ _=>ai|.SetComp _ _ _ _=>ai|.DictComp _ _ _ _ _=>ai|_=>ah
noncomputable def swB(sc q:Tu)(x:ay)(B pos:Pos):Bool :=
 (if sc.kind.isAnnotationScope then ScopeKind.function else sc.kind)==.function&&sc.names.lookup x==aa .local&&B.line==pos.line&&!(q.names.any λ(n,k)=>n==x&&(k==.local||k==.cell))
mutual
inductive CS(sc:Tu)(N:List ay):BT.S->S9->Prop
 |setc{i:Nat}{x:ay}{mu:Bool}{M:BT.Sr}{O:aY}{tg:List ay}{L:List (Nat×ay)}{cond:aY}{D:aU}{te iter B:RN}{J:List RN}{q:Tu}{pos U p:Pos}(hu:fV N=ah)(h1:N[i]?=aa x)(Z:(sc.names.lookup x==aa .cell||swB sc q x U pos)=ah)
  (Y:kE sc N tg L q=ah) (V:sV (d8 q sc) tg te=ah) (hz:sU M te=ah) (W:kD iter=ah) (hi:CI sc N M O iter) (hc:CC (d8 q sc) (tg++L.map (·.2)) cond J) (he:CE' (d8 q sc) (tg++L.map (·.2)) D B) :
  CS sc N (.set i (.comp mu M O tg L cond D)) (.Assign [.Name x U] (.ListComp B [⟨te,iter,J,0⟩] q pos) p)
 |set{i:Nat}{x:ay}{e:aU}{v:RN}{q p:Pos}(h1:N[i]?=aa x)(h2:om sc x=ah)(B:lZ v=ah)(D:CE' sc N e v):CS sc N (.set i e) (.Assign [.Name x q] v p)
 |unp{tg:List (Nat×ay)}{e:aU}{es:List RN}{k:Nat}{D:RN}{args:List RN}{kw:List Wb}{B q p:Pos}(L:fV N=ah)(J:CT sc N tg (.Tuple es k B))(M:CE' sc N e (.Call D args kw q)):CS sc N (.unp tg e) (.Assign [.Tuple es k B] (.Call D args kw q) p)
 |put{i:Nat}{x:ay}{k e:aU}{q v:RN}{B sp p:Pos}(h1:N[i]?=aa x)(h2:sR sc x=ah)(J:fK x=ah)(L:lZ v=ah)(D:k8 q=ah)(O:CE' sc N k q)(M:CE' sc N e v):CS sc N (.put i k e) (.Assign [.Subscript (.Name x B) q sp] v p)
 |aug{i:Nat}{x:ay}{o:bA}{q:Wc}{e:aU}{v:RN}{B p:Pos}(h1:N[i]?=aa x)(h2:om sc x=ah)(D:Bm o q=ah)(J:CE' sc N e v):CS sc N (.aug i o e) (.AugAssign (.Name x B) q v p)
 |setf{o e:aU}{f:ay}{q v:RN}{B p:Pos}(h1:attrName f=ah)(h2:lZ v=ah)(J:CE' sc N o q)(D:CE' sc N e v):CS sc N (.setf o f e) (.Assign [.Attribute q f B] v p)
 |augf{o e:aU}{f:ay}{b:bA}{B:Wc}{q v:RN}{D p:Pos}(h1:attrName f=ah)(J:Bm b B=ah)(L:CE' sc N o q)(M:CE' sc N e v):CS sc N (.augf o f b e) (.AugAssign (.Attribute q f D) B v p)
 |ex{e:aU}{v:RN}{p:Pos}(h:lZ v=ah)(q:CE' sc N e v):CS sc N (.ex e) (.Expr v p)
 |ret{e:aU}{v:RN}{p:Pos}(q:CE' sc N e v):CS sc N (.ret e) (.Return (aa v) p)
 |v{c:aU}{a b:BT.S}{t:RN}{xs ys:List S9}{p:Pos}(h:tOK c=ah)(D:CE' sc N c t)(q:CSs sc N a xs)(B:CSs sc N b ys):CS sc N (.v c a b) (.If t xs ys p)
 |j{c:aU}{b:BT.S}{t:RN}{xs:List S9}{p:Pos}(h:tOK c=ah)(B:CE' sc N c t)(q:CSs sc N b xs):CS sc N (.j c b) (.While t xs [] p)
 |for{tg:List (Nat×ay)}{q:BT.Sr}{B:aY}{b:BT.S}{te iter:RN}{xs:List S9}{p:Pos}(L:fV N=ah)(J:CT sc N tg te)(hi:CI sc N q B iter)(hz:sU q te=ah)(M:kD iter=ah)(D:CSs sc N b xs):CS sc N (.for tg q B b) (.For te iter xs [] p)
 |bad{st:S9}:CS sc N .bad st
 |rai{st:S9}{c:ay}{e:aU}:CS sc N (.rai c e) st
 |tryr{e:aU}{v:RN}{p q:Pos}{B:WJ}{D:List WJ}(J:CE' sc N e v):CS sc N (.ret e) (.Try [.Return (aa v) p] (B::D) [] [] q)
inductive CSs(sc:Tu)(N:List ay):BT.S->List S9->Prop
 |nil:CSs sc N .nil []
 |one{s:BT.S}{st:S9}(h:CS sc N s st):CSs sc N s [st]
 |cons{a b:BT.S}{st q:S9}{r:List S9}(h:CS sc N a st)(B:CSs sc N b (q::r)):CSs sc N (.seq a b) (st::q::r)
end
def lB(X:Cx)(m:List az)(H:Hp)(O:BT.Fl)(D:Ends):Prop:=match O with
 |.nx M L=>∀B q J,Ext m H J q->RH X.K J q L->RS X.prog X.w X.K J q B M->D.nx B q|.rt z L=>∀v q J,Ext m H J q->RH X.K J q L->RW X.prog X.w X.K J q v z->D.rt v q|.bk M L=>∀B q J,Ext m H J q->RH X.K J q L->RS X.prog X.w X.K J q B M->D.bk B q|.ct M L=>∀B q J,Ext m H J q->RH X.K J q L->RS X.prog X.w X.K J q B M->D.ct B q
def lB.ext{D:Ends}(x:Ext m H m' H')(p:lB X m H fl D):lB X m' H' fl D:=by cases fl<;>exact λa b c y=>p a b c (x.trans y)
inductive tDS(X:Cx)(F:FT)(G:ay->Option aN)(S:BT.S)(D:Ends)(σ:L2.St)(H:Hp):Prop
 |mk(m:List az)(s:bx)(h:aO)(q:BT.Fl)(R:RH X.K m H h)(r:RS X.prog X.w X.K m H σ s)(e:aS F G S s h=aa q)(p:lB X m H q D):tDS X F G S D σ H
def PS.weak(h:PS X st t)(q:∀D σ H,t' D σ H->t D σ H):PS X st t':=λB s σ H D I hw=>h B s σ H D I (q _ _ _ hw)
def PSs.weak{st:List S9}(h:PSs X st t)(q:∀D σ H,t' D σ H->t D σ H):PSs X st t':=λB s σ H D I hw=>h B s σ H D I (q _ _ _ hw)
section
def BQ(D:Ends)(σ:L2.St)(H:Hp)(q:tDS X F G (.seq a b) D σ H):K1 (tDS X F G a) (tDS X F G b) D σ H:=by
 obtain⟨m,s,h,W,R,S,e,B⟩:=q;simp only[aS]at e;cases g:aS F G a s h with
 |none=>rw[g]at e;exact cU e
 |some J =>
  rw[g]at e;refine⟨m,s,h,J,R,S,g,?_⟩;cases J with
  |nx O V=>exact fun L c U M Z Y=>⟨U,O,V,W,Z,Y,e,B.ext M⟩
  |_=>cases e;exact B
def lC{X:Cx}{M:BT.S}{a:aU}{k:bx->aN->aO->Option BT.Fl}(Y:∀s h,aS F G M s h=bB (aL F G a s h) (k s)){D:Ends}{σ:L2.St}{H:Hp}(q:tDS X F G M D σ H){R':V->Hp->Prop}
(h1:∀m s h x B v H1,RH X.K m H1 h->RS X.prog X.w X.K m H1 σ s->RW X.prog X.w X.K m H1 v x->k s x h=aa B->lB X m H1 B D->R' v H1):tD X F G a σ H R':=by
 obtain⟨m,s,h,B,R,S,L,O⟩:=q;rw[Y]at L;obtain⟨x,g,e1,e2⟩:=cY L;exact⟨m,s,h,x,g,R,S,e1,λv H1 W J Z U=>h1 W s g x B v H1 Z (S.ext J) U e2 (O.ext J)⟩
def wM(h:BT.tst x k=aa fl):∃b g,x=aa (.p (.bl b),g)/\k b g=aa fl:=by
 unfold BT.tst at h;obtain⟨w,g,e1,e2⟩:=cY h;unfold BT.Mi at e2;cases w with
 |p d =>
  cases d<;>simp only at e2<;>try contradiction
  exact⟨_,g,e1,e2⟩
 |_=>exact cU e2
def m8(h:lZ e=ah):Vl e t l env=pure ai:=by cases e<;>first|rfl|exact aT h
def E7(h:lZ e=ah):swapsWithSole [t] e l env=pure ai:=m8 h
def vc(h:k8 i=ah):∀ v,Xb (.Subscript o i pos) env v=(do
 let ov ←VP [v] (eval o env)
 let iv ←VP [v,ov] (eval i env)
 Xz pos
 VP [v,ov,iv] (setItem ov iv v)
 release [v,ov,iv] []):=by
 intro v;cases i<;>first|rfl|exact aT h
def Jj(D:Ends)(σ:L2.St)(H:Hp)(q:tDS X F G (.j c b) D σ H):zA (tDT X F G c) (tDS X F G b) D σ H:=by
 obtain⟨x,s,h,k,R,S,e,J⟩:=q;simp only[aS]at e;refine⟨λn σ H=>∃m s h,RH X.K m H h/\RS X.prog X.w X.K m H σ s/\BT.fO (aL F G c) (aS F G b) n s h=aa k/\lB X m H k D,⟨BT.turns,x,s,h,R,S,e,J⟩,?_⟩
 rintro n σ1 H1 ⟨m,s,h,R,S,e,J⟩
 cases n with
 |zero=>exact cU e
 |succ n =>
  rw[BT.fO]at e;obtain⟨t,g,e1,e2⟩:=wM e;refine⟨m,s,h,t,g,R,S,e1,λy p M R2=>?_⟩;cases t with
  |false =>
   rw[BT.nR]at e2;cases e2;rw[bK (by decide)];exact J σ1 y p M R2 (S.ext M)
  |true =>
   rw[BT.nQ]at e2;rw[bJ rfl];refine⟨fun V l=>∃W f i,RH X.K W l i/\RS X.prog X.w X.K W l V f/\BT.fO (aL F G c) (aS F G b) n f i=aa k/\lB X W l k D,fun V l ⟨W,f,i,a1,a2,a3,a4⟩=>⟨n,T4 n,W,f,i,a1,a2,a3,a4⟩,?_⟩;cases o:aS F G b s g with
   |none=>rw[o]at e2;exact cU e2
   |some r =>
    rw[o]at e2;refine⟨p,s,g,r,R2,S.ext M,o,?_⟩;cases r with
    |nx d Y=>exact fun B a O L U Z=>⟨O,d,Y,U,Z,e2,(J.ext M).ext L⟩
    |ct d Y=>exact fun B a O L U Z=>⟨O,d,Y,U,Z,e2,(J.ext M).ext L⟩
    |bk d Y=>cases e2;exact fun B a O L U Z=>J B a O (M.trans L) U Z
    |rt z Y=>cases e2;exact λv a O L U u=>J v a O (M.trans L) U u
def Jk(D:Ends)(σ:L2.St)(H:Hp)(q:tDS X F G (.aug i o e) D σ H):K9 i (tD X F G e) (IR o) D σ H:=by
 obtain⟨m,s,h,l,R,S,V,W⟩:=q;simp only[aS]at V;obtain⟨y,g,e1,e2⟩:=cY V;unfold BT.Ms at e2;have j:∃d O z,s[i]?=aa (aa (.p d))/\y=.p O/\BT.nC o d O=aa z/\l=.nx (s.set i (aa (.p z))) g:=by
  cases B:s[i]? with
  |none=>rw[B]at e2;cases y<;>exact cU e2
  |some Z =>
   cases Z with
   |none=>rw[B]at e2;cases y<;>exact cU e2
   |some Y =>
    rw[B]at e2;cases Y<;>cases y<;>simp only at e2<;>try contradiction
    obtain⟨z,J,n⟩:=dh e2;exact⟨_,_,z,rfl,rfl,J,n.symm⟩
 obtain⟨d,O,z,B,rfl,J,rfl⟩:=j;obtain⟨a,b,k,rfl,rfl,rfl⟩:=wu J;obtain⟨v,f,L⟩:=S.get i _ B;have ev:v=.int a:=by cases L with|p L=>cases L;rfl
 subst ev;refine⟨_,f,m,s,h,_,g,R,S,e1,λu t c U r M=>?_⟩;cases M with
 |p M =>
  cases M;exact⟨a,b,k,rfl,rfl,J,W _ t c U r ((S.ext U).set (.p (.int k)))⟩
def yJ(e:BT.qN s f v x h=aa fl):∃n c fs,x=.o n/\bw h n=aa (c,fs)/\BT.attrOk v=ah/\fs.length<1000/\fl=.nx s (h.set n (.o c (BT.eB f v fs))):=by
 cases x with
 |o n =>
  rw[BT.AD]at e;cases g:bw h n with
  |none=>rw[g]at e;exact cU e
  |some q =>
   obtain⟨c,fs⟩:=q;rw[g]at e;simp only at e;obtain⟨B,e⟩:=dw e;cases e;simp only[RK,bM]at B;exact⟨n,c,fs,rfl,g,B.1,B.2,rfl⟩
 |_=>exact cU e
def tN{D:Ends}(R:RH X.K m H h)(S:RS X.prog X.w X.K m H σ s)(hn:m[n]?=aa a)(h1:H a=aa (.ins C dx vs))(h2:nV X.K c C)(B:RFs X.K m H vs fs)(ra:RA X.K m H v y)
(q:lB X m H (.nx s (h.set n (.o c (BT.eB f y fs)))) D):D.nx σ (upd H a (.ins C dx (L2.eB f v vs))):=by
 have x:Ext m H m (upd H a (.ins C dx (L2.eB f v vs))):=nW (RU hn) ⟨_,h1,rfl⟩;exact q σ _ m x (R.setC hn ⟨_,h1,rfl⟩ ⟨C,dx,_,d9,h2,(RFs.put ra B).ext x⟩) (S.ext x)
def E8{X:Cx}{o e:aU}{f:ay}(Y:attrName f=ah)(D:Ends)(σ:L2.St)(H:Hp)(q:tDS X F G (.setf o f e) D σ H):Lm X.K (tD X F G o) (tD X F G e) f D σ H:=by
 refine lC (k:=λs=>BT.AE (aL F G o s) s f) (λs h=>by simp only[aS]) q λm s h y j v p R S r e1 O=>?_;rw[BT.AF]at e1;obtain⟨x,g,e2,b⟩:=cY e1;obtain⟨n,c,fs,rfl,Z,ok,W,rfl⟩:=yJ b;refine⟨m,s,h,.o n,g,R,S,e2,λu l i B R2 V=>?_⟩;cases V with
 |@o a _ hn =>
  obtain⟨C,d,U,M,J,L⟩:=R2.sW _ _ _ _ hn Z;exact⟨a,C,d,U,rfl,M,J.cls,J.no f Y,by rw[L.length];exact W,tN R2 (S.ext B) hn M J L ((r.ext B).ra ok) (O.ext B)⟩
def BU(e:BT.vX ee s f op x h=aa fl):∃n c fs d y g fs' z,x=.o n/\bw h n=aa (c,fs)/\BT.dN f fs=aa (.p d)/\ee h=aa (.p y,g)/\bw g n=aa (c,fs')/\BT.nC op d y=aa z/\fs'.length<1000/\fl=.nx s (g.set n (.o c (BT.eB f (.p z) fs'))):=by
 cases x with
 |o n =>
  rw[BT.D8]at e;cases L:bw h n with
  |none=>rw[L]at e;exact cU e
  |some q =>
   obtain⟨c,fs⟩:=q;rw[L]at e;simp only at e;cases J:BT.dN f fs with
   |none=>rw[J]at e;exact cU e
   |some O =>
    rw[J]at e;cases O with
    |p d =>
     simp only at e;obtain⟨y,g,e1,e2⟩:=cY e;cases y with
     |p y =>
      rw[BT.AG]at e2;cases D:bw g n with
      |none=>rw[D]at e2;exact cU e2
      |some q =>
       obtain⟨U,fs'⟩:=q;rw[D]at e2;simp only at e2;cases B:BT.nC op d y with
       |none=>rw[B]at e2;exact cU e2
       |some z =>
        rw[B]at e2;simp only at e2;obtain⟨M,e2⟩:=dw e2;cases e2;obtain⟨rfl,M⟩:=M;exact⟨n,U,fs,d,y,g,fs',z,rfl,L,J,e1,D,B,M,rfl⟩
     |_=>exact cU e2
    |_=>exact cU e
 |_=>exact cU e
def E9{X:Cx}{o e:aU}{f:ay}{b:bA}(E:attrName f=ah)(D:Ends)(σ:L2.St)(H:Hp)(q:tDS X F G (.augf o f b e) D σ H):vK X.K (tD X F G o) (tD X F G e) (IR b) f D σ H:=by
 refine lC (k:=λs=>BT.vX (aL F G e s) s f b) (λs h=>by simp only[aS]) q λm s h y fl v H1 R S r e1 Z=>?_;obtain⟨n,c,fs,d,y,g,Q,z,rfl,P,N,e2,I,Y,A,rfl⟩:=BU e1;obtain⟨i,j,k,rfl,rfl,rfl⟩:=wu Y;cases r with
 |@o a _ hn =>
  obtain⟨C,dx,t,x,M,w⟩:=R.sW _ _ _ _ hn P;obtain⟨u,l,ra⟩:=w.get N;have T:u=.int i:=by cases ra with|p ra=>cases ra;rfl
  subst T;refine⟨a,C,dx,t,_,rfl,x,M.cls,M.no f E,l,m,s,h,_,g,R,S,e2,λu2 H2 m2 B R2 L=>?_⟩;cases L with
  |p L =>
   cases L;obtain⟨C',O,J,W,V,U⟩:=R2.sW _ _ _ _ (B.ix hn) I;cases V.cn.inj M.cn;exact⟨i,j,k,rfl,rfl,Y,O,J,W,by rw[U.length];exact A,tN R2 (S.ext B) (B.ix hn) W V U (.p (.int k)) (Z.ext B)⟩
def Jl{X:Cx}{i:Nat}{k e:aU}(D:Ends)(σ:L2.St)(H:Hp)(q:tDS X F G (.put i k e) D σ H):zw (tD X F G e) (K8 (tD X F G (.v i)) (tD X F G k) Gs) D σ H:=by
 refine lC (k:=λs=>BT.Ik (aL F G k s) s i) (λs h=>by simp only[aS]) q λm s h y K v P R S r e1 z=>?_;unfold BT.Ik at e1;cases y with
 |p d =>
  cases g:s[i]? with
  |none=>rw[g]at e1;exact cU e1
  |some o =>
   cases o with
   |none=>rw[g]at e1;exact cU e1
   |some A =>
    cases A with
    |r n =>
     rw[g]at e1;simp only at e1;obtain⟨q,t,e2,B⟩:=cY e1;refine⟨m,s,h,.r n,h,R,S,by simp only[aL,g],λo N E L R2 C=>⟨E,s,h,q,t,R2,S.ext L,e2,λI x V J w M=>?_⟩⟩;unfold BT.Gz at B;cases q with
     |p u =>
      cases Z:bg t n with
      |none=>rw[Z]at B;cases u<;>exact cU B
      |some b =>
       rw[Z]at B;cases u with
       |int j =>
        simp only at B;cases Y:BT.place b.length j with
        |none=>rw[Y]at B;exact cU B
        |some U =>
         rw[Y]at B;cases B;have O:=C.ext J;cases O with
         |@r a _ hn =>
          cases M with
          |p M =>
           cases M;obtain⟨f,W,l⟩:=w.cell n a b hn Z;refine⟨a,f,j,U,rfl,rfl,W,by rw[l.length];exact Y,?_⟩;have c:Ext V x V (upd x a (.aB (f.set U v))):=gZ (RU hn) W;cases r with
           |p r=>exact z σ _ V ((L.trans J).trans c) (w.set hn W (RDs.set ((r.ext L).ext J) U l)) (((S.ext L).ext J).ext c)
       |_=>exact cU B
     |_=>exact cU B
    |_=>rw[g]at e1;exact cU e1
 |_=>exact cU e1
end
noncomputable def cxT(X:Cx)(zt:List (az×ao))(xe':aA->RI->Prop):Cx:={X with pn:=X.pn++zt,xe:=xe'}
def MT{X:Cx}{zt:List (az×ao)}{σ:L2.St}{H:Hp}{s:RI}(I:Inv X zt σ H s):Inv (cxT X zt xe') [] σ H s :=
 ⟨⟨I.ok.mod,I.ok.kind,I.ok.glob,I.ok.blt,I.ok.above,I.ok.inj,I.ok.has,I.ok.cab,I.ok.hd,I.ok.frames,I.ok.stk,I.ok.exf,I.ok.bs,I.ok.bsz,I.ok.noex,I.ok.exfs,I.ok.kK,I.ok.frf⟩,
  I.os,I.bare,I.base,I.loc,I.cell,I.free,I.freeC,λp q=>I.pin p (by simpa [cxT] using q),I.aJ,I.len⟩
def MU{X:Cx}{zt q:List (az×ao)}{σ:L2.St}{H:Hp}{s:RI}(ok:X.Ok)(I:Inv (cxT X zt xe') q σ H s):Inv X zt σ H s :=
 ⟨ok,I.os,I.bare,I.base,I.loc,I.cell,I.free,I.freeC,λp B=>I.pin p (Ux _ B),I.aJ,I.len⟩
def Qc{X:Cx}{F:FT}{G:ay->Option aN}{sc:Tu}{N:List ay}{zt:List (az×ao)}(O:Ok X F G sc N)(own:XI (R6 X.prog X.w) X.A X.env xe'):Ok (cxT X zt xe') F G sc N :=
 ⟨O.hsc,O.hN,O.nd,O.calm,O.hu,own,O.glob,O.call,O.aF,O.mkc,O.blt,O.lam,λB x q=>let L:=O.lamx B x q;⟨L.mem,L.ex,L.ql,L.bm⟩⟩
def Fb{X:Cx}{F:FT}{G:ay->Option aN}{sc:Tu}{N:List ay}(O:Ok X F G sc N){e:aU}{v:RN}{p q:Pos}{Z:WJ}{W:List WJ}(f:∀Y:Cx,Ok Y F G sc N->PE Y v (tD Y F G e)):
 PS X (.Try [.Return (aa v) p] (Z::W) [] [] q) (tDS X F G (.ret e)):=by
 intro zt s V H D I q;obtain⟨m,c,h,a,R,S,e1,U⟩:=q;refine wpAny_Try_except ?_;have j:=Qc (zt:=zt) O (PassesOwn.looking (K:=λe L=>av (R6 X.prog X.w) X.A (setFlight e af) (λ_ B=>av (R6 X.prog X.w) X.A (handleBy e X.env (Z::W)) (SP X zt D) X.xe B) X.xe L) (E₁:=X.xe));have i:PS _ (.Return (aa v) p) (tDS (cxT X zt _) F G (.ret e)):=PS.weak (zo (f _ j)) λD V H q =>
  lC (k:=λs=>BT.yg) (λs h=>by simp only[aS]) q λm s h y a v l R S r e1 U=>by simp only[BT.yg]at e1;cases e1;exact U v l m (.refl _ _) R r
 refine thn (qy i [] s V H {nx:=λ_ _=>False,rt:=D.rt} (MT I) ⟨m,c,h,a,R,S,e1,?_⟩) λg o q=>?_
 ·simp only[aS]at e1;obtain⟨y,t,e2,b⟩:=cY e1;simp only[BT.yg]at b;cases b;exact U
 ·cases g with
  |ret u =>
   obtain⟨v,M,n,J,d,z⟩:=q;exact⟨v,M,n,MU I.ok J,d,z⟩
  |_=>obtain⟨_,_,_,z⟩:=q;exact z.elim
section
def Jm(hg:GOk X tg g)(D:Ends)(σ:L2.St)(H:Hp)(q:tDS X F G (.for tg sr sa b) D σ H):Ld (iD X F G sr sa) g (tDS X F G b) D σ H:=by
 obtain⟨m,s,h,u,R,S,e,N⟩:=q;simp only[aS]at e;obtain⟨r,j,e1,e2⟩:=cY e;unfold BT.kFor at e2;cases o:(aR r j).bind (BT.iR sr)with
 |none=>rw[o]at e2;exact cU e2
 |some B =>
  rw[o]at e2;simp only at e2;split at e2
  ·rename_i d;refine ⟨m,s,h,r,j,B,R,S,e1,o,.inl d,λH1 t J p R1 f=>?_⟩;refine ⟨λi n σ H=>i<=B.length/\n=B.length - i/\∃ m s h,Ext t H1 m H/\RH X.K m H h/\RS X.prog X.w X.K m H σ s/\BT.eW (aS F G b) tg (B.drop i) s h=aa u/\lB X m H u D,
    ⟨B.length,SV _,rfl,t,s,j,.refl _ _,R1,S.ext p,by rw[List.drop_zero];exact e2,N.ext p⟩,?_⟩
   rintro i n σ2 H2 ⟨hi,rfl,m2,s2,h2,x2,R2,S2,e3,post2⟩
   by_cases c:i<B.length
   ·refine .inr ⟨f.go m2 H2 h2 i x2 R2 (oi d) c,_,fun I H' z=>⟨B.length-(i+1),by lia,c,rfl,z⟩,λx C y=>?_⟩;obtain⟨M,T,Q⟩:=f.yld m2 H2 h2 i x C B[i] x2 R2 (oi d) (RJ c) y;rw[Xg c,BT.eW]at e3;cases l:bf tg.length B[i]with
    |none=>rw[l]at e3;exact cU e3
    |some dd =>
     rw[l]at e3;simp only at e3;have R3:=R2.ext M T;refine hg m2 C σ2 s2 x B[i] dd _ (S2.ext M) Q l fun E S4=>?_;cases k:aS F G b (BT.sets tg dd s2) h2 with
     |none=>rw[k]at e3;exact cU e3
     |some A =>
      rw[k]at e3;refine⟨m2,_,h2,A,R3,S4,k,?_⟩;cases A with
      |nx a W=>exact fun O Z U L V Y=>⟨U,a,W,(x2.trans M).trans L,V,Y,e3,(post2.ext M).ext L⟩
      |ct a W=>exact fun O Z U L V Y=>⟨U,a,W,(x2.trans M).trans L,V,Y,e3,(post2.ext M).ext L⟩
      |bk a W=>cases e3;exact fun O Z U L V Y=>post2 O Z U (M.trans L) V Y
      |rt z W=>cases e3;exact λv Z U L V P=>post2 v Z U (M.trans L) V P
   ·have ei:i=B.length:=by lia
    subst ei;refine .inl ⟨f.stop m2 H2 h2 x2 R2 (oi d),?_⟩;rw[List.drop_length,BT.eW]at e3;cases e3;exact post2 σ2 H2 m2 (.refl _ _) R2 S2
  exact cU e2
def MV{X:Cx}{sc:Tu}{N:List ay}(O:Ok X F G sc N){x:ay}{B pos p:Pos}{q:RN}{D:List Comprehension}{scope:Tu}(h:swB sc scope x B pos=ah):Vl (.ListComp q D scope pos) (aa (.Name x B)) p.line X.env=pure ah:=by have e:Vl (.ListComp q D scope pos) (aa (.Name x B)) p.line X.env=pure (swB X.env.scope scope x B pos):=rfl;rw[e,O.hsc,h]
def Fc(c:(sc.names.lookup x==aa .cell)=ah):om sc x=ah:=by unfold om;rw[bQ c]
def BV(h:swB sc scope x np pos=ah):sc.names.lookup x=aa .local:=by unfold swB at h;simp only[RK]at h;exact bQ h.1.1.2
def MW{X:Cx}{sc:Tu}{N:List ay}(O:Ok X F G sc N){x:ay}{B pos p:Pos}{q:RN}{D:List Comprehension}{scope:Tu}(c:(sc.names.lookup x==aa .cell)=ah):Vl (.ListComp q D scope pos) (aa (.Name x B)) p.line X.env=pure ai:=by
 have e:Vl (.ListComp q D scope pos) (aa (.Name x B)) p.line X.env=pure (swB X.env.scope scope x B pos):=rfl;have z:swB sc scope x B pos=ai:=by
  cases h:swB sc scope x B pos with
  |false=>rfl
  |true =>
   have:=BV h;rw[bQ c]at this;cases this
 rw[e,O.hsc,z]
def BW:PSs X [] (tDS X F G .nil):=PSs.weak Dl λD B H q=>by obtain⟨m,s,h,L,R,S,e,J⟩:=q;simp only[aS]at e;cases e;exact J B H m (.refl _ _) R S
def sS(O:Ok X F G sc N)(w:∀x,X.fn x=ah)(hh:CS sc N s st):PS X st (tDS X F G s) :=
 CS.rec (motive_1:=λs st _=>PS X st (tDS X F G s)) (motive_2:=λs sts _=>PSs X sts (tDS X F G s))
  (@λi x mu sr sa o fv cond z te iter elt' ifs Z pos np p a M V P b C E Q n B=>by
   have K:∀(D:Ends)(L:L2.St)(H:Hp),tDS X F G (.set i (.comp mu sr sa o fv cond z)) D L H->zw (tD X F G (.comp mu sr sa o fv cond z)) (vG i) D L H:=λD L H q =>
    lC (k:=λs=>BT.AB s i) (λs h=>rfl) q λm s h y W v U R S r e1 J=>by simp only[BT.AB]at e1;cases e1;exact J _ U m (.refl _ _) R (S.set r)
   by_cases c:(sc.names.lookup x==aa .cell)=ah
   exact PS.weak (zy (i:=i) O.nd (by rw[O.hN];exact M) (oq O (Fc c)) (sE (CQ.comp a P b C E Q n B) O) (MW O c) (.inl (w x))) K
   ·have T:swB sc Z x np pos=ah:=by rw[Uq]at V;exact V.resolve_left c
    exact PS.weak (ES O a P b E (sCI Q O C) (sCC n) (λX' O'=>sE B O') M (BV T) (MV O T)) K)
  (@λi x e v np p M l V B=>PS.weak (zy (i:=i) O.nd (by rw[O.hN];exact M) (oq O l) (sE B O) (m8 V) (.inl (w x))) λD L H q =>
   lC (k:=λs=>BT.AB s i) (λs h=>by simp only[aS]) q λm s h y W v U R S r e1 J=>by simp only[BT.AB] at e1;cases e1;exact J _ U m (.refl _ _) R (S.set r))
  (@λo e es k fe args kw tp cp p a b B=>by
   obtain⟨g,j,f⟩:=sCT O (O.calm a) b λq _=>.inl (w q.2);exact PS.weak (zx (sE B O) j rfl rfl) λD L H q=>lC (k:=λs=>BT.Ij s o) (λs h=>by simp only[aS]) q λm s h y W v U R S r e1 J=>by
    cases r with
    |p r =>
     simp only[BT.Ij]at e1;rename_i d;cases g1:BT.unpack o.length d with
     |none=>rw[g1]at e1;exact cU e1
     |some ds =>
      rw[g1]at e1;cases e1;refine f m U L s _ d ds _ S r ?_ fun σ' S'=>J _ U m (.refl _ _) R S';cases b with
      |aC hl _ =>
       unfold bf;rw[bK (by have:=X0 hl;lia)];exact g1
    | _=>exact cU e1)
  (λM l V T h5 P B=>PS.weak (zx (sE B O) (G4 (v8 O M l V) (sE P O) set_list (vc h5)) (E7 T) rfl) Jl)
  (λM l V B=>PS.weak (G5 O.nd (by rw[O.hN];exact M) (oq O l) (sE B O) (wo V) (.inl (w _))) Jk)
  (λM l ho B=>PS.weak (Hl (sE ho O) (sE B O) (m8 l)) (E8 M))
  (λM V ho B=>PS.weak (xS (sE ho O) (sE B O) (wo V)) (E9 M))
  (λh B=>PS.weak (Dm (sE B O) (m8 h)) λD L H q =>
   lC (k:=λs=>BT.kEx s) (λs h=>by simp only[aS]) q λm s h y W v U R S r e1 J=>by simp only[BT.kEx] at e1;cases e1;exact J L U m (.refl _ _) R S)
  (λB=>PS.weak (zo (sE B O)) λD L H q =>
   lC (k:=λs=>BT.yg) (λs h=>by simp only[aS]) q λm s h y W v U R S r e1 J=>by simp only[BT.yg] at e1;cases e1;exact J v U m (.refl _ _) R r)
  (λh n ha hb ia u=>PS.weak (K3 (sT n O h).1 ia u) λD L H q=>by
   obtain⟨m,s,h,W,R,S,e,J⟩:=q;simp only[aS]at e;obtain⟨t,g,e1,e2⟩:=wM e;refine⟨m,s,h,t,g,R,S,e1,λU m1 A R1=>?_⟩;simp only[BT.kIf]at e2;cases t with
   |true=>exact⟨m1,s,g,W,R1,S.ext A,e2,J.ext A⟩
   | false=>exact ⟨m1,s,g,W,R1,S.ext A,e2,J.ext A⟩)
  (λh n hb u=>PS.weak (zB O.own (sT n O h).1 u) Jj)
  (λa b Q C E hb u=>by obtain⟨g,j,f⟩:=sCT O (O.calm a) b (λq _=>.inl (w q.2));exact PS.weak (G7 O.own (O.calm a) (sCI Q O C) j u (wF E)) (Jm f))
  (λzt s L H D I q=>by obtain⟨m,s,h,W,R,S,e,J⟩:=q;simp only[aS]at e;exact cU e)
  (λzt s L H D I q=>by obtain⟨m,s,h,W,R,S,e,J⟩:=q;simp only[aS]at e;exact cU e)
  (λB=>Fb O λY O2=>sE B O2)
  BW
  (λ_ ih=>qy ih)
  (λ_ _ ih ir=>PSs.weak (rZ ih ir) BQ)
  hh
def sSs(O:Ok X F G sc N)(q:∀x,X.fn x=ah){sts:List S9}(D:CSs sc N s sts):PSs X sts (tDS X F G s):=by refine CSs.rec (motive_1:=λ_ _ _=>True) (motive_2:=λs sts _=>PSs X sts (tDS X F G s)) ?_ ?_ ?_ ?_ ?_ ?_ ?_ ?_ ?_ ?_ ?_ ?_ ?_ ?_ ?_ BW (λh _=>qy (sS O q h)) (λh _ _ B=>PSs.weak (rZ (sS O q h) B) BQ) D<;>(intros;trivial)
end
section
variable{K:RB}
mutual
theorem RD.shrink(x:∀a∈m,a∈m'):∀{v:V}{d:aM},RD K m' H v d->RD K m H v d
 |_,_,.aD=>.aD|_,_,.bl b=>.bl b|_,_,.int i=>.int i|_,_,.str y h=>.str y h|_,_,.aC h r=>.aC (h.elim (λq=>.inl ⟨q.1,λz=>q.2 (x _ z)⟩) .inr) (RDs.shrink x r)|_,_,.aB h r=>.aB (h.elim (λq=>.inl ⟨q.1,λz=>q.2 (x _ z)⟩) .inr) (RDs.shrink x r)
theorem RDs.shrink(x:∀a∈m,a∈m'):∀{vs:List V}{ds:List aM},RDs K m' H vs ds->RDs K m H vs ds
 |_,_,.nil=>.nil|_,_,.cons r t=>.cons (RD.shrink x r) (RDs.shrink x t)
end
end
theorem RFs.shrink{K:RB}:∀{q vs:List (ay×V)}{fs:List (ay×aN)},RFs K m H q fs->RFs K (m++ex) H' vs fs->RFs K m H' vs fs
 |_,_,_,.nil,.nil=>.nil
 |_,_,_,.cons r0 t0,.cons r t=>by
  refine .cons ?_ (RFs.shrink t0 t);have back:∀{n:Nat}{a b:az},m[n]?=aa b->(m++ex)[n]?=aa a->m[n]?=aa a:=λ{n a b} h1 h2=>by rw[RE (getD_some h1)]at h2;exact h2
  cases r with
  |p r=>exact .p (r.shrink λa D=>Ux _ D)
  |r h=>cases r0 with|r B=>exact .r (back B h)
  |o h=>cases r0 with|o B=>exact .o (back B h)
def RKs.shrink{K:RB}(sub:∀a∈m,a∈m')(r:RKs K m' H vs kvs):RKs K m H vs kvs:=by
 induction r with
 |nil=>exact .nil|cons B r t q=>exact .cons (B.shrink sub) (r.shrink sub) q
def RBs.shrink{m ex:List az}{q:List V}{ns:List Nat}(J:RBs m q ns):∀{vs:List V},RBs (m++ex) vs ns->RBs m vs ns:=by
 induction J with
 |nil=>intro vs r;cases r;exact .nil
 |cons h t L =>
  intro vs r;cases r with
  |cons B D =>
   rw[RE (getD_some h)]at B;exact .cons B (L D)
def qh(e:BT.fin h y g=aa (z,h'))(R:RH K m H h)(x:Ext m H m' H')(R':RH K m' H' g)(r:RW P w K m' H' v y):
 ∃m2,Ext m H m2 H'/\RH K m2 H' h'/\RW P w K m2 H' v z:=by
 unfold BT.fin at e;split at e;cases e;exact⟨m',x,R',r⟩
 ·split at e
  ·rename_i I E;obtain⟨ex,rfl,G⟩:=x.pre;have sub:∀a∈m,a∈m++ex:=λa f=>Ux _ f;have M:Ext m H m H':=⟨⟨[],by simp,by simp⟩,x.keep,x.live,x.frz⟩;have R2:RH K m H' h:=by
    refine⟨R.nd,R.len,λi a J e1 e2=>?_,R'.tb⟩;have Z:i<m.length:=getD_some e1;have W:i<h.length:=by rw[←R.len];exact Z
    have t:g[i]?=aa J:=by rw[←E,UJ W]at e2;exact e2
    have z:=R'.cl i a J (by rw[RE Z];exact e1) t;cases J with
    |o c fs =>
     obtain⟨N,u,U,_,_,V⟩:=R.cl i a _ e1 e2;obtain⟨C,A,D,B,q,d⟩:=z;exact⟨C,A,D,B,q,V.shrink d⟩
    |z=>exact z
    |b F =>
     obtain⟨U,_,V⟩:=R.cl i a _ e1 e2;obtain⟨D,B,q⟩:=z;exact⟨D,B,V.shrink q⟩
    |_=>obtain⟨D,B,q⟩:=z;exact⟨D,B,q.shrink sub⟩
   cases r with
   |p r=>cases e;exact⟨m,M,R2,.p (r.shrink sub)⟩
   |@o a n hn =>
    simp only at e;split at e
    ·rename_i O;cases e;refine⟨m,M,R2,.o ?_⟩;rw[RE (by rw[R.len];exact O)]at hn;exact hn
    cases e;exact⟨m++ex,x,R',.o hn⟩
   |@r a n hn =>
    simp only at e;split at e
    ·rename_i O;cases e;refine⟨m,M,R2,.r ?_⟩;rw[RE (by rw[R.len];exact O)]at hn;exact hn
    ·rename_i O;obtain⟨J,s,l⟩:=dh e;cases l;obtain⟨D,B,q⟩:=R'.cell n a J hn s;refine⟨m,M,R2,.p (.aB (.inl ⟨.inl B,λz=>?_⟩) (q.shrink sub))⟩;obtain⟨j,Y⟩:=Uy z;have L:=getD_some Y;have k:(m++ex)[j]?=aa a:=by rw[RE L];exact Y
     have:=qa R'.nd k hn;rw[R.len]at L;lia
   |_=>exact cU e
  cases e;exact⟨m',x,R',r⟩
def BY(r:RWs P w K m H vs ws):RS P w K m H (L2.start N vs) (BT.fJ N.length ws):=by
 have B:=r.length;refine⟨by simp[L2.start,BT.fJ,B],λi y e=>?_⟩;simp only[BT.fJ]at e
 by_cases c:i<ws.length
 ·rw[RE (by simpa using c),Sa]at e;obtain⟨z,e1,e2⟩:=dh e;cases e2;have:∀{vs:List V}{ws:List aN}{i:Nat},RWs P w K m H vs ws->ws[i]?=aa y->∃v,vs[i]?=aa v/\RW P w K m H v y:=by
   intro vs ws i r
   induction r generalizing i with
   |nil=>intro e;simp at e
   |cons r t q =>
    intro e;cases i with
    |zero=>simp at e;subst e;exact⟨_,rfl,r⟩|succ i=>simpa using q (by simpa using e)
  obtain⟨v,J,D⟩:=this r e1;refine⟨v,?_,D⟩;unfold L2.start;rw[RE (by simp;lia),Sa,J];rfl
 ·rw[SB (by simpa using c),UO]at e;split at e<;>cases e
def oB(K:RB)(q:ay)(fd:Uv)(fn:bz):Prop:=∀y,fn.ns.contains (BT.jD y)=ah->q=y/\y∈BT.iE ∧
 (∃c P,TU K y=aa (c,P)/\fd.code=.ref c/\Wd K c P=ah/\∀z∈BT.iE,∀D,TU K z=aa (D,P)->z=y) ∧
 ∃B ob,SN K R8 "__builtins__"=aa (aa (.ref B))/\B≠UT/\K.lookup B=aa ob/\ob.cls=.type "module"/\ob.dict=aa UT/\ob.data=.plain
inductive MY(K:RB)(mg:ay->Option aA)(x:ay)(fn:bz):Prop
 |mk(f:az)(fd:Uv)(st:S9)(h1:mg x=aa (.ref f))(h2:Fun K x x st f fd)(B:fS fn.ns fn.ps (c6 st))(J:Binds K fd fn.ps [])(q:CSs (c6 st) fn.ns fn.body (dP st))(D:oB K x fd fn):MY K mg x fn
structure Def(K:RB)(mg:ay->Option aA)(x:ay)(fn:bz):Prop where
 ex:MY K mg x fn
inductive GJ(K:RB)(mg:ay->Option aA)(c m:ay)(fn:bz):Prop
 |mk(C f:az)(fd:Uv)(x qual:ay)(st:S9)(h1:nV K c C)(h2:mg c=aa (.ref C))(B:zJ K C m f)(D:(m="__init__"->Mk K C f))(q:Fun K x qual st f fd)(M:fS fn.ns fn.ps (c6 st))(L:Binds K fd fn.ps [])(O:CSs (c6 st) fn.ns fn.body (dP st))(J:oB K qual fd fn):GJ K mg c m fn
structure BZ(K:RB)(mg:ay->Option aA)(c m:ay)(fn:bz):Prop where
 ex:GJ K mg c m fn
structure Txt(P:Sb)(w:SH)(K:RB)(mg:ay->Option aA)(T:BT.FK->Option bz)(G:ay->Option aN):Prop where
 defs:∀x fn,T (.f x)=aa fn->Def K mg x fn
 meths:∀c m fn,T (.m c m)=aa fn->BZ K mg c m fn
 lams:∀L fn,T (.l L)=aa fn->False
 glob:∀x z,G x=aa z->∃u v,mg x=aa u/\RelV v u/\∀m H,RW P w K m H v z
 blt:∀x∈MK,mg x=af
def wN(e:aV T G k x ws h=aa r):∃fn,T x=aa fn:=by
 cases k with
 |zero=>exact cU e
 |succ k =>
  rw[aV]at e;cases q:T x with
  |none=>rw[q]at e;exact cU e|some fn=>exact⟨fn,rfl⟩
def Fd(F:Fun K x qual st f fd)(S:fS N ps (c6 st))(len:∀vs H Q E,sp vs H Q E->vs.length=ps.length)
(B:∀ (cdv:aA) (A:TJ) (outer:List Env) (s:RI) (H:Hp) (vs:List V) (Q:VK) (E:XK),fd.code=cdv->fQ k (A.deeper (XC qual (c6 st) s.heap.objs.size f cdv))->Mod K mg base->sp vs H Q E →
  ∃ t,PSs (uD CX0 P w K mg base N qual (c6 st) f cdv A outer s H E).nox (dP st) t/\t { nx:=λ_ H'=>Q .aD H',rt:=Q } (L2.start N vs) H):i8 P w K mg base CX0 (k+1) f fd ps sp:=by
 obtain⟨g,e,kV,O,Y,c,cdv,ct,osl,rfl,Z,M⟩:=F.ex;refine⟨len,λA outer s H D W vs Q E L U b r a=>?_⟩;have d:i8 P w K mg base CX0 (k+1) f (TV x qual (fR st) (dP st) (c6 st) .none kV O Y c cdv ct) ps sp:=Lp Z M S len λA outer s H vs Q E L J=>by obtain⟨t,h,q⟩:=B cdv A outer s H vs Q E rfl L U.mod J;exact⟨t,h.nox,q⟩
 exact d.run A outer s H D W vs Q E L U b r a
def MZ(X:Txt P w K mg T G)
(j:∀(x:BT.FK)(fn:bz),T x=aa fn->∀(f:az)(fd:Uv)(nm qual:ay)(st:S9),Fun K nm qual st f fd->fS fn.ns fn.ps (c6 st)->CSs (c6 st) fn.ns fn.body (dP st)->oB K qual fd fn->i8 P w K mg base CX0 (2*k) f fd fn.ps (spF P w K (aV T G k x)))
(v:∀L,(∃fn,T (.l L)=aa fn)->Bb P w K mg base (2*k) L (aV T G k (.l L)))
(e1:Y.prog=P)(e2:Y.w=w)(F:Y.K=K)(E:Y.mg=mg)(z:Y.base=base)(m:Y.env.scope=sc)(y:Y.N=N)(t:Y.N.Nodup)(H:Y.calm=ah)(U:fQ (2*k+1) Y.A)(own:XI (R6 Y.prog Y.w) Y.A Y.env Y.xe)
(u:(∀x,Y.fn x=ah)->∀x,N.contains (BT.jD x)=ah->LX Y x):Ok Y (aV T G k) G sc N:=by
 subst e1 e2 F E z;refine⟨m,y,t,λ_=>H,?_,own,X.glob,λg d h r e=>?_,λc g d h r e=>?_,λc d h r e=>?_,X.blt,λL d h r e=>⟨2*k,U.mono (TF _),v L (wN e)⟩,u⟩
 ·have:=U.un;lia
 ·obtain⟨q,B⟩:=wN e;obtain⟨M,D,J,I,O,a,Z,W,V⟩:=(X.defs g q B).ex;exact⟨M,D,q.ps,2*k,I,O.kp,Z,U.mono (TF _),j _ q B M D g g J O a W V⟩
 ·obtain⟨q,B⟩:=wN e;obtain⟨C,M,D,b,i,J,n,s,p,o,O,a,Z,W,V⟩:=(X.meths c g q B).ex;exact⟨C,M,D,q.ps,2*k,n,p,Z,U.mono (TF _),j _ q B M D b i J O a W V⟩
 ·obtain⟨q,B⟩:=wN e;obtain⟨C,M,D,b,i,J,n,s,p,o,O,a,Z,W,V⟩:=(X.meths c _ q B).ex;exact⟨C,M,D,q.ps,2*k,n,s,o rfl,Z,U,j _ q B M D b i J O a W V⟩
def Fe(X:Txt P w K mg T G):
 ∀(k:Nat),(∀(x:BT.FK)(fn:bz),T x=aa fn->∀(f:az)(fd:Uv)(nm qual:ay)(st:S9),Fun K nm qual st f fd->fS fn.ns fn.ps (c6 st)->CSs (c6 st) fn.ns fn.body (dP st)->oB K qual fd fn->i8 P w K mg base CX0 (2*k) f fd fn.ps (spF P w K (aV T G k x))) ∧
  ∀L,(∃fn,T (.l L)=aa fn)->Bb P w K mg base (2*k) L (aV T G k (.l L)):=by
 intro k
 induction k with
 |zero =>
  refine⟨λx fn D f fd nm qual st h2 o h5 h6=>?_,λL S=>?_⟩
  ·have no:∀B H Q E,¬spF P w K (aV T G 0 x) B H Q E:=λB H Q E h=>by obtain⟨m,M,h,z,t,_,_,e,_⟩:=h;exact cU e
   exact⟨λB H Q E h=>bL h (no B H Q E),λA q s H args us B Q E _ _ _ _ h=>bL h (no B H Q E)⟩
  ·intro A q s H f us B cvs m M cs h z t Q E N e0 rv R rw nc la rc e J;exact cU e
 |succ k j =>
  obtain⟨ih,il⟩:=j;refine⟨λx fn D f fd nm qual st h2 o h5 h6=>?_,λL S=>?_⟩
  ·show i8 P w K mg base CX0 (2*k+1+1) f fd fn.ps (spF P w K (aV T G (k+1) x));refine Fd h2 o (λB H Q E h=>?_) λC A q s H B Q E n N U h=>?_
   ·obtain⟨m,M,h,z,t,R,r,e,J⟩:=h;rw[aV,D]at e;simp only at e;split at e;rename_i c;rw[r.length];exact c;exact cU e
   ·obtain⟨m,M,h,z,t,R,r,e,J⟩:=h;rw[aV,D]at e;simp only at e;split at e
    ·have O:Ok (uD CX0 P w K mg base fn.ns qual (c6 st) f C A q s H E).nox (aV T G k) G (c6 st) fn.ns:=by refine MZ X ih il rfl rfl rfl rfl rfl rfl rfl o.nd rfl N XZ λ_ y hy=>?_;obtain⟨t1,t2,⟨c,Pt,t3,t4,t5,t6⟩,bm,ob,t7,t8,t9,d,b,a⟩:=h6 y hy;exact⟨t2,⟨c,Pt,t3,n.symm.trans t4,XH U.kin t5,t6⟩,by show qual++".<locals>."=_;rw[t1],bm,ob,UH U.kin U.glob t7,t8,U.kin _ _ t9,d,b,a⟩
     refine⟨_,sSs O (λ_=>rfl) h5,?_⟩;cases u:aS (aV T G k) G fn.body (BT.fJ fn.ns.length M) h with
     |none=>rw[u]at e;exact cU e
     |some fl =>
      rw[u]at e;refine⟨m,_,h,fl,R,BY r,u,?_⟩;cases fl with
      |rt y g =>
       intro v I m' Z F r';obtain⟨i,Y,W,V⟩:=qh e R Z F r';exact J v I i Y W V
      |nx s' g =>
       intro σ' I m' Z F _;obtain⟨i,Y,W,V⟩:=qh (v:=.aD) e R Z F (.p .aD);exact J .aD I i Y W V
      |_=>exact cU e
    exact cU e
  ·obtain⟨fn,D⟩:=S;exact(X.lams L fn D).elim
def Jo(X:Txt P w K mg T G)(k:Nat)(x:BT.FK)(fn:bz)(q:T x=aa fn)(f:az)(fd:Uv)(nm qual:ay)(st:S9)(h2:Fun K nm qual st f fd)(J:fS fn.ns fn.ps (c6 st))(D:CSs (c6 st) fn.ns fn.body (dP st))(B:oB K qual fd fn):
 i8 P w K mg base CX0 (2*k) f fd fn.ps (spF P w K (aV T G k x)):=(Fe X k).1 x fn q f fd nm qual st h2 J D B
end BS
end
section
namespace BT
open PySem
variable{aG:List Int}{g2:HH}{gv most:Nat}
def fy:Fn:=⟨["part"],["part"], (.seq (.v (.z .eq (.y (.aE "INNER_COUNTS") (.y (.v 0) (.j (.int 0)))) (.j (.int 0))) (.ret (.aC .nil)) .nil) (.ret (.n (.v 0) (Z9 (.j (.int 1))) .nil)))⟩
def lD:Fn:=⟨[],[], (.ret (.aC (Z4 (.j (.int 0)) (.bin .mul (.aC (Z9 (.j (.int 0)))) (.bi .len ai (Z9 (.aE "LETTERS")))) (.bin .mul (.aC (Z9 (.j (.int 0)))) (.aE "CELL_COUNT")) (.aC .nil) (.j (.int 0)) (.aC .nil))))⟩
def iG:Fn:=⟨["term"],["term","parts","waiting","part"], (.seq (.set 1 (.aB ah .nil)) (.seq (.set 2 (.aB ah (Z9 (.v 0)))) (.seq (.j (.z .gt (.bi .len ai (Z9 (.v 2))) (.j (.int 0))) (.seq (.set 3 (.me .pop (.v 2) .nil)) (.seq (.ex (.me .append (.v 1) (Z9 (.v 3)))) (.ex (.me .extend (.v 2) (Z9 (.call "inner_sums" (Z9 (.v 3))))))))) (.ret (.v 1)))))⟩
def j4:Fn:=⟨["word","one","other"],["word","one","other"], (.seq (.v (.z .eq (.v 0) (.j (.str "less"))) (.ret (.ite (.z .lt (.v 1) (.v 2)) (.j (.int 1)) (.j (.int 0)))) .nil) (.seq (.v (.z .eq (.v 0) (.j (.str "add"))) (.ret (.bin .mod (.bin .add (.v 1) (.v 2)) (.aE "WORTH_COUNT"))) .nil) (.seq (.v (.z .eq (.v 0) (.j (.str "sub"))) (.ret (.bin .mod (.bin .sub (.v 1) (.v 2)) (.aE "WORTH_COUNT"))) .nil) (.ret (.bin .mod (.bin .mul (.v 1) (.v 2)) (.aE "WORTH_COUNT"))))))⟩
def g8:Fn:=⟨["thing"],["thing"], (.ret (.z .mem (.v 0) (.aE "LETTERS")))⟩
def iH:Fn:=⟨["state","thing"],["state","thing"], (.seq (.v (.call "is_name" (Z9 (.v 1))) (.ret (.y (.y (.v 0) (.aE "NAMES")) (.me .tindex (.aE "LETTERS") (Z9 (.v 1))))) .nil) (.seq (.ex (.call "check_thing" (Z9 (.v 1)))) (.ret (.y (.y (.v 0) (.aE "CELLS")) (.v 1)))))⟩
def e9:Fn:=⟨["part","worths","state"],["part","worths","state","word","last"], (.seq (.set 3 (.y (.v 0) (.j (.int 0)))) (.seq (.v (.z .eq (.v 3) (.j (.str "num"))) (.ret (.y (.v 0) (.j (.int 1)))) .nil) (.seq (.v (.z .eq (.v 3) (.j (.str "name"))) (.ret (.call "worth_in" (Z8 (.v 2) (.y (.v 0) (.j (.int 1)))))) .nil) (.seq (.set 4 (.me .pop (.v 1) .nil)) (.seq (.v (.z .eq (.v 3) (.j (.str "cell"))) (.ret (.y (.y (.v 2) (.aE "CELLS")) (.bin .mod (.v 4) (.aE "CELL_COUNT")))) .nil) (.ret (.call "of_two" (Z7 (.v 3) (.me .pop (.v 1) .nil) (.v 4)))))))))⟩
def iI:Fn:=⟨["term","state"],["term","state","worths","part"], (.seq (.set 2 (.aB ah .nil)) (.seq (.for [(3,"part")] .rev (Z9 (.call "laid_out" (Z9 (.v 0)))) (.ex (.me .append (.v 2) (Z9 (.call "worth_of" (Z7 (.v 3) (.v 2) (.v 1))))))) (.ret (.y (.v 2) (.j (.int 0))))))⟩
def jj:Fn:=⟨["term","state"],["term","state"], (.ret (.bin .mod (.call "reckoned" (Z8 (.v 0) (.v 1))) (.aE "CELL_COUNT")))⟩
def g9:Fn:=⟨["program","state"],["program","state","word"], (.seq (.v (.z .ge (.y (.v 1) (.aE "ROW")) (.bi .len ai (Z9 (.v 0)))) (.ret (.j (.bl ah))) .nil) (.seq (.set 2 (.y (.y (.v 0) (.y (.v 1) (.aE "ROW"))) (.j (.int 0)))) (.seq (.v (.z .eq (.v 2) (.j (.str "back"))) (.ret (.z .eq (.bi .len ai (Z9 (.y (.v 1) (.aE "CALLS")))) (.j (.int 0)))) .nil) (.seq (.v (.z .eq (.v 2) (.j (.str "call"))) (.ret (.z .ge (.bi .len ai (Z9 (.y (.v 1) (.aE "CALLS")))) (.aE "MOST_CALLS"))) .nil) (.ret (.z .eq (.v 2) (.j (.str "stop"))))))))⟩
def fE:Fn:=⟨["row","state"],["row","state","word"], (.seq (.set 2 (.y (.v 0) (.j (.int 0)))) (.seq (.v (.or (.z .eq (.v 2) (.j (.str "jump"))) (.z .eq (.v 2) (.j (.str "call")))) (.ret (.y (.v 0) (.j (.int 1)))) .nil) (.seq (.v (.z .eq (.v 2) (.j (.str "back"))) (.ret (.y (.y (.v 1) (.aE "CALLS")) (.neg (.j (.int 1))))) .nil) (.seq (.v (.and (.z .eq (.v 2) (.j (.str "unless"))) (.z .eq (.call "reckoned" (Z8 (.y (.v 0) (.j (.int 1))) (.v 1))) (.j (.int 0)))) (.ret (.y (.v 0) (.j (.int 2)))) .nil) (.ret (.bin .add (.y (.v 1) (.aE "ROW")) (.j (.int 1))))))))⟩
def gw:Fn:=⟨["worths","number","worth"],["worths","number","worth"], (.ret (.bin .add (.bin .add (.n (.v 0) .nil (Z9 (.v 1))) (.aC (Z9 (.v 2)))) (.n (.v 0) (Z9 (.bin .add (.v 1) (.j (.int 1)))) .nil)))⟩
def gK:Fn:=⟨["state","name","worth"],["state","name","worth"], (.ret (.call "with_worth" (Z7 (.y (.v 0) (.aE "NAMES")) (.me .tindex (.aE "LETTERS") (Z9 (.v 1))) (.v 2))))⟩
def ig:Fn:=⟨["asked","number"],["asked","number"], (.ret (.ite (.z .lt (.v 1) (.bi .len ai (Z9 (.v 0)))) (.y (.v 0) (.v 1)) (.j (.int 0))))⟩
def jk:Fn:=⟨["program","asked","state"],["program","asked","state","row","word","behind"], (.seq (.set 3 (.y (.v 0) (.y (.v 2) (.aE "ROW")))) (.seq (.set 4 (.y (.v 3) (.j (.int 0)))) (.seq (.set 5 (.bi .list ah (Z9 (.v 2)))) (.seq (.put 5 (.aE "ROW") (.call "place_behind" (Z8 (.v 3) (.v 2)))) (.seq (.v (.z .eq (.v 4) (.j (.str "set"))) (.put 5 (.aE "NAMES") (.call "with_name" (Z7 (.v 2) (.y (.v 3) (.j (.int 1))) (.call "reckoned" (Z8 (.y (.v 3) (.j (.int 2))) (.v 2)))))) (.v (.z .eq (.v 4) (.j (.str "put"))) (.put 5 (.aE "CELLS") (.call "with_worth" (Z7 (.y (.v 2) (.aE "CELLS")) (.call "cell_by" (Z8 (.y (.v 3) (.j (.int 1))) (.v 2))) (.call "reckoned" (Z8 (.y (.v 3) (.j (.int 2))) (.v 2)))))) (.v (.z .eq (.v 4) (.j (.str "ask"))) (.seq (.put 5 (.aE "NAMES") (.call "with_name" (Z7 (.v 2) (.y (.v 3) (.j (.int 1))) (.call "brought" (Z8 (.v 1) (.y (.v 2) (.aE "ASKED"))))))) (.put 5 (.aE "ASKED") (.bin .add (.y (.v 2) (.aE "ASKED")) (.j (.int 1))))) (.v (.z .eq (.v 4) (.j (.str "say"))) (.put 5 (.aE "SAID") (.bin .add (.y (.v 2) (.aE "SAID")) (.aC (Z9 (.call "reckoned" (Z8 (.y (.v 3) (.j (.int 1))) (.v 2))))))) (.v (.z .eq (.v 4) (.j (.str "call"))) (.put 5 (.aE "CALLS") (.bin .add (.y (.v 2) (.aE "CALLS")) (.aC (Z9 (.bin .add (.y (.v 2) (.aE "ROW")) (.j (.int 1))))))) (.v (.z .eq (.v 4) (.j (.str "back"))) (.put 5 (.aE "CALLS") (.n (.y (.v 2) (.aE "CALLS")) .nil (Z9 (.neg (.j (.int 1)))))) .nil)))))) (.ret (.bi .tuple ai (Z9 (.v 5)))))))))⟩
def wO:RV s=RV t↔s=t:=by
 constructor
 ·intro h;rw[XR,XR]at h;have J:(s.toList.map Xn)=(t.toList.map Xn):=by have:=bR (λx:ay=>x.cps.toList) h;simpa using this
  have inj:∀(a b:List Char),a.map Xn=b.map Xn->a=b:=by
   intro a
   induction a with
   |nil=>intro b h;cases b with
    |nil=>rfl|cons _ _=>simp at h
   |cons x L B=>intro b h;cases b with
    |nil=>simp at h
    |cons y q =>
     simp only[Sf,U0]at h;have:x=y:=Char.toNat_inj.mp h.1;rw[this,B q h.2]
  have D:=inj _ _ J;exact String.toList_inj.mp D
 intro h;rw[h]
@[simp]theorem Oq(s t:String):(RV s==RV t)=(s==t):=by
 by_cases h:s=t
 subst h;simp
 ·have q:¬RV s=RV t:=λe=>h (wO.mp e);rw[beq_eq_false_iff_ne.mpr q,beq_eq_false_iff_ne.mpr h]
@[simp]theorem Qd(s t:String):(RV s=RV t)=(s=t):=propext wO
@[simp]theorem Rr(h:List α)(a:α)(r:List α):(h++a::r)[h.length]?=aa a:=by simp
@[simp]theorem M0(h:List α)(a b:α)(r:List α):(h++a::b::r)[h.length+1]?=aa b:=by rw[SB (by lia)];simp
@[simp]theorem Rt(h:List α)(a x:α)(r:List α):(h++a::r).set h.length x=h++x::r:=by simp
@[simp]theorem Ru(h:List α)(a b x:α)(r:List α):(h++a::b::r).set (h.length+1) x=h++a::x::r:=by rw[List.set_append_right _ _ (by lia)];simp
def cW(h:HH)(w:W):fin h w h=aa (w,h):=by simp[fin]
def lE(h g:HH)(d:D):fin h (.p d) (h++g)=aa (.p d,h):=by
 unfold fin;cases g with
 |_=>simp
@[simp]theorem Qe(h:HH)(a:Cl)(r:HH):lat (h++a::r) h.length=nB a:=by simp[lat]
@[simp]theorem Rv(h:HH)(a b:Cl)(r:HH):lat (h++a::b::r) (h.length+1)=nB b:=by unfold lat;rw[M0];rfl
@[simp]theorem Rx(h:HH)(a:Cl)(r:HH):oat (h++a::r) h.length=pq a:=by simp[oat]
@[simp]theorem Ry(h:HH)(a b:Cl)(r:HH):oat (h++a::b::r) (h.length+1)=pq b:=by unfold oat;rw[M0];rfl
def Ff(e:lat h n=aa ys)(c:Cl):lat (h.set n c) n=nB c:=by
 unfold lat at e⊢;cases g:h[n]? with
 |none=>rw[g]at e;exact gW e|some q=>rw[List.getElem?_set_self',g];rfl
def M1(h:HH)(xs:List D)(g:HH):fin h (.r h.length) (h++.l xs::g)=aa (.p (.aB xs),h):=by unfold fin;simp
def wQ(h h':HH)(w:W)(e:h'.length=h.length):fin h w h'=aa (w,h'):=by simp[fin,e]
structure Prg(T:FK->Option Fn)(G:ay->Option W):Prop where
 inner_sums:T "inner_sums"=aa fy
 begun:T "begun"=aa lD
 laid_out:T "laid_out"=aa iG
 of_two:T "of_two"=aa j4
 worth_of:T "worth_of"=aa e9
 is_name:T "is_name"=aa g8
 worth_in:T "worth_in"=aa iH
 reckoned:T "reckoned"=aa iI
 cell_by:T "cell_by"=aa jj
 is_over:T "is_over"=aa g9
 place_behind:T "place_behind"=aa fE
 with_worth:T "with_worth"=aa gw
 with_name:T "with_name"=aa gK
 brought:T "brought"=aa ig
 stepped:T "stepped"=aa jk
 LETTERS:G "LETTERS"=aa (.p (.aC [.str "a",.str "b",.str "c",.str "d",.str "e",.str "f"]))
 CELL_COUNT:G "CELL_COUNT"=aa (.p (.int 4))
 WORTH_COUNT:G "WORTH_COUNT"=aa (.p (.int 10007))
 INNER:G "INNER_COUNTS"=aa (.k (.t [("num",.int 0),("name",.int 0),("cell",.int 1),("add",.int 2),("sub",.int 2),("mul",.int 2),("less",.int 2)]))
 ROW:G "ROW"=aa (.p (.int 0))
 NAMES:G "NAMES"=aa (.p (.int 1))
 CELLS:G "CELLS"=aa (.p (.int 2))
 CALLS:G "CALLS"=aa (.p (.int 3))
 ASKED:G "ASKED"=aa (.p (.int 4))
 SAID:G "SAID"=aa (.p (.int 5))
 MOST_CALLS:G "MOST_CALLS"=aa (.p (.int 6))
inductive Op
 |add|sub|mul|less
noncomputable def Op.w:Op->String
 |.add=>"add" |.sub=>"sub" |.mul=>"mul" |.less=>"less"
inductive Nm
 |a|b|c|d|e|f
noncomputable def Nm.w:Nm->String
 |.a=>"a" |.b=>"b" |.c=>"c" |.d=>"d" |.e=>"e" |.f=>"f"
noncomputable def Nm.ix:Nm->Nat
 |.a=>0|.b=>1|.c=>2|.d=>3|.e=>4|.f=>5
def Nm.wR(x:Nm):x.ix<6:=by cases x<;>decide
inductive Sm
 |num(n:Int)
 |nam(i:Nm)
 |cell(s:Sm)
 |two(o:Op)(s t:Sm)
def Sm.enc:Sm->D
 |.num n=>.aC [.str "num",.int n]|.nam i=>.aC [.str "name",.str i.w]|.cell s=>.aC [.str "cell",s.enc]|.two o s t=>.aC [.str o.w,s.enc,t.enc]
noncomputable def Sm.size:Sm->Nat
 |.num _=>1|.nam _=>1|.cell s=>s.size+1|.two _ s t=>s.size+t.size+1
noncomputable def Sm.lay:Sm->List Sm
 |.num n=>[.num n]|.nam i=>[.nam i]|.cell s=>.cell s::s.lay|.two o s t=>.two o s t::(t.lay++s.lay)
noncomputable def Sm.subs:Sm->List Sm
 |.num _=>[]|.nam _=>[]|.cell s=>[s]|.two _ s t=>[s,t]
def Wth(n:Int):Prop:=0<=n/\n<=10006
noncomputable def Sm.ok:Sm->Prop
 |.num n=>Wth n|.nam _=>True|.cell s=>s.ok|.two _ s t=>s.ok/\t.ok
def Sm.size_pos(s:Sm):1<=s.size:=by cases s<;>simp[Sm.size]
structure St where
 row:Nat
 names:List Int
 cells:List Int
 calls:List Nat
 aG:Nat
 said:List Int
noncomputable def cV(xs:List Int):List D:=xs.map D.int
noncomputable def cZ(xs:List Nat):List D:=xs.map λ(n:Nat)=>D.int (n:Int)
def St.enc(s:St):D:=.aC [.int s.row,.aC (cV s.names),.aC (cV s.cells),.aC (cZ s.calls),.int s.aG,.aC (cV s.said)]
structure St.ok(s:St):Prop where
 nlen:s.names.length=6
 clen:s.cells.length=4
 nw:∀x∈s.names,Wth x
 cw:∀x∈s.cells,Wth x
noncomputable def two(o:Op)(x y:Int):Int:=match o with
 |.add=>(x+y)%10007|.sub=>(x-y)%10007|.mul=>(x*y)%10007
 |.less=>if x<y then 1 else 0
def Sm.val(st:St):Sm->Int
 |.num n=>n|.nam i=>st.names.getD i.ix 0|.cell s=>st.cells.getD (s.val st%4).toNat 0|.two o s t=>BT.two o (s.val st) (t.val st)
def vd{xs:List Int}(h:∀x∈xs,Wth x)(i:Nat):Wth (xs.getD i 0):=by
 rw[SL];cases e:xs[i]? with
 |none=>exact⟨by decide,by decide⟩|some x=>exact h x (RU e)
def M3(o:Op):Wth (BT.two o x y):=by cases o<;>simp only[BT.two,Wth];lia;lia;lia;split<;>decide
theorem Sm.tO{st:St}(q:st.ok):∀{s:Sm},s.ok->Wth (s.val st)
 |.num _,h=>h|.nam i,_=>vd q.nw _|.cell _,_=>vd q.cw _|.two _ _ _,_=>M3 _
section
def yK(P:Prg T G)(k:Nat)(s:Sm)(h:HH):runN T G (k+1) "inner_sums" [.p s.enc] h=aa (.p (.aC (s.subs.map Sm.enc)),h):=by
 rw[run_eq P.inner_sums rfl];cases s with
 |two o s t =>
  have g:=P.INNER;have q:fk (RV o.w) [("num",.int 0),("name",.int 0),("cell",.int 1),("add",.int 2),("sub",.int 2),("mul",.int 2),("less",.int 2)]=aa (.int 2):=by cases o<;>simp[Op.w]
  generalize ([("num",.int 0),("name",.int 0),("cell",.int 1),("add",.int 2),("sub",.int 2),("mul",.int 2),("less",.int 2)]:List (ay×D))=I at *;simp[fy,g,q,Sm.enc,Sm.subs,cW]
 |_=>simp[fy,P.INNER,Sm.enc,Sm.subs,cW]
def ve(P:Prg T G)(k:Nat)(o:Op)(q:Wth x)(h:HH):
 runN T G (k+1) "of_two" [.p (.str o.w),.p (.int x),.p (.int y)] h=aa (.p (.int (two o x y)),h):=by
 rw[run_eq P.of_two rfl];have b:big x=ah:=by unfold big;exact bO (by have D:=q.1;have B:=q.2;lia)
 cases o<;>simp[j4,P.WORTH_COUNT,cW,Op.w,two,b]
 by_cases c:x<y<;>simp[c,cW]
noncomputable def pG:List D:=[.str "a",.str "b",.str "c",.str "d",.str "e",.str "f"]
def Fg(x:Nm):gi .mem (.str x.w) (.aC pG)=aa ah:=by cases x<;>simp[pG,Nm.w]
def B0(x:Nm):meD .tindex (.aC pG) [.str x.w]=aa (.int (x.ix:Int)):=by rw[Al];cases x<;>simp[pG,Nm.w,Nm.ix,jA]
def tP{i:Nat}(h:i<xs.length):dM (.aC (cV xs)) (.int (i:Int))=aa (.int (xs.getD i 0)):=by show atP _ _=_;unfold atP place cV;rw[bJ (Int.natCast_nonneg _),bJ (by rw[RX];lia)];show(xs.map D.int)[((i:Int)).toNat]?=_;rw[Tj,Sa,SL,RJ h];rfl
theorem qi(st:St):dM st.enc (.int 1)=aa (.aC (cV st.names)):=rfl
theorem yL(st:St):dM st.enc (.int 2)=aa (.aC (cV st.cells)):=rfl
def jL(P:Prg T G)(k:Nat)(x:Nm)(h:HH):runN T G (k+1) "is_name" [.p (.str x.w)] h=aa (.p (.bl ah),h):=by rw[run_eq P.is_name rfl];have g:G "LETTERS"=aa (.p (.aC pG)):=P.LETTERS;have m:=Fg x;generalize pG=L at *;simp[-gk,g8,g,m,cW]
def rD(P:Prg T G)(k:Nat)(st:St)(M:st.ok)(x:Nm)(h:HH):runN T G (k+2) "worth_in" [.p st.enc,.p (.str x.w)] h=aa (.p (.int (st.names.getD x.ix 0)),h):=by rw[run_eq P.worth_in rfl];have r:=jL P k x;have q:=x.wR;have J:=tP (xs:=st.names) (i:=x.ix) (by rw[M.nlen];exact q);have D:=B0 x;have B:=qi st;have g:G "LETTERS"=aa (.p (.aC pG)):=P.LETTERS;generalize pG=L at *;generalize st.enc=se at *;generalize cV st.names=sn at *;simp[-gX,iH,r,P.NAMES,g,J,D,B,cW]
def jM(P:Prg T G)(k:Nat)(st:St)(q:st.ok)(n:Nat)(h:HH):
 (∀i,runN T G (k+3) "worth_of" [.p (Sm.num i).enc,.r n,.p st.enc] h=aa (.p (.int i),h)) ∧
 (∀i,runN T G (k+3) "worth_of" [.p (Sm.nam i).enc,.r n,.p st.enc] h=aa (.p (.int (st.names.getD i.ix 0)),h)):=by
 refine⟨λi=>?_,λi=>?_⟩<;>rw[run_eq P.worth_of rfl];simp[e9,Sm.enc,cW]
 ·have r:=rD P k st q i;simp[e9,Sm.enc,cW,r]
def oE(P:Prg T G)(k:Nat)(st:St)(J:st.ok)(n:Nat)(h:HH)(s:Sm)(ws:List D)(v:Int)(e:lat h n=aa (ws++[.int v]))(L:0<=v):
 runN T G (k+1) "worth_of" [.p (Sm.cell s).enc,.r n,.p st.enc] h=aa (.p (.int (st.cells.getD (v%4).toNat 0)),h.set n (.l ws)):=by
 rw[run_eq P.worth_of rfl];have c:(((v%4).toNat:Nat):Int)=v%4:=by lia
 have q:=tP (xs:=st.cells) (i:=(v%4).toNat) (by rw[J.clen];lia);rw[c]at q;have B:=yL st;generalize st.enc=se at *;generalize cV st.cells=sn at *;generalize st.cells.getD (v%4).toNat 0=z at *;simp[e9,Sm.enc,P.CELLS,P.CELL_COUNT,e,q,B,wQ]
def Op.other(o:Op):¬o.w="num"/\¬o.w="name"/\¬o.w="cell":=by cases o<;>decide
def pH(P:Prg T G)(k:Nat)(st:St)(n:Nat)(h:HH)(o:Op)(s t:Sm)(ws:List D)(x y:Int)(L:Wth x)(e:lat h n=aa (ws++[.int x,.int y])):
 runN T G (k+2) "worth_of" [.p (Sm.two o s t).enc,.r n,.p st.enc] h=aa (.p (.int (two o x y)),h.set n (.l ws)):=by
 rw[run_eq P.worth_of rfl];have O:lat (h.set n (.l (ws++[.int x]))) n=aa (ws++[.int x]):=Ff e _;have e1:(ws++[D.int x,D.int y]).getLast?=aa (.int y):=by simp
 have e2:(ws++[D.int x,D.int y]).dropLast=ws++[.int x]:=by simp
 have r:=λM=>ve P k o (x:=x) (y:=y) L M;obtain⟨J,B,q⟩:=o.other;have en:(Sm.two o s t).enc=.aC [.str o.w,s.enc,t.enc]:=rfl;rw[en];generalize o.w=ow at *;generalize s.enc=se at *;generalize t.enc=te at *;simp[e9,e,e1,e2,O,J,B,q,r,wQ,VJ]
def loC:E:=.z .gt (.bi .len ai (Z9 (.v 2))) (.j (.int 0))
def loB:S:=.seq (.set 3 (.me .pop (.v 2) .nil)) (.seq (.ex (.me .append (.v 1) (Z9 (.v 3)))) (.ex (.me .extend (.v 2) (Z9 (.call "inner_sums" (Z9 (.v 3)))))))
def sizes(l:List Sm):Nat:=(l.map Sm.size).sum
def vf(s:Sm)(l:List Sm):sizes (s.subs.reverse++l)+1=sizes (s::l):=by cases s<;>simp[sizes,Sm.subs,Sm.size]<;>lia
def B3(s:Sm)(l:List Sm):(s::l).flatMap Sm.lay=s::(s.subs.reverse++l).flatMap Sm.lay:=by cases s<;>simp[Sm.lay,Sm.subs,List.flatMap_cons]
def Fi(s:Sm):s.subs.length<=2:=by cases s<;>simp[Sm.subs]
def qj(l:List Sm):l.length<=sizes l:=by
 induction l with
 |nil=>simp[sizes]
 |cons s l q =>
  have B:=s.size_pos;simp only[sizes,Sf,Xp,RY]at q⊢;lia
def Fj(P:Prg T G)(k:Nat)(h:HH)(J:W):∀(m:Nat)(B:List Sm)(ps:List D)(x:Option W),sizes B<=m->ps.length+sizes B<=50000 →
 ∃L,fO (ev (runN T G (k+1)) G loC) (evS (runN T G (k+1)) G loB) (m+1) [aa J,aa (.r h.length),aa (.r (h.length+1)),x] (h++[.l ps,.l (B.reverse.map Sm.enc)]) =
  aa (.nx [aa J,aa (.r h.length),aa (.r (h.length+1)),L] (h++[.l (ps++(B.flatMap Sm.lay).map Sm.enc),.l []])):=by
 intro m
 induction m with
 |zero =>
  intro B ps x V _;have:B=[]:=by have:=qj B;exact WA (by lia)
  subst this;exact⟨x,by simp[fO,loC,rd]⟩
 |succ m U =>
  intro B ps x V b;cases B with
  |nil=>exact⟨x,by simp[fO,loC,rd]⟩
  |cons s l =>
   have e:=vf s l;obtain⟨L,q⟩:=U (s.subs.reverse++l) (ps++[s.enc]) (aa (.p s.enc)) (by lia) (by simp only[Sh,Um];lia);refine⟨L,?_⟩;have r:=yK P k s;have O:l.length+s.subs.length<=100000:=by
    have f:=Fi s;have d:=qj l;have c:sizes (s::l)=s.size+sizes l:=by simp[sizes]
    lia
   have a:(0:Int)<(l.length:Int)+1:=by lia
   have M:ps.length<100000:=by lia
   have Y:ev (runN T G (k+1)) G loC [aa J,aa (.r h.length),aa (.r (h.length+1)),x] (h++[.l ps,.l ((s::l).reverse.map Sm.enc)])=aa (.p (.bl ah),h++[.l ps,.l ((s::l).reverse.map Sm.enc)]):=by simp[loC,rd,a]
   have Z:evS (runN T G (k+1)) G loB [aa J,aa (.r h.length),aa (.r (h.length+1)),x] (h++[.l ps,.l ((s::l).reverse.map Sm.enc)]) =
    aa (.nx [aa J,aa (.r h.length),aa (.r (h.length+1)),aa (.p s.enc)] (h++[.l (ps++[s.enc]),.l ((s.subs.reverse++l).reverse.map Sm.enc)])):=by
    simp[loB,r,O,M]
   rw[fO,Y,jC,nQ,Z,fU,q,B3,Sf,SZ,T5]
theorem oF:iG=⟨["term"],["term","parts","waiting","part"],.seq (.set 1 (.aB ah .nil))
 (.seq (.set 2 (.aB ah (.cons (.v 0) .nil))) (.seq (.j loC loB) (.ret (.v 1))))⟩:=rfl
def rE(P:Prg T G)(k:Nat)(s:Sm)(D:s.size<=40000)(h:HH):runN T G (k+2) "laid_out" [.p s.enc] h=aa (.p (.aB (s.lay.map Sm.enc)),h):=by rw[run_eq P.laid_out rfl];obtain⟨B,q⟩:=Fj P k h (.p s.enc) 99999 [s] [] af (by simp only[sizes,Sf,S6,Xp,List.sum_nil];lia) (by simp only[sizes,Sf,S6,Xp,List.sum_nil,SO];lia);simp only[List.flatMap_cons,List.flatMap_nil,Tt,UN,VC,Sf,S6]at q;rw[oF];simp[turns,q,M1]
def rkB:S:=.ex (.me .append (.v 2) (Z9 (.call "worth_of" (Z7 (.v 3) (.v 2) (.v 1)))))
def Fk(P:Prg T G)(k:Nat)(h:HH)(q:W)(st:St)(M:st.ok):∀(s:Sm),s.ok->∀(ws:List D)(rest:List D)(x:Option W),ws.length+s.size<=50000 →
 ∃Z,eW (evS (runN T G (k+3)) G rkB) [(3,"part")] ((s.lay.map Sm.enc).reverse++rest) [aa q,aa (.p st.enc),aa (.r h.length),x] (h++[.l ws]) =
  eW (evS (runN T G (k+3)) G rkB) [(3,"part")] rest [aa q,aa (.p st.enc),aa (.r h.length),Z] (h++[.l (ws++[.int (s.val st)])]):=by
 intro s
 induction s with
 |num n =>
  intro _ ws rest x B;refine⟨aa (.p (Sm.num n).enc),?_⟩;have r:=(jM P k st M h.length (h++[.l ws])).1 n;have l:ws.length<100000:=by simp only[Sm.size]at B;lia
  have J:evS (runN T G (k+3)) G rkB [aa q,aa (.p st.enc),aa (.r h.length),aa (.p (Sm.num n).enc)] (h++[.l ws]) =
   aa (.nx [aa q,aa (.p st.enc),aa (.r h.length),aa (.p (Sm.num n).enc)] (h++[.l (ws++[.int n])])):=by
   simp[rkB,r,l]
  simp only[Sm.lay,Sf,S6,VC,T5,Sm.val];simp[J]
 |nam i =>
  intro _ ws rest x B;refine⟨aa (.p (Sm.nam i).enc),?_⟩;have r:=(jM P k st M h.length (h++[.l ws])).2 i;have l:ws.length<100000:=by simp only[Sm.size]at B;lia
  have J:evS (runN T G (k+3)) G rkB [aa q,aa (.p st.enc),aa (.r h.length),aa (.p (Sm.nam i).enc)] (h++[.l ws]) =
   aa (.nx [aa q,aa (.p st.enc),aa (.r h.length),aa (.p (Sm.nam i).enc)] (h++[.l (ws++[.int (st.names.getD i.ix 0)])])):=by
   simp[rkB,r,l]
  simp only[Sm.lay,Sf,S6,VC,T5,Sm.val];simp[J]
 |cell s a =>
  intro L ws rest x B;obtain⟨Y,e1⟩:=a L ws ((Sm.cell s).enc::rest) x (by simp only[Sm.size]at B;lia);refine⟨aa (.p (Sm.cell s).enc),?_⟩;have r:=oE P (k+2) st M h.length (h++[.l (ws++[.int (s.val st)])]) s ws (s.val st) (by simp) (Sm.tO (s:=s) M L).1;have l:ws.length<100000:=by simp only[Sm.size]at B;lia
  have J:evS (runN T G (k+3)) G rkB [aa q,aa (.p st.enc),aa (.r h.length),aa (.p (Sm.cell s).enc)] (h++[.l (ws++[.int (s.val st)])]) =
   aa (.nx [aa q,aa (.p st.enc),aa (.r h.length),aa (.p (Sm.cell s).enc)] (h++[.l (ws++[.int ((Sm.cell s).val st)])])):=by
   simp[rkB,r,l,Sm.val]
  simp only[Sm.lay,Sf,List.reverse_cons,SZ,T5];rw[e1];simp[J]
 |two o s t U O =>
  intro L ws rest x B;have V:=B;simp only[Sm.size]at V;obtain⟨Y,e1⟩:=U L.1 ws ((t.lay.map Sm.enc).reverse++((Sm.two o s t).enc::rest)) x (by lia);obtain⟨b,e2⟩:=O L.2 (ws++[.int (s.val st)]) ((Sm.two o s t).enc::rest) Y (by simp only[Sh,Um];have:=s.size_pos;lia);refine⟨aa (.p (Sm.two o s t).enc),?_⟩;have r:=pH P (k+1) st h.length (h++[.l (ws++[.int (s.val st),.int (t.val st)])]) o s t ws (s.val st) (t.val st) (Sm.tO M L.1) (by simp);have l:ws.length<100000:=by lia
  have J:evS (runN T G (k+3)) G rkB [aa q,aa (.p st.enc),aa (.r h.length),aa (.p (Sm.two o s t).enc)] (h++[.l (ws++[.int (s.val st),.int (t.val st)])]) =
   aa (.nx [aa q,aa (.p st.enc),aa (.r h.length),aa (.p (Sm.two o s t).enc)] (h++[.l (ws++[.int ((Sm.two o s t).val st)])])):=by
   simp[rkB,r,l,Sm.val]
  simp only[Sm.lay,Sf,Ve,List.reverse_cons,List.reverse_append,SZ,T5];rw[e1,e2];simp only[SZ,T5];simp[J]
theorem oG:iI=⟨["term","state"],["term","state","worths","part"],.seq (.set 2 (.aB ah .nil))
 (.seq (.for [(3,"part")] .rev (.cons (.call "laid_out" (.cons (.v 0) .nil)) .nil) rkB) (.ret (.y (.v 2) (.j (.int 0)))))⟩:=rfl
def dY(P:Prg T G)(k:Nat)(s:Sm)(B:s.size<=40000)(J:s.ok)(st:St)(D:st.ok)(h:HH):
 runN T G (k+4) "reckoned" [.p s.enc,.p st.enc] h=aa (.p (.int (s.val st)),h):=by
 rw[run_eq P.reckoned rfl];obtain⟨L,q⟩:=Fk P k h (.p s.enc) st D s J [] [] af (by simp only[SO];lia);rw[oG];simp only[Tt,UN]at q;have r:=rE P (k+1) s B;simp[r,jb,q,lE,rd]
end
section
variable{T:FK->Option Fn}{F:FK->List W->HH->Option (W×HH)}{G:ay->Option W}{i:Nat}{e e' c:E}{a b:S}{s s':Sl}{h g:HH}{w:W}{d d' z:D}
def qk(h1:evS F G a s h=aa (.nx s' g)):evS F G (.seq a b) s h=evS F G b s' g:=by simp[h1]
def gr(h1:aL F G e s h=aa (w,g)):evS F G (.seq (.set i e) b) s h=evS F G b (s.set i (aa w)) g:=by simp[h1]
def GK(h1:aL F G c s h=aa (.p (.bl ai),h)):evS F G (.seq (.v c a .nil) b) s h=evS F G b s h:=by simp[h1]
def B4(h1:aL F G c s h=aa (.p (.bl ah),h))(h2:aL F G e s h=aa (w,g)):evS F G (.seq (.v c (.ret e) .nil) b) s h=aa (.rt w g):=by simp[h1,h2]
def l5(h2:aL F G e s h=aa (w,g)):evS F G (.ret e) s h=aa (.rt w g):=by simp[h2]
def B5(B:T f=aa fn)(q:ws.length=fn.ps.length)(h1:evS (runN T G k) G fn.body (fJ fn.ns.length ws) h=aa (.rt (.p d) h)):runN T G (k+1) f ws h=aa (.p d,h):=by rw[run_eq B q,h1];exact cW h (.p d)
def M4(h1:aL F G e s h=aa (.p d,g))(h2:aL F G e' s g=aa (.p d',g))(q:dM d d'=aa z):aL F G (.y e e') s h=aa (.p z,g):=by simp[h1,h2,q]
end
section
def jm(xs:List α)(i:Nat):atP xs (i:Int)=xs[i]?:=by
 unfold atP place
 by_cases h:i<xs.length
 ·have q:((i:Int)<(xs.length:Int)):=by lia
  simp[q,h]
 ·have q:¬((i:Int)<(xs.length:Int)):=by lia
  simp[q];lia
def iw(P:Prg T G)(k:Nat)(xs:List D)(i:Nat)(hi:i<xs.length)(Y:xs.length<=1000)(d:D)(h:HH):
 runN T G (k+1) "with_worth" [.p (.aC xs),.p (.int i),.p d] h=aa (.p (.aC (xs.set i d)),h):=by
 rw[run_eq P.with_worth rfl];have W:¬((i:Int)<0):=by lia
 have V:(i:Int)<=(xs.length:Int):=by lia
 have U:¬((i:Int)+1<0):=by lia
 have O:(i:Int)+1<=(xs.length:Int):=by lia
 have M:((i:Int)+1).toNat=i+1:=by lia
 have b:xs.length-(i+1)+(i+1)<=100000:=by lia
 have L:i+1+(xs.length-(i+1))<=100000:=by lia
 have J:min i xs.length=i:=by lia
 have B:i+1<=100000:=by lia
 have e:xs.take i++d::xs.drop (i+1)=xs.set i d:=by rw[List.set_eq_take_append_cons_drop,bJ hi]
 have a:(xs.take i).length=i:=by simp;lia
 have Z:(xs.drop (i+1)).length=xs.length-(i+1):=by simp
 have q:((xs.drop (i+1)).take (xs.length-(i+1)))=xs.drop (i+1):=by apply XJ;simp
 simp[gw,W,V,U,O,M,L,J,B,q,e,cW]
@[simp]theorem Rh(st:St):dM st.enc (.int 0)=aa (.int st.row):=rfl
@[simp]theorem Rj(st:St):dM st.enc (.int 1)=aa (.aC (cV st.names)):=rfl
@[simp]theorem Rk(st:St):dM st.enc (.int 2)=aa (.aC (cV st.cells)):=rfl
@[simp]theorem Rl(st:St):dM st.enc (.int 3)=aa (.aC (cZ st.calls)):=rfl
@[simp]theorem Rm(st:St):dM st.enc (.int 4)=aa (.int st.aG):=rfl
@[simp]theorem Rn(st:St):dM st.enc (.int 5)=aa (.aC (cV st.said)):=rfl
inductive Rw
 |set(x:Nm)(s:Sm)|put(s t:Sm)|ask(x:Nm)|say(s:Sm)|jump(p:Nat)|unless(s:Sm)(p:Nat)|call(p:Nat)|back|stop
def Rw.enc:Rw->D
 |.set x s=>.aC [.str "set",.str x.w,s.enc]|.put s t=>.aC [.str "put",s.enc,t.enc]|.ask x=>.aC [.str "ask",.str x.w]|.say s=>.aC [.str "say",s.enc]|.jump p=>.aC [.str "jump",.int p]|.unless s p=>.aC [.str "unless",s.enc,.int p]|.call p=>.aC [.str "call",.int p]|.back=>.aC [.str "back"]|.stop=>.aC [.str "stop"]
def jN(s:Sm):Prop:=s.ok/\s.size<=15
noncomputable def Rw.ok(n:Nat):Rw->Prop
 |.set _ s=>jN s|.put s t=>jN s/\jN t|.ask _=>True|.say s=>jN s|.jump p=>p<=n|.unless s p=>jN s/\p<=n|.call p=>p<=n|.back=>True|.stop=>True
noncomputable abbrev Pg:=List Rw
def dG(p:Pg):D:=.aC (p.map Rw.enc)
def Pg.ok(p:Pg):Prop:=∀r∈p,r.ok p.length
def Rw.next(aG:List Int)(st:St):Rw->St
 |.set x s=>{st with row:=st.row+1,names:=st.names.set x.ix (s.val st)}|.put s t=>{st with row:=st.row+1,cells:=st.cells.set (s.val st%4).toNat (t.val st)}|.ask x=>{st with row:=st.row+1,names:=st.names.set x.ix (aG.getD st.aG 0),aG:=st.aG+1}|.say s=>{st with row:=st.row+1,said:=st.said++[s.val st]}|.jump p=>{st with row:=p}|.unless s p=>{st with row:=if s.val st=0 then p else st.row+1}|.call p=>{st with row:=p,calls:=st.calls++[st.row+1]}|.back=>{st with row:=st.calls.getLast?.getD 0,calls:=st.calls.dropLast}|.stop=>st
noncomputable def Rw.over(st:St):Rw->Bool
 |.back=>st.calls.length==0|.call _=>decide (6<=st.calls.length)|.stop=>ah|_=>ai
def over(p:Pg)(st:St):Bool:=match p[st.row]? with
 |some r=>r.over st|none=>ah
def step(p:Pg)(aG:List Int)(st:St):St:=match p[st.row]? with
 |some r=>r.next aG st
 |none=>st
noncomputable def St.zero:St:=⟨0,[0,0,0,0,0,0],[0,0,0,0],[],0,[]⟩
def Fo:St.zero.ok:=⟨rfl,rfl,by simp[St.zero,Wth],by simp[St.zero,Wth]⟩
def sts(p:Pg)(aG:List Int):Nat->St->List St
 |0,st=>[st]
 |n+1,st=>if over p st then [st]else st::sts p aG n (step p aG st)
def qm(P:Prg T G)(k:Nat)(h:HH):runN T G (k+1) "begun" [] h=aa (.p St.zero.enc,h):=by rw[run_eq P.begun rfl];simp[lD,P.LETTERS,P.CELL_COUNT,cW,St.zero,St.enc,cV,cZ,rep,Sd,List.flatten]
def tQ(P:Prg T G)(k:Nat)(aG:List Int)(n:Nat)(h:HH):runN T G (k+1) "brought" [.p (.aB (cV aG)),.p (.int n)] h=aa (.p (.int (aG.getD n 0)),h):=by
 rw[run_eq P.brought rfl]
 by_cases c:n<aG.length
 ·have q:(n:Int)<(aG.length:Int):=by lia
  simp[ig,cV,c,q,cW]
 ·have q:¬(n:Int)<(aG.length:Int):=by lia
  have e:aG[n]?=af:=RT (by lia);simp[ig,cV,q,cW,e]
def iS(P:Prg T G)(k:Nat)(st:St)(J:st.ok)(x:Nm)(d:Int)(h:HH):
 runN T G (k+2) "with_name" [.p st.enc,.p (.str x.w),.p (.int d)] h=aa (.p (.aC (cV (st.names.set x.ix d))),h):=by
 rw[run_eq P.with_name rfl];have r:=λi=>iw P k (cV st.names) i;have l:(cV st.names).length=6:=by simp[cV,J.nlen]
 have e:(cV st.names).set x.ix (.int d)=cV (st.names.set x.ix d):=by simp[cV,VL]
 have q:=r x.ix (by rw[l];exact x.wR) (by lia) (.int d);rw[e]at q;have g:G "LETTERS"=aa (.p (.aC pG)):=P.LETTERS;have D:=B0 x;have B:=qi st;generalize pG=L at *;generalize st.enc=se at *;generalize M:(x.ix:Int)=z at *;simp[gK,P.NAMES,g,D,B,cW,q]
def tR(P:Prg T G)(k:Nat)(s:Sm)(B:jN s)(st:St)(D:st.ok)(h:HH):runN T G (k+5) "cell_by" [.p s.enc,.p st.enc] h=aa (.p (.int (s.val st%4)),h):=by rw[run_eq P.cell_by rfl];have q:=dY P k s (by have:=B.2;lia) B.1 st D;simp[jj,q,P.CELL_COUNT,cW]
noncomputable def Rw.word:Rw->String
 |.set _ _=>"set" |.put _ _=>"put" |.ask _=>"ask" |.say _=>"say" |.jump _=>"jump" |.unless _ _=>"unless" |.call _=>"call" |.back=>"back" |.stop=>"stop"
def Rw.rF(r:Rw):dM r.enc (.int 0)=aa (.str r.word):=by cases r<;>rfl
def plT:S:=(.seq (.v (.or (.z .eq (.v 2) (.j (.str "jump"))) (.z .eq (.v 2) (.j (.str "call")))) (.ret (.y (.v 0) (.j (.int 1)))) .nil) (.seq (.v (.z .eq (.v 2) (.j (.str "back"))) (.ret (.y (.y (.v 1) (.aE "CALLS")) (.neg (.j (.int 1))))) .nil) (.seq (.v (.and (.z .eq (.v 2) (.j (.str "unless"))) (.z .eq (.call "reckoned" (Z8 (.y (.v 0) (.j (.int 1))) (.v 1))) (.j (.int 0)))) (.ret (.y (.v 0) (.j (.int 2)))) .nil) (.ret (.bin .add (.y (.v 1) (.aE "ROW")) (.j (.int 1)))))))
theorem tS:fE=⟨["row","state"],["row","state","word"],
 (.seq (.set 2 (.y (.v 0) (.j (.int 0)))) plT)⟩:=rfl
def Fp(P:Prg T G)(F:FK->List W->HH->Option (W×HH))(q:W)(st:St)(h:HH)(v:String)(L:¬v="jump")(J:¬v="call")(D:¬v="back")(B:¬v="unless"):evS F G plT [aa q,aa (.p st.enc),aa (.p (.str v))] h=aa (.rt (.p (.int ((st.row:Int)+1))) h):=by have M:dM st.enc (.int 0)=aa (.int (st.row:Int)):=rfl;generalize st.enc=se at *;simp[plT,L,J,D,B,P.ROW,M]
def GL(F:FK->List W->HH->Option (W×HH))(d:D)(B:W)(h:HH)(v:String)(q:Int)(J:v="jump"\/v="call")(i1:dM d (.int 1)=aa (.int q)):evS F G plT [aa (.p d),aa B,aa (.p (.str v))] h=aa (.rt (.p (.int q)) h):=by rcases J with rfl|rfl<;>simp[plT,i1]
def yM(P:Prg T G)(k:Nat)(n:Nat)(r:Rw)(D:r.ok n)(st:St)(W:st.ok)(aG:List Int)(J:r.over st=ai)(h:HH):
 runN T G (k+5) "place_behind" [.p r.enc,.p st.enc] h=aa (.p (.int (r.next aG st).row),h):=by
 have L:=r.rF;have B:runN T G (k+5) "place_behind" [.p r.enc,.p st.enc] h=kC (evS (runN T G (k+4)) G plT [aa (.p r.enc),aa (.p st.enc),aa (.p (.str r.word))] h) (fin h):=by rw[run_eq P.place_behind rfl,tS];generalize r.enc=re at *;simp[L]
 have ot:∀q:Int,kC (aa (.rt (.p (.int q)) h)) (fin h)=aa (.p (.int q),h):=λq=>by simp[cW]
 rw[B];cases r with
 |«unless» s p =>
  have q:=dY P k s (by have:=D.1.2;lia) D.1.1 st W;have U:dM (Rw.unless s p).enc (.int 1)=aa s.enc:=rfl;have O:dM (Rw.unless s p).enc (.int 2)=aa (.int (p:Int)):=rfl;have V:dM st.enc (.int 0)=aa (.int (st.row:Int)):=rfl;generalize (Rw.unless s p).enc=re at *;generalize st.enc=se at *;generalize s.enc=sn at *
  by_cases c:s.val st=0<;>simp[plT,Rw.word,Rw.next,q,c,V,U,O,cW,P.ROW]
 |back =>
  have c:st.calls≠[]:=by intro e;simp[Rw.over,e]at J
  have:∃l x,st.calls=l++[x]:=⟨st.calls.dropLast,st.calls.getLast c,(List.dropLast_concat_getLast c).symm⟩;obtain⟨l,x,e⟩:=this;have M:dM st.enc (.int 3)=aa (.aC (cZ st.calls)):=rfl;have ix:dM (.aC (cZ st.calls)) (.int (-1))=aa (.int (x:Int)):=by
   have e2:-((l.length:Int)+1)<=-1:=by lia
   have Y:(-1+((l.length:Int)+1)).toNat=l.length:=by lia
   simp[cZ,e,e2,Y]
  have nx:((Rw.back).next aG st).row=x:=by simp[Rw.next,e]
  rw[nx];generalize st.enc=se at *;generalize cZ st.calls=nl at *;simp[-gX,plT,Rw.word,P.CALLS,M,ix,cW]
 |stop=>simp[Rw.over]at J|jump p=>rw[Rw.word,GL _ _ _ _ _ (p:Int) (.inl rfl) rfl,ot];rfl|call p=>rw[Rw.word,GL _ _ _ _ _ (p:Int) (.inr rfl) rfl,ot];rfl|_=>rw[Rw.word,Fp P _ _ _ _ _ (by decide) (by decide) (by decide) (by decide),ot];rfl
def ovT:S:=(.seq (.v (.z .eq (.v 2) (.j (.str "back"))) (.ret (.z .eq (.bi .len ai (Z9 (.y (.v 1) (.aE "CALLS")))) (.j (.int 0)))) .nil) (.seq (.v (.z .eq (.v 2) (.j (.str "call"))) (.ret (.z .ge (.bi .len ai (Z9 (.y (.v 1) (.aE "CALLS")))) (.aE "MOST_CALLS"))) .nil) (.ret (.z .eq (.v 2) (.j (.str "stop"))))))
theorem pI:g9=⟨["program","state"],["program","state","word"],
 (.seq (.v (.z .ge (.y (.v 1) (.aE "ROW")) (.bi .len ai (.cons (.v 0) .nil))) (.ret (.j (.bl ah))) .nil)
 (.seq (.set 2 (.y (.y (.v 0) (.y (.v 1) (.aE "ROW"))) (.j (.int 0))))
 ovT))⟩:=rfl
def Fq(F:FK->List W->HH->Option (W×HH))(B q:W)(h:HH)(v:String)(J:¬v="back")(D:¬v="call"):evS F G ovT [aa B,aa q,aa (.p (.str v))] h=aa (.rt (.p (.bl (decide (v="stop")))) h):=by
 by_cases c:v="stop"
 ·subst c;simp[ovT]
 ·skip
  simp[ovT,J,D,c]
def tT(P:Prg T G)(k:Nat)(p:Pg)(st:St)(h:HH):runN T G (k+1) "is_over" [.p (dG p),.p st.enc] h=aa (.p (.bl (over p st)),h):=by
 have M:biD .len [dG p]=aa (.int p.length):=by simp[dG]
 by_cases c:st.row<p.length
 ·have J:¬(p.length:Int)<=(st.row:Int):=by lia
  have W:(st.row:Int)<(p.length:Int):=by lia
  have e:p[st.row]?=aa p[st.row]:=RJ c;have row:dM (dG p) (.int st.row)=aa (p[st.row]).enc:=by simp[dG,W,e]
  have V:over p st=(p[st.row]).over st:=by rw[over,e]
  rw[V];generalize p[st.row]=r at row⊢;have L:=r.rF;have B:runN T G (k+1) "is_over" [.p (dG p),.p st.enc] h=kC (evS (runN T G k) G ovT [aa (.p (dG p)),aa (.p st.enc),aa (.p (.str r.word))] h) (fin h):=by rw[run_eq P.is_over rfl,pI];generalize r.enc=re at row L;simp[M,row,L,P.ROW,J]
  rw[B];have O:biD .len [.aC (cZ st.calls)]=aa (.int (st.calls.length:Int)):=by simp[cZ]
  have U:dM st.enc (.int 3)=aa (.aC (cZ st.calls)):=rfl;cases r with
  |back =>
   have D:(((st.calls.length:Nat):Int)==0)=(st.calls.length==0):=by
    cases st.calls with
    |nil=>rfl|cons a l=>rw[beq_eq_false_iff_ne.mpr (by simp only[RY];lia)];rfl
   simp[-pX,ovT,Rw.word,P.CALLS,U,O,D,cW,Rw.over]
  |call q =>
   have D:decide ((6:Int)<=(st.calls.length:Int))=decide (6<=st.calls.length):=decide_eq_decide.mpr (by lia);simp[-pX,ovT,Rw.word,P.CALLS,P.MOST_CALLS,U,O,D,cW,Rw.over]
  |_ =>
   rw[Rw.word,Fq _ _ _ _ _ (by decide) (by decide)];simp[cW,Rw.over]
 ·have J:(p.length:Int)<=(st.row:Int):=by lia
  have e:p[st.row]?=af:=RT (by lia);rw[run_eq P.is_over rfl];simp[g9,M,P.ROW,J,cW,over,e]
def ints_set(xs:List Int)(i:Nat)(v:Int):(cV xs).set i (.int v)=cV (xs.set i v):=by simp[cV,VL]
def iy(xs:List Int):(cV xs).length=xs.length:=by simp[cV]
def ints_snoc(xs:List Int)(v:Int):cV xs++[.int v]=cV (xs++[v]):=by simp[cV]
def yN(xs:List Nat)(v:Nat):cZ xs++[.int (v:Int)]=cZ (xs++[v]):=by simp[cZ]
def B6(xs:List Nat):cut (cZ xs) af (aa (-1))=cZ xs.dropLast:=by
 have e:(-1+(xs.length:Int)).toNat=xs.length-1:=by lia
 simp[cut,clip,cZ,e,List.dropLast_eq_take]
structure St.small(st:St):Prop where
 sl:st.said.length<=5000
 cl:st.calls.length<=5000
def encL(st:St):List D:=[.int st.row,.aC (cV st.names),.aC (cV st.cells),.aC (cZ st.calls),.int st.aG,.aC (cV st.said)]
theorem B7(st:St):biD .list [st.enc]=aa (.aB (encL st)):=rfl
def Jp:S:=(.put 5 (.aE "CALLS") (.n (.y (.v 2) (.aE "CALLS")) .nil (Z9 (.neg (.j (.int 1))))))
def Jq:S:=(.v (.z .eq (.v 4) (.j (.str "back"))) Jp .nil)
def Jr:S:=(.put 5 (.aE "CALLS") (.bin .add (.y (.v 2) (.aE "CALLS")) (.aC (Z9 (.bin .add (.y (.v 2) (.aE "ROW")) (.j (.int 1)))))))
def Ft:S:=(.v (.z .eq (.v 4) (.j (.str "call"))) Jr Jq)
def Js:S:=(.put 5 (.aE "SAID") (.bin .add (.y (.v 2) (.aE "SAID")) (.aC (Z9 (.call "reckoned" (Z8 (.y (.v 3) (.j (.int 1))) (.v 2)))))))
def B8:S:=(.v (.z .eq (.v 4) (.j (.str "say"))) Js Ft)
def Jt:S:=(.seq (.put 5 (.aE "NAMES") (.call "with_name" (Z7 (.v 2) (.y (.v 3) (.j (.int 1))) (.call "brought" (Z8 (.v 1) (.y (.v 2) (.aE "ASKED"))))))) (.put 5 (.aE "ASKED") (.bin .add (.y (.v 2) (.aE "ASKED")) (.j (.int 1)))))
def yO:S:=(.v (.z .eq (.v 4) (.j (.str "ask"))) Jt B8)
def Ju:S:=(.put 5 (.aE "CELLS") (.call "with_worth" (Z7 (.y (.v 2) (.aE "CELLS")) (.call "cell_by" (Z8 (.y (.v 3) (.j (.int 1))) (.v 2))) (.call "reckoned" (Z8 (.y (.v 3) (.j (.int 2))) (.v 2))))))
def vg:S:=(.v (.z .eq (.v 4) (.j (.str "put"))) Ju yO)
def Jv:S:=(.put 5 (.aE "NAMES") (.call "with_name" (Z7 (.v 2) (.y (.v 3) (.j (.int 1))) (.call "reckoned" (Z8 (.y (.v 3) (.j (.int 2))) (.v 2))))))
def kH:S:=(.v (.z .eq (.v 4) (.j (.str "set"))) Jv vg)
def Jw:S:=(.seq kH (.ret (.bi .tuple ai (Z9 (.v 5)))))
theorem pJ:jk=⟨["program","asked","state"],["program","asked","state","row","word","behind"],
 (.seq (.set 3 (.y (.v 0) (.y (.v 2) (.aE "ROW"))))
 (.seq (.set 4 (.y (.v 3) (.j (.int 0))))
 (.seq (.set 5 (.bi .list ah (.cons (.v 2) .nil)))
 (.seq (.put 5 (.aE "ROW") (.call "place_behind" (.cons (.v 3) (.cons (.v 2) .nil))))
 Jw))))⟩:=rfl
theorem Jx(F:FK->List W->HH->Option (W×HH))(A B:S)(s:Sl)(h:HH):evS F G (.seq A B) s h=mF (evS F G A s h) (evS F G B):=rfl
def pick(F:FK->List W->HH->Option (W×HH))(L J D q:W)(v w:String)(rest:Sl)(h:HH)(A B:S):evS F G (.v (.z .eq (.v 4) (.j (.str w))) A B) (aa L::aa J::aa D::aa q::aa (.p (.str v))::rest) h=if v=w then evS F G A (aa L::aa J::aa D::aa q::aa (.p (.str v))::rest) h else evS F G B (aa L::aa J::aa D::aa q::aa (.p (.str v))::rest) h:=by
 have e:eqv (.str v) (.str w)=decide (v=w):=by
  by_cases c:v=w
  rw[bO c,c];simp
  ·rw[bN c];have:¬RV v=RV w:=λz=>c (by simpa using z);simp[this,c]
 by_cases c:v=w
 ·rw[bO c]at e;rw[bJ c];simp[-eqv,e]
 ·rw[bN c]at e;rw[bK c];simp[-eqv,e]
def to0(F:FK->List W->HH->Option (W×HH))(J D B q:W)(rest:Sl)(h:HH):evS F G kH (aa J::aa D::aa B::aa q::aa (.p (.str "set"))::rest) h=evS F G Jv (aa J::aa D::aa B::aa q::aa (.p (.str "set"))::rest) h:=by rw[kH,pick,bJ rfl]
def to1(F:FK->List W->HH->Option (W×HH))(J D B q:W)(rest:Sl)(h:HH):evS F G kH (aa J::aa D::aa B::aa q::aa (.p (.str "put"))::rest) h=evS F G Ju (aa J::aa D::aa B::aa q::aa (.p (.str "put"))::rest) h:=by rw[kH,pick,bK (by decide),vg,pick,bJ rfl]
def to2(F:FK->List W->HH->Option (W×HH))(J D B q:W)(rest:Sl)(h:HH):evS F G kH (aa J::aa D::aa B::aa q::aa (.p (.str "ask"))::rest) h=evS F G Jt (aa J::aa D::aa B::aa q::aa (.p (.str "ask"))::rest) h:=by rw[kH,pick,bK (by decide),vg,pick,bK (by decide),yO,pick,bJ rfl]
def to3(F:FK->List W->HH->Option (W×HH))(J D B q:W)(rest:Sl)(h:HH):evS F G kH (aa J::aa D::aa B::aa q::aa (.p (.str "say"))::rest) h=evS F G Js (aa J::aa D::aa B::aa q::aa (.p (.str "say"))::rest) h:=by rw[kH,pick,bK (by decide),vg,pick,bK (by decide),yO,pick,bK (by decide),B8,pick,bJ rfl]
def to4(F:FK->List W->HH->Option (W×HH))(J D B q:W)(rest:Sl)(h:HH):evS F G kH (aa J::aa D::aa B::aa q::aa (.p (.str "call"))::rest) h=evS F G Jr (aa J::aa D::aa B::aa q::aa (.p (.str "call"))::rest) h:=by rw[kH,pick,bK (by decide),vg,pick,bK (by decide),yO,pick,bK (by decide),B8,pick,bK (by decide),Ft,pick,bJ rfl]
def to5(F:FK->List W->HH->Option (W×HH))(J D B q:W)(rest:Sl)(h:HH):evS F G kH (aa J::aa D::aa B::aa q::aa (.p (.str "back"))::rest) h=evS F G Jp (aa J::aa D::aa B::aa q::aa (.p (.str "back"))::rest) h:=by rw[kH,pick,bK (by decide),vg,pick,bK (by decide),yO,pick,bK (by decide),B8,pick,bK (by decide),Ft,pick,bK (by decide),Jq,pick,bJ rfl]
def toN(F:FK->List W->HH->Option (W×HH))(J D B q:W)(rest:Sl)(h:HH)(v:String)(L:v∉["set","put","ask","say","call","back"]):evS F G kH (aa J::aa D::aa B::aa q::aa (.p (.str v))::rest) h=aa (.nx (aa J::aa D::aa B::aa q::aa (.p (.str v))::rest) h):=by simp only[Xq,Vy,or_false,not_or]at L;obtain⟨Z,Y,V,U,O,M⟩:=L;rw[kH,pick,bK Z,vg,pick,bK Y,yO,pick,bK V,B8,pick,bK U,Ft,pick,bK O,Jq,pick,bK M];rfl
def tU(P:Prg T G)(k:Nat)(p:Pg)(Z:Pg.ok p)(aG:List Int)(st:St)(D:st.ok)(W:st.small)(L:over p st=ai)(h:HH):
 runN T G (k+6) "stepped" [.p (dG p),.p (.aB (cV aG)),.p st.enc] h=aa (.p (step p aG st).enc,h):=by
 have c:st.row<p.length:=by
  rcases R0 st.row p.length with q|q
  exact q;rw[over,RT q]at L;exact Ly L
 have e:p[st.row]?=aa p[st.row]:=RJ c;have g:(st.row:Int)<(p.length:Int):=by lia
 have B:=Z _ (VA c);have J:(p[st.row]).over st=ai:=by rw[over,e]at L;exact L
 have O:=yM P k p.length p[st.row] B st D aG J;rw[step,e];have j:=W.sl;have i:=W.cl
 revert O B J
 generalize p[st.row]=r at *;intro B J O;have row:dM (dG p) (.int st.row)=aa r.enc:=by simp[dG,g,e]
 have M:runN T G (k+6) "stepped" [.p (dG p),.p (.aB (cV aG)),.p st.enc] h =
  kC (evS (runN T G (k+5)) G Jw [aa (.p (dG p)),aa (.p (.aB (cV aG))),aa (.p st.enc),aa (.p r.enc),aa (.p (.str r.word)),aa (.r h.length)] (h++[.l [.int (r.next aG st).row,.aC (cV st.names),.aC (cV st.cells),.aC (cZ st.calls),.int st.aG,.aC (cV st.said)]])) (fin h):=by
  rw[run_eq P.stepped rfl,pJ];simp[row,r.rF,P.ROW,B7,encL,O]
 rw[M,Jw,Jx];cases r with
 |set x s =>
  have q:=dY P (k+1) s (by have:=B.2;lia) B.1 st D;have w:=iS P (k+3) st D x (s.val st);simp only[Rw.enc,Rw.next,Rw.word,to0];simp[Jv,P.ROW,P.NAMES,q,w,rd,lE,Rw.next];simp[St.enc]
 |put s t =>
  have q:=tR P k s B.1 st D;have Y:=dY P (k+1) t (by have:=B.2.2;lia) B.2.1 st D;have v:=Sm.tO (s:=s) D B.1.1;have a:(s.val st%4).toNat<(cV st.cells).length:=by rw[iy,D.clen];lia
  have w:=iw P (k+4) (cV st.cells) (s.val st%4).toNat a (by rw[iy,D.clen];lia) (.int (t.val st));have f:(((s.val st%4).toNat:Nat):Int)=s.val st%4:=by lia
  rw[f,ints_set]at w;simp only[Rw.enc,Rw.next,Rw.word,to1];simp[Ju,P.ROW,P.CELLS,q,Y,w,rd,lE,Rw.next];simp[St.enc]
 |ask x =>
  have b:=tQ P (k+4) aG st.aG;have w:=iS P (k+3) st D x (aG.getD st.aG 0);simp only[Rw.enc,Rw.next,Rw.word,to2];simp only[SL]at b w⊢;simp[Jt,P.ROW,P.NAMES,P.ASKED,b,w,rd,lE,Rw.next];simp[St.enc]
 |say s =>
  have q:=dY P (k+1) s (by have:=B.2;lia) B.1 st D;simp only[Rw.enc,Rw.next,Rw.word,to3];have U:(cV st.said).length+1<=100000:=by rw[iy];lia
  simp[Js,P.ROW,P.SAID,q,rd,lE,Rw.next,U,ints_snoc];simp[St.enc]
 |call q =>
  simp only[Rw.enc,Rw.next,Rw.word,to4];have U:(cZ st.calls).length+1<=100000:=by simp[cZ];lia
  have V:cZ st.calls++[.int ((st.row:Int)+1)]=cZ (st.calls++[st.row+1]):=by rw[←yN];simp
  simp[Jr,P.ROW,P.CALLS,rd,lE,Rw.next,U,V];simp[St.enc]
 |back =>
  simp only[Rw.enc,Rw.next,Rw.word,to5];have V:=B6 st.calls;have d:qF (.aC (cZ st.calls)) af (aa (-1))=aa (.aC (cZ st.calls.dropLast)):=by rw[qK,V]
  simp[-qK,Jp,P.ROW,P.CALLS,rd,lE,Rw.next,d];simp[St.enc]
 |stop=>simp[Rw.over]at J
 |_ =>
  simp only[Rw.enc,Rw.next,Rw.word];rw[toN _ _ _ _ _ _ _ _ (by decide)];simp[P.ROW,rd,lE,Rw.next];simp[St.enc]
end
def Ask(aG:List Int):Prop:=∀x∈aG,Wth x
def B9{xs:List Int}{i:Nat}{v:Int}(h:∀x∈xs,Wth x)(D:Wth v):∀x∈xs.set i v,Wth x:=λx B=>by
 rcases UB B with q|q
 exact h x q;rw[q];exact D
structure At(n:Nat)(st:St):Prop where
 ok:st.ok
 said:st.said.length<=n
 calls:st.calls.length<=6
def At.small{st:St}(a:At n st)(h:n<=5000):st.small:=⟨by have:=a.said;lia,by have:=a.calls;lia⟩
def wU:At 0 St.zero:=⟨Fo,RQ _,by decide⟩
def wV{n:Nat}{p:Pg}{st:St}(L:Pg.ok p)(M:Ask aG)(a:At n st)(J:over p st=ai):At (n+1) (step p aG st):=by
 have c:st.row<p.length:=by
  rcases R0 st.row p.length with q|q
  exact q;rw[over,RT q]at J;cases J
 have e:p[st.row]?=aa p[st.row]:=RJ c;have D:=L _ (VA c);have B:(p[st.row]).over st=ai:=by rw[over,e]at J;exact J
 rw[step,e];dsimp only
 revert D B
 generalize p[st.row]=r;intro D B;obtain⟨ok,O,cl⟩:=a;cases r with
 |set x s=>exact⟨⟨by simp[Rw.next,ok.nlen],ok.clen,B9 ok.nw (Sm.tO ok D.1),ok.cw⟩,by simp[Rw.next];lia,cl⟩|put s t=>exact⟨⟨ok.nlen,by simp[Rw.next,ok.clen],ok.nw,B9 ok.cw (Sm.tO ok D.2.1)⟩,by simp[Rw.next];lia,cl⟩|ask x=>exact⟨⟨by simp[Rw.next,ok.nlen],ok.clen,B9 ok.nw (vd M _),ok.cw⟩,by simp[Rw.next];lia,cl⟩|say s=>exact⟨⟨ok.nlen,ok.clen,ok.nw,ok.cw⟩,by simp[Rw.next];lia,cl⟩
 |call q =>
  simp[Rw.over]at B;exact⟨⟨ok.nlen,ok.clen,ok.nw,ok.cw⟩,by simp[Rw.next];lia,by simp[Rw.next];lia⟩
 |back=>exact⟨⟨ok.nlen,ok.clen,ok.nw,ok.cw⟩,by simp[Rw.next];lia,by simp[Rw.next];lia⟩|stop=>simp[Rw.over]at B|_=>exact⟨⟨ok.nlen,ok.clen,ok.nw,ok.cw⟩,by simp[Rw.next];lia,cl⟩
section
end
def gF:Fn:=⟨["_law_script","_law_k"],["_law_script","_law_k"], (.seq (.v (.z .eq (.v 0) (.aB ai .nil)) (.ret (.bin .mul (.j (.int 7)) (.v 1))) .nil) (.ret (.bin .add (.y (.v 0) (.bin .mod (.v 1) (.bi .len ai (Z9 (.v 0))))) (.bin .mul (.j (.int 6553)) (.bin .fdiv (.v 1) (.bi .len ai (Z9 (.v 0))))))))⟩
def gM:Fn:=⟨["_law_script","_law_k","_law_many"],["_law_script","_law_k","_law_many","_law_cell_here"], (.seq (.set 3 (.bin .mod (.bin .add (.bin .mul (.bin .mod (.call "_law_cell" (Z8 (.v 0) (.v 1))) (.j (.int 2147483563))) (.j (.int 69069))) (.bin .mul (.j (.int 104723)) (.bin .add (.v 1) (.j (.int 1))))) (.j (.int 2147483563)))) (.seq (.set 3 (.bin .mod (.bin .add (.bin .mul (.v 3) (.v 3)) (.bin .fdiv (.v 3) (.j (.int 3)))) (.j (.int 2147483399)))) (.ret (.bin .mod (.bin .fdiv (.bin .mod (.bin .add (.bin .mul (.v 3) (.v 3)) (.bin .fdiv (.v 3) (.j (.int 7)))) (.j (.int 2147483647))) (.j (.int 11))) (.v 2)))))⟩
def smL:S:=(.seq (.v (.z .eq (.call "_law_drawn" (Z7 (.v 0) (.bin .add (.v 1) (.j (.int 1))) (.j (.int 2)))) (.j (.int 0))) (.ret (.aC (Z8 (.j (.str "num")) (.y (.aB ai (Z4 (.j (.int 0)) (.j (.int 1)) (.j (.int 2)) (.j (.int 3)) (.j (.int 10)) (.j (.int 10006)))) (.call "_law_drawn" (Z7 (.v 0) (.bin .add (.v 1) (.j (.int 2))) (.j (.int 6)))))))) .nil) (.ret (.aC (Z8 (.j (.str "name")) (.y (.j (.str "abcf")) (.call "_law_drawn" (Z7 (.v 0) (.bin .add (.v 1) (.j (.int 2))) (.j (.int 4)))))))))
def smR:S:=(.seq (.set 4 (.call "_law_sum" (Z7 (.v 0) (.bin .add (.bin .mul (.v 1) (.j (.int 2))) (.j (.int 5))) (.bin .sub (.v 2) (.j (.int 1)))))) (.seq (.v (.z .lt (.v 3) (.j (.int 6))) (.ret (.aC (Z8 (.j (.str "cell")) (.v 4)))) .nil) (.ret (.aC (Z7 (.y (.aB ai (Z6 (.j (.str "add")) (.j (.str "sub")) (.j (.str "mul")) (.j (.str "less")))) (.bin .sub (.v 3) (.j (.int 6)))) (.v 4) (.call "_law_sum" (Z7 (.v 0) (.bin .add (.bin .mul (.v 1) (.j (.int 2))) (.j (.int 19))) (.bin .sub (.v 2) (.j (.int 1))))))))))
def fL:Fn:=⟨["_law_script","_law_at","_law_deep"],["_law_script","_law_at","_law_deep","_law_way","_law_one"], (.seq (.set 3 (.call "_law_drawn" (Z7 (.v 0) (.v 1) (.j (.int 10))))) (.seq (.v (.or (.z .eq (.v 2) (.j (.int 0))) (.z .lt (.v 3) (.j (.int 4)))) smL .nil) smR))⟩
def jn:Fn:=⟨["_law_script","_law_at","_law_size"],["_law_script","_law_at","_law_size","_law_way","_law_place","_law_name","_law_one"], (.seq (.set 3 (.call "_law_drawn" (Z7 (.v 0) (.v 1) (.j (.int 16))))) (.seq (.set 4 (.call "_law_drawn" (Z7 (.v 0) (.bin .add (.v 1) (.j (.int 1))) (.bin .add (.v 2) (.j (.int 1)))))) (.seq (.set 5 (.y (.j (.str "abc")) (.call "_law_drawn" (Z7 (.v 0) (.bin .add (.v 1) (.j (.int 2))) (.j (.int 3)))))) (.seq (.set 6 (.call "_law_sum" (Z7 (.v 0) (.bin .add (.v 1) (.j (.int 3))) (.j (.int 2))))) (.seq (.v (.z .lt (.v 3) (.j (.int 5))) (.ret (.aC (Z7 (.j (.str "set")) (.v 5) (.v 6)))) .nil) (.seq (.v (.z .lt (.v 3) (.j (.int 7))) (.ret (.aC (Z7 (.j (.str "put")) (.call "_law_sum" (Z7 (.v 0) (.bin .add (.v 1) (.j (.int 9))) (.j (.int 1)))) (.v 6)))) .nil) (.seq (.v (.z .lt (.v 3) (.j (.int 9))) (.ret (.y (.aB ai (Z8 (.aC (Z8 (.j (.str "ask")) (.v 5))) (.aC (Z8 (.j (.str "say")) (.v 6))))) (.bin .sub (.v 3) (.j (.int 7))))) .nil) (.seq (.v (.z .lt (.v 3) (.j (.int 12))) (.ret (.y (.aB ai (Z7 (.aC (Z8 (.j (.str "jump")) (.v 4))) (.aC (Z7 (.j (.str "unless")) (.v 6) (.v 4))) (.aC (Z7 (.j (.str "unless")) (.aC (Z8 (.j (.str "name")) (.v 5))) (.v 4))))) (.bin .sub (.v 3) (.j (.int 9))))) .nil) (.ret (.y (.aB ai (Z6 (.aC (Z8 (.j (.str "call")) (.v 4))) (.aC (Z8 (.j (.str "call")) (.v 4))) (.aC (Z9 (.j (.str "back")))) (.y (.aB ai (Z8 (.aC (Z9 (.j (.str "stop")))) (.aC (Z9 (.j (.str "back")))))) (.bin .mod (.v 4) (.j (.int 2)))))) (.bin .sub (.v 3) (.j (.int 12)))))))))))))⟩
def fc:Fn:=⟨["_law_script","_law_at"],["_law_script","_law_at","_law_size","_law_put","_law_sign","_law_rows"], (.seq (.set 2 (.bin .add (.j (.int 1)) (.call "_law_drawn" (Z7 (.v 0) (.v 1) (.j (.int 9)))))) (.seq (.v (.z .eq (.call "_law_drawn" (Z7 (.v 0) (.bin .add (.v 1) (.j (.int 1))) (.j (.int 4)))) (.j (.int 0))) (.seq (.set 3 (.aC (Z7 (.j (.str "put")) (.aC (Z8 (.j (.str "name")) (.j (.str "a")))) (.aC (Z8 (.j (.str "num")) (.call "_law_drawn" (Z7 (.v 0) (.bin .add (.v 1) (.j (.int 2))) (.j (.int 9))))))))) (.seq (.set 4 (.y (.aB ai (Z8 (.j (.str "add")) (.j (.str "sub")))) (.call "_law_drawn" (Z7 (.v 0) (.bin .add (.v 1) (.j (.int 3))) (.j (.int 2)))))) (.seq (.set 5 (.aC (Z5 (.aC (Z8 (.j (.str "ask")) (.j (.str "a")))) (.aC (Z8 (.j (.str "call")) (.j (.int 4)))) (.aC (Z8 (.j (.str "say")) (.aC (Z8 (.j (.str "name")) (.j (.str "a")))))) (.aC (Z8 (.j (.str "jump")) (.j (.int 0)))) (.v 3)))) (.ret (.bin .add (.v 5) (.aC (Z6 (.aC (Z8 (.j (.str "call")) (.j (.int 7)))) (.aC (Z9 (.j (.str "back")))) (.aC (Z7 (.j (.str "set")) (.j (.str "b")) (.aC (Z7 (.v 4) (.aC (Z8 (.j (.str "name")) (.j (.str "b")))) (.aC (Z8 (.j (.str "name")) (.j (.str "a")))))))) (.aC (Z9 (.j (.str "back"))))))))))) .nil) (.ret (.bi .tuple ai (Z9 (.comp ai .rng1 (Z9 (.v 2)) ["_law_k"] [(0,"_law_script"),(1,"_law_at"),(2,"_law_size")] .nil (.call "_law_row" (Z7 (.v 1) (.bin .add (.bin .add (.v 2) (.j (.int 10))) (.bin .mul (.j (.int 40)) (.v 0))) (.v 3)))))))))⟩
def gO:Fn:=⟨["_law_script","_law_at"],["_law_script","_law_at"], (.ret (.comp ai .rng1 (Z9 (.call "_law_drawn" (Z7 (.v 0) (.v 1) (.j (.int 4))))) ["_law_k"] [(0,"_law_script"),(1,"_law_at")] .nil (.y (.aB ai (Z6 (.j (.int 0)) (.j (.int 1)) (.j (.int 5)) (.j (.int 10006)))) (.call "_law_drawn" (Z7 (.v 1) (.bin .add (.bin .add (.v 2) (.j (.int 1))) (.v 0)) (.j (.int 4)))))))⟩
structure Lw(T:FK->Option Fn):Prop where
 cell:T "_law_cell"=aa gF
 drawn:T "_law_drawn"=aa gM
 sum:T "_law_sum"=aa fL
 row:T "_law_row"=aa jn
 aG:T "_law_asked"=aa gO
noncomputable def wW(ns:List Int)(k:Int):Int:=if ns=[]then 7*k else ns.getD (k%ns.length).toNat 0+6553*(k/ns.length)
def drw(ns:List Int)(k many:Int):Int :=
 let a:=(wW ns k%2147483563*69069+104723*(k+1))%2147483563
 let b:=(a*a+a/3)%2147483399
 (b*b+b/7)%2147483647/11%many
def fM(ns:List Int)(k:Int)(h:0<many):0<=drw ns k many:=Int.emod_nonneg _ (by lia)
def fN(ns:List Int)(k:Int)(h:0<many):drw ns k many<many:=Int.emod_lt_of_pos _ h
def qo(q:0<=i)(h1:i<18446744073709551616):big i=ah:=by unfold big;exact bO (by lia)
section
def Fv(ns:List Int):eqv (.aB (cV ns)) (.aB [])=decide (ns=[]):=by cases ns<;>simp[cV]
def Ca(L:Lw T)(m:Nat)(ns:List Int)(W:ns.length<=1000)(k:Int)(h:HH):runN T G (m+1) "_law_cell" [.p (.aB (cV ns)),.p (.int k)] h=aa (.p (.int (wW ns k)),h):=by
 rw[run_eq L.cell rfl]
 by_cases c:ns=[]
 ·subst c;simp[gF,cV,wW,big,cW]
 ·have M:0<ns.length:=List.length_pos_iff.mpr c;have q:eqv (.aB (cV ns)) (.aB [])=ai:=by rw[Fv];exact bN c
  have B:(0:Int)<(ns.length:Int):=by lia
  have D:(ns.length:Int)<1073741824:=by lia
  have U:=Int.emod_nonneg k (b:=(ns.length:Int)) (by lia);have O:=Int.emod_lt_of_pos k B;have V:(k%(ns.length:Int)).toNat<ns.length:=by lia
  have J:ns.length<1073741824:=by lia
  simp[gF,-eqv,q,iy,B,D,M,J,U,O,big,cW,wW,c];simp[cV,V,cW,M,J,U,O,big,B,D]
def fP(L:Lw T)(m:Nat)(ns:List Int)(B:ns.length<=1000)(k many:Int)(q:0<many)(h:HH):
 runN T G (m+2) "_law_drawn" [.p (.aB (cV ns)),.p (.int k),.p (.int many)] h=aa (.p (.int (drw ns k many)),h):=by
 rw[run_eq L.drawn rfl];have r:=Ca (G:=G) L m ns B k;have O:big 69069=ah:=by decide
 have M:big 104723=ah:=by decide
 have J:∀x:Int,big (x%2147483563)=ah:=λx=>qo (by lia) (by lia);have D:∀x:Int,big (x%2147483399)=ah:=λx=>qo (by lia) (by lia);simp[gM,r,O,M,J,D,cW,q,drw]
def rG:RV "abcf"=⟨#[97,98,99,102]⟩:=by decide +kernel
def Cb:RV "abc"=⟨#[97,98,99]⟩:=by decide +kernel
def o_a:RV "a"=⟨#[97]⟩:=by decide +kernel
def o_b:RV "b"=⟨#[98]⟩:=by decide +kernel
def o_c:RV "c"=⟨#[99]⟩:=by decide +kernel
def o_f:RV "f"=⟨#[102]⟩:=by decide +kernel
def wX(i:Int)(q:0<=i)(h1:i<4):∃x:Nm,dM (.str "abcf") (.int i)=aa (.str x.w):=by
 have:i=0\/i=1\/i=2\/i=3:=by lia
 rcases this with rfl|rfl|rfl|rfl
 exact⟨.a,by rw[Nm.w,rG,o_a];rfl⟩;exact⟨.b,by rw[Nm.w,rG,o_b];rfl⟩;exact⟨.c,by rw[Nm.w,rG,o_c];rfl⟩;exact⟨.f,by rw[Nm.w,rG,o_f];rfl⟩
def Jy(i:Int)(q:0<=i)(h1:i<3):∃x:Nm,dM (.str "abc") (.int i)=aa (.str x.w):=by
 have:i=0\/i=1\/i=2:=by lia
 rcases this with rfl|rfl|rfl
 exact⟨.a,by rw[Nm.w,Cb,o_a];rfl⟩;exact⟨.b,by rw[Nm.w,Cb,o_b];rfl⟩;exact⟨.c,by rw[Nm.w,Cb,o_c];rfl⟩
def wY(i:Int)(q:0<=i)(h1:i<6):∃n:Int,Wth n/\dM (.aB [.int 0,.int 1,.int 2,.int 3,.int 10,.int 10006]) (.int i)=aa (.int n):=by
 have:i=0\/i=1\/i=2\/i=3\/i=4\/i=5:=by lia
 rcases this with rfl|rfl|rfl|rfl|rfl|rfl
 exact⟨0,⟨by decide,by decide⟩,rfl⟩;exact⟨1,⟨by decide,by decide⟩,rfl⟩;exact⟨2,⟨by decide,by decide⟩,rfl⟩;exact⟨3,⟨by decide,by decide⟩,rfl⟩;exact⟨10,⟨by decide,by decide⟩,rfl⟩;exact⟨10006,⟨by decide,by decide⟩,rfl⟩
def Jz(i:Int)(q:0<=i)(h1:i<4):∃o:Op,dM (.aB [.str "add",.str "sub",.str "mul",.str "less"]) (.int i)=aa (.str o.w):=by
 have:i=0\/i=1\/i=2\/i=3:=by lia
 rcases this with rfl|rfl|rfl|rfl
 exact⟨.add,rfl⟩;exact⟨.sub,rfl⟩;exact⟨.mul,rfl⟩;exact⟨.less,rfl⟩
def Cd(L:Lw T)(ns:List Int)(J:ns.length<=1000)(p n:Int)(k:Nat)(rest:Sl)(h:HH)(c:drw ns (p+1) 2=0)(en:dM (.aB [.int 0,.int 1,.int 2,.int 3,.int 10,.int 10006]) (.int (drw ns (p+2) 6))=aa (.int n)):
 evS (runN T G (k+2)) G smL (aa (.p (.aB (cV ns)))::aa (.p (.int p))::rest) h=aa (.rt (.p (Sm.num n).enc) h):=by
 have M:=λq B (D:0<B)=>fP (G:=G) L k ns J q B D;simp[-dU,-jB,smL,M,c,en,Sm.enc]
def Ce(L:Lw T)(ns:List Int)(J:ns.length<=1000)(p:Int)(x:Nm)(k:Nat)(rest:Sl)(h:HH)(c:¬drw ns (p+1) 2=0)(ex:dM (.str "abcf") (.int (drw ns (p+2) 4))=aa (.str x.w)):
 evS (runN T G (k+2)) G smL (aa (.p (.aB (cV ns)))::aa (.p (.int p))::rest) h=aa (.rt (.p (Sm.nam x).enc) h):=by
 have M:=λq B (D:0<B)=>fP (G:=G) L k ns J q B D;simp[-dU,-jB,smL,M,c,ex,Sm.enc]
def rH(L:Lw T)(ns:List Int)(J:ns.length<=1000):∀(B:Nat)(p:Int),∃s:Sm,s.ok/\s.size+1<=2^(B+1)/\∀(m:Nat)(h:HH),
 runN T G (m+B+3) "_law_sum" [.p (.aB (cV ns)),.p (.int p),.p (.int B)] h=aa (.p s.enc,h):=by
 intro B
 induction B with
 |zero =>
  intro p;have M:=λm q many (V:0<many)=>fP (G:=G) L m ns J q many V;obtain⟨x,ex⟩:=wX (drw ns (p+2) 4) (fM _ _ (by decide)) (fN _ _ (by decide));obtain⟨n,hn,en⟩:=wY (drw ns (p+2) 6) (fM _ _ (by decide)) (fN _ _ (by decide));have D:∀(s:Sm)(m:Nat)(h:HH),(∀rest,evS (runN T G (m+2)) G smL (aa (.p (.aB (cV ns)))::aa (.p (.int p))::rest) h=aa (.rt (.p s.enc) h))->runN T G (m+0+3) "_law_sum" [.p (.aB (cV ns)),.p (.int p),.p (.int ((0:Nat):Int))] h=aa (.p s.enc,h):=λs m h q=>by rw[run_eq L.sum rfl];simp[fL,M,q,cW]
  by_cases c:drw ns (p+1) 2=0
  exact⟨.num n,hn,by simp[Sm.size],λm h=>D _ m h λrest=>Cd L ns J p n m rest h c en⟩;exact⟨.nam x,trivial,by simp[Sm.size],λm h=>D _ m h λrest=>Ce L ns J p x m rest h c ex⟩
 |succ B b =>
  intro p;have M:=λm q many (V:0<many)=>fP (G:=G) L m ns J q many V;obtain⟨x,ex⟩:=wX (drw ns (p+2) 4) (fM _ _ (by decide)) (fN _ _ (by decide));obtain⟨n,hn,en⟩:=wY (drw ns (p+2) 6) (fM _ _ (by decide)) (fN _ _ (by decide));obtain⟨s,a,v,U⟩:=b (p*2+5);obtain⟨t,i,u,O⟩:=b (p*2+19);have d:∀m,m+(B+1)+2=m+B+3:=λm=>by lia
  have Z:=λm h=>(d m).symm ▸ U m h;have tr:=λm h=>(d m).symm ▸ O m h;have W:¬((B:Int)+1=0):=by lia
  have e:((B:Int)+1-1)=B:=by lia
  have g:big 2=ah:=by decide
  have r:=fM ns p (many:=10) (by decide);have l:=fN ns p (many:=10) (by decide);have w:2^(B+1+1)=2^(B+1)+2^(B+1):=by lia
  by_cases Y:drw ns p 10<4
  ·have D:∀(s:Sm)(m:Nat)(h:HH),(∀rest,evS (runN T G (m+B+1+2)) G smL (aa (.p (.aB (cV ns)))::aa (.p (.int p))::rest) h=aa (.rt (.p s.enc) h))->runN T G (m+(B+1)+3) "_law_sum" [.p (.aB (cV ns)),.p (.int p),.p (.int ((B+1:Nat):Int))] h=aa (.p s.enc,h):=λs m h q=>by rw[run_eq L.sum rfl];have k:=M (m+(B+1));have q:∀rest,evS (runN T G (m+(B+1)+2)) G smL (aa (.p (.aB (cV ns)))::aa (.p (.int p))::rest) h=aa (.rt (.p s.enc) h):=q;simp[fL,k,Y,W,q,cW]
   by_cases c:drw ns (p+1) 2=0
   exact⟨.num n,hn,by simp only[Sm.size];lia,λm h=>D _ m h λrest=>Cd L ns J p n (m+B+1) rest h c en⟩;exact⟨.nam x,trivial,by simp only[Sm.size];lia,λm h=>D _ m h λrest=>Ce L ns J p x (m+B+1) rest h c ex⟩
  ·by_cases f:drw ns p 10<6
   ·refine⟨.cell s,a,by simp only[Sm.size];lia,λm h=>?_⟩;rw[run_eq L.sum rfl];simp[-dU,-jB,fL,smR,M,Y,f,W,e,g,Z,cW,Sm.enc]
   ·obtain⟨o,j⟩:=Jz (drw ns p 10-6) (by lia) (by lia);refine⟨.two o s t,⟨a,i⟩,by simp only[Sm.size];lia,λm h=>?_⟩;rw[run_eq L.sum rfl];simp[-dU,-jB,fL,smR,M,Y,f,W,e,g,Z,tr,j,cW,Sm.enc]
end
def GM:S:=(.ret (.y (.aB ai (Z6 (.aC (Z8 (.j (.str "call")) (.v 4))) (.aC (Z8 (.j (.str "call")) (.v 4))) (.aC (Z9 (.j (.str "back")))) (.y (.aB ai (Z8 (.aC (Z9 (.j (.str "stop")))) (.aC (Z9 (.j (.str "back")))))) (.bin .mod (.v 4) (.j (.int 2)))))) (.bin .sub (.v 3) (.j (.int 12)))))
def rA3:S:=(.ret (.y (.aB ai (Z7 (.aC (Z8 (.j (.str "jump")) (.v 4))) (.aC (Z7 (.j (.str "unless")) (.v 6) (.v 4))) (.aC (Z7 (.j (.str "unless")) (.aC (Z8 (.j (.str "name")) (.v 5))) (.v 4))))) (.bin .sub (.v 3) (.j (.int 9)))))
def Cf:S:=(.seq (.v (.z .lt (.v 3) (.j (.int 12))) rA3 .nil) GM)
def rA2:S:=(.ret (.y (.aB ai (Z8 (.aC (Z8 (.j (.str "ask")) (.v 5))) (.aC (Z8 (.j (.str "say")) (.v 6))))) (.bin .sub (.v 3) (.j (.int 7)))))
def wZ:S:=(.seq (.v (.z .lt (.v 3) (.j (.int 9))) rA2 .nil) Cf)
def rA1:S:=(.ret (.aC (Z7 (.j (.str "put")) (.call "_law_sum" (Z7 (.v 0) (.bin .add (.v 1) (.j (.int 9))) (.j (.int 1)))) (.v 6))))
def tV:S:=(.seq (.v (.z .lt (.v 3) (.j (.int 7))) rA1 .nil) wZ)
def rA0:S:=(.ret (.aC (Z7 (.j (.str "set")) (.v 5) (.v 6))))
def vh:S:=(.seq (.v (.z .lt (.v 3) (.j (.int 5))) rA0 .nil) tV)
theorem pK:jn=⟨["_law_script","_law_at","_law_size"],["_law_script","_law_at","_law_size","_law_way","_law_place","_law_name","_law_one"],
 (.seq (.set 3 (.call "_law_drawn" (.cons (.v 0) (.cons (.v 1) (.cons (.j (.int 16)) .nil)))))
 (.seq (.set 4 (.call "_law_drawn" (.cons (.v 0) (.cons (.bin .add (.v 1) (.j (.int 1))) (.cons (.bin .add (.v 2) (.j (.int 1))) .nil)))))
 (.seq (.set 5 (.y (.j (.str "abc")) (.call "_law_drawn" (.cons (.v 0) (.cons (.bin .add (.v 1) (.j (.int 2))) (.cons (.j (.int 3)) .nil))))))
 (.seq (.set 6 (.call "_law_sum" (.cons (.v 0) (.cons (.bin .add (.v 1) (.j (.int 3))) (.cons (.j (.int 2)) .nil)))))
 vh))))⟩:=rfl
section
def Fw(L:Lw T)(ns:List Int)(Y:ns.length<=1000)(p:Int)(size:Nat):∃r:Rw,r.ok size/\∀(m:Nat)(h:HH),
 runN T G (m+6) "_law_row" [.p (.aB (cV ns)),.p (.int p),.p (.int size)] h=aa (.p r.enc,h):=by
 have a:=λm q many (i:0<many)=>fP (G:=G) L m ns Y q many i;obtain⟨x,ex⟩:=Jy (drw ns (p+2) 3) (fM _ _ (by decide)) (fN _ _ (by decide));obtain⟨s,g,n,f⟩:=rH (G:=G) L ns Y 2 (p+3);obtain⟨t,e,l,tr⟩:=rH (G:=G) L ns Y 1 (p+9);have k:=fM ns p (many:=16) (by decide);have j:=fN ns p (many:=16) (by decide);have sz:(0:Int)<(size:Int)+1:=by lia
 have v:=fM ns (p+1) sz;have o:=fN ns (p+1) sz;obtain⟨B,hpl⟩:∃B:Nat,drw ns (p+1) ((size:Int)+1)=(B:Int):=⟨(drw ns (p+1) ((size:Int)+1)).toNat,by lia⟩;have J:B<=size:=by lia
 have M:jN s:=⟨g,by lia⟩;have tok:jN t:=⟨e,by lia⟩;have U:=λm h=>f (m+0) h;have O:=λm h=>tr (m+1) h;simp at U O;have b:=λm h=>a m (p+1) ((size:Int)+1) sz h;rw[hpl]at b;have D:∀(m:Nat)(h:HH),runN T G (m+6) "_law_row" [.p (.aB (cV ns)),.p (.int p),.p (.int size)] h =
  kC (evS (runN T G (m+5)) G vh [aa (.p (.aB (cV ns))),aa (.p (.int p)),aa (.p (.int size)),aa (.p (.int (drw ns p 16))),aa (.p (.int (B:Int))),aa (.p (.str x.w)),aa (.p s.enc)] h) (fin h):=λm h=>by
  rw[run_eq L.row rfl,pK];simp[-jB,b,a,ex,U]
 by_cases V:drw ns p 16<5
 ·refine⟨.set x s,M,λm h=>?_⟩;rw[D];simp[-dU,-jB,vh,rA0,V,cW,Rw.enc]
 ·by_cases W:drw ns p 16<7
  ·refine⟨.put t s,⟨tok,M⟩,λm h=>?_⟩;rw[D];simp[-dU,-jB,vh,tV,rA1,O,V,W,cW,Rw.enc]
  ·by_cases Z:drw ns p 16<9
   ·obtain⟨r,ro,ix⟩:∃r:Rw,r.ok size/\dM (.aB [.aC [.str "ask",.str x.w],.aC [.str "say",s.enc]]) (.int (drw ns p 16-7))=aa r.enc:=by
     have c:drw ns p 16=7\/drw ns p 16=8:=by lia
     rcases c with c|c<;>rw[c]
     exact⟨.ask x,trivial,rfl⟩;exact⟨.say s,M,rfl⟩
    refine⟨r,ro,λm h=>?_⟩;rw[D];simp[-dU,vh,tV,wZ,rA2,V,W,Z,ix,cW]
   ·by_cases d:drw ns p 16<12
    ·obtain⟨r,ro,ix⟩:∃r:Rw,r.ok size/\dM (.aB [.aC [.str "jump",.int B],.aC [.str "unless",s.enc,.int B],.aC [.str "unless",.aC [.str "name",.str x.w],.int B]]) (.int (drw ns p 16-9))=aa r.enc:=by
      have c:drw ns p 16=9\/drw ns p 16=10\/drw ns p 16=11:=by lia
      rcases c with c|c|c<;>rw[c]
      exact⟨.jump B,J,rfl⟩;exact⟨.unless s B,⟨M,J⟩,rfl⟩;exact⟨.unless (.nam x) B,⟨⟨trivial,by simp[Sm.size]⟩,J⟩,rfl⟩
     refine⟨r,ro,λm h=>?_⟩;rw[D];simp[-dU,vh,tV,wZ,Cf,rA3,V,W,Z,d,ix,cW]
    ·obtain⟨u,uo,iu⟩:∃u:Rw,u.ok size/\dM (.aB [.aC [.str "stop"],.aC [.str "back"]]) (.int ((B:Int)%2))=aa u.enc:=by
      have z:(B:Int)%2=0\/(B:Int)%2=1:=by lia
      rcases z with z|z<;>rw[z]
      exact⟨.stop,trivial,rfl⟩;exact⟨.back,trivial,rfl⟩
     obtain⟨r,ro,ix⟩:∃r:Rw,r.ok size/\dM (.aB [.aC [.str "call",.int B],.aC [.str "call",.int B],.aC [.str "back"],u.enc]) (.int (drw ns p 16-12))=aa r.enc:=by
      have c:drw ns p 16=12\/drw ns p 16=13\/drw ns p 16=14\/drw ns p 16=15:=by lia
      rcases c with c|c|c|c<;>rw[c]
      exact⟨.call B,J,rfl⟩;exact⟨.call B,J,rfl⟩;exact⟨.back,trivial,rfl⟩;exact⟨u,uo,rfl⟩
     refine⟨r,ro,λm h=>?_⟩;rw[D];simp[-dU,vh,tV,wZ,Cf,GM,V,W,Z,d,iu,ix,cW]
def comp_map(f:List D->HH->Option (Option D×HH))(g:D->D):∀(ds:List D)(h:HH),(∀d∈ds,∀h,f [d] h=aa (aa (g d),h))->eH f 1 ds h=aa (ds.map g,h):=by
 intro ds
 induction ds with
 |nil=>intro h _;rfl
 |cons d r B =>
  intro h q;have e1:=q d RZ h;have e2:=B h λx J=>q x (RP _ J);rw[eH,nN];simp[e1,e2]
def tW(h:d∈upto 0 n):∃k:Nat,k<n/\d=.int k:=by simp[upto]at h;obtain⟨k,q,e⟩:=h;exact⟨k,q,e.symm⟩
def tX(n:Nat)(g:D->D):(upto 0 n).map g=(Sy n).map λ(k:Nat)=>g (.int k):=by simp[upto,Function.comp_def]
def Fx:E:=.y (.aB ai (Z6 (.j (.int 0)) (.j (.int 1)) (.j (.int 5)) (.j (.int 10006)))) (.call "_law_drawn" (Z7 (.v 1) (.bin .add (.bin .add (.v 2) (.j (.int 1))) (.v 0)) (.j (.int 4))))
theorem mP:gO=⟨["_law_script","_law_at"],["_law_script","_law_at"],.ret (.comp ai .rng1 (.cons (.call "_law_drawn" (.cons (.v 0) (.cons (.v 1) (.cons (.j (.int 4)) .nil)))) .nil) ["_law_k"] [(0,"_law_script"),(1,"_law_at")] .nil Fx)⟩:=rfl
def yP(L:Lw T)(ns:List Int)(Z:ns.length<=1000)(p:Int):∃aG:List Int,Ask aG/\aG.length<=3/\∀(m:Nat)(h:HH),
 runN T G (m+3) "_law_asked" [.p (.aB (cV ns)),.p (.int p)] h=aa (.p (.aB (cV aG)),h):=by
 have V:=λm q many (Y:0<many)=>fP (G:=G) L m ns Z q many Y;have M:∀i:Int,0<=i->i<4->∃n:Int,Wth n/\dM (.aB [.int 0,.int 1,.int 5,.int 10006]) (.int i)=aa (.int n):=by
  intro i s r;have:i=0\/i=1\/i=2\/i=3:=by lia
  rcases this with rfl|rfl|rfl|rfl
  exact⟨0,⟨by decide,by decide⟩,rfl⟩;exact⟨1,⟨by decide,by decide⟩,rfl⟩;exact⟨5,⟨by decide,by decide⟩,rfl⟩;exact⟨10006,⟨by decide,by decide⟩,rfl⟩
 have b:∀k:Nat,∃n:Int,Wth n/\dM (.aB [.int 0,.int 1,.int 5,.int 10006]) (.int (drw ns (p+1+k) 4))=aa (.int n):=λk =>
  M _ (fM _ _ (by decide)) (fN _ _ (by decide))
 obtain⟨g,U⟩:=WL b;have l:=fM ns p (many:=4) (by decide);have j:=fN ns p (many:=4) (by decide);refine⟨(Sy (drw ns p 4).toNat).map g,?_,by simp;lia,λm h=>?_⟩
 ·intro x O;simp at O;obtain⟨k,_,rfl⟩:=O;exact(U k).1
 ·rw[run_eq L.aG rfl,mP];have c:drw ns p 4<=100000:=by lia
  have f:-100000<=drw ns p 4:=by lia
  have a:∀(k:Nat)(h:HH),ev (runN T G (m+2)) G Fx [aa (.p (.int k)),aa (.p (.aB (cV ns))),aa (.p (.int p))] h=aa (.p (.int (g k)),h):=λk h=>by have e:=(U k).2;simp[-dU,Fx,V,e]
  have J:=comp_map (iC (λ_ h=>aa ([],h)) (ev (runN T G (m+2)) G Fx) [aa (.p (.aB (cV ns))),aa (.p (.int p))]) (λd=>match d with | .int k=>.int (g k.toNat)|_=>.aD) (upto 0 (drw ns p 4).toNat) h (by
   intro d hd h;obtain ⟨k,o,rfl⟩:=tW hd;simp[gn,a])
  have W:(drw ns p 4).toNat<=100000:=by lia
  rw[tX]at J;have B:(Sy (drw ns p 4).toNat).map (λ(k:Nat)=>match D.int (k:Int)with|.int k=>D.int (g k.toNat)|_=>.aD)=cV ((Sy (drw ns p 4).toNat).map g):=by simp[cV,Function.comp_def]
  rw[B]at J;simp[V,f,c,J,iy,W,cW,jb]
def Cg:E:=.call "_law_row" (Z7 (.v 1) (.bin .add (.bin .add (.v 2) (.j (.int 10))) (.bin .mul (.j (.int 40)) (.v 0))) (.v 3))
structure Drawn(p:Pg):Prop where
 ok:Pg.ok p
 lo:1<=p.length
 hi:p.length<=9
def jO(n:Int)(o:Op):Pg:=[.ask .a,.call 4,.say (.nam .a),.jump 0,.put (.nam .a) (.num n),.call 7,.back,.set .b (.two o (.nam .b) (.nam .a)),.back]
def rJ(n:Int)(o:Op)(h:Wth n):Drawn (jO n o):=by refine⟨?_,by simp[jO],by simp[jO]⟩;intro r q;simp only[jO,Xq,Vy,or_false]at q;rcases q with rfl|rfl|rfl|rfl|rfl|rfl|rfl|rfl|rfl<;>simp[Rw.ok,jO,jN,Sm.ok,Sm.size,h]
def oH(L:Lw T)
(ns:List Int)(M:ns.length<=1000)(p:Int)
(D:∀ (m:Nat) (h:HH) (n:Int) (o:Op),drw ns (p+1) 4=0->n=drw ns (p+2) 9->dM (.aB [.str "add",.str "sub"]) (.int (drw ns (p+3) 2))=aa (.str o.w) →
  (∀m q many,0<many->∀h,runN T G (m+2) "_law_drawn" [.p (.aB (cV ns)),.p (.int q),.p (.int many)] h=aa (.p (.int (drw ns q many)),h)) →
  runN T G (m+7) "_law_program" [.p (.aB (cV ns)),.p (.int p)] h=aa (.p (dG (jO n o)),h))
(B:∀ (m:Nat) (h:HH) (pg:Pg),drw ns (p+1) 4≠0->pg.length=(1+drw ns p 9).toNat →
  (∀m q many,0<many->∀h,runN T G (m+2) "_law_drawn" [.p (.aB (cV ns)),.p (.int q),.p (.int many)] h=aa (.p (.int (drw ns q many)),h)) →
  (∀h,eH (iC (λ_ h=>aa ([],h)) (ev (runN T G (m+6)) G Cg) [aa (.p (.aB (cV ns))),aa (.p (.int p)),aa (.p (.int (1+drw ns p 9)))]) 1 (upto 0 (1+drw ns p 9).toNat) h=aa (pg.map Rw.enc,h)) →
  runN T G (m+7) "_law_program" [.p (.aB (cV ns)),.p (.int p)] h=aa (.p (dG pg),h)):
 ∃pg:Pg,Drawn pg/\∀(m:Nat)(h:HH),runN T G (m+7) "_law_program" [.p (.aB (cV ns)),.p (.int p)] h=aa (.p (dG pg),h):=by
 have U:=λm q many (W:0<many)=>fP (G:=G) L m ns M q many W
 by_cases c:drw ns (p+1) 4=0
 ·have f:=fM ns (p+3) (many:=2) (by decide);have a:=fN ns (p+3) (many:=2) (by decide);have l:=fM ns (p+2) (many:=9) (by decide);have e1:=fN ns (p+2) (many:=9) (by decide);have z:drw ns (p+3) 2=0\/drw ns (p+3) 2=1:=by lia
  have:∃o:Op,dM (.aB [.str "add",.str "sub"]) (.int (drw ns (p+3) 2))=aa (.str o.w):=by
   rcases z with z|z<;>rw[z]
   exact⟨.add,rfl⟩;exact⟨.sub,rfl⟩
  obtain⟨o,Z⟩:=this;exact⟨jO (drw ns (p+2) 9) o,rJ _ _ ⟨by lia,by lia⟩,λm h=>D m h _ o c rfl Z U⟩
 ·have f:=fM ns p (many:=9) (by decide);have a:=fN ns p (many:=9) (by decide);obtain⟨sz,hsz⟩:∃sz:Nat,1+drw ns p 9=(sz:Int):=⟨(1+drw ns p 9).toNat,by lia⟩;have i:∀k:Nat,∃r:Rw,r.ok sz/\∀(m:Nat)(h:HH),runN T G (m+6) "_law_row" [.p (.aB (cV ns)),.p (.int (p+10+40*(k:Int))),.p (.int sz)] h=aa (.p r.enc,h) :=
   λk=>Fw L ns M _ sz
  obtain⟨g,O⟩:=WL i;refine⟨(Sy sz).map g,⟨?_,by simp;lia,by simp;lia⟩,λm h=>B m h _ c (by simp;lia) U λh=>?_⟩
  ·intro r J;simp at J;obtain⟨k,_,rfl⟩:=J;simpa using (O k).1
  ·rw[hsz];have b:big 40=ah:=by decide
   have Y:∀(k:Nat)(h:HH),ev (runN T G (m+6)) G Cg [aa (.p (.int k)),aa (.p (.aB (cV ns))),aa (.p (.int p)),aa (.p (.int sz))] h=aa (.p (g k).enc,h):=λk h=>by have e:=(O k).2;simp[Cg,e,b]
   have V:=comp_map (iC (λ_ h=>aa ([],h)) (ev (runN T G (m+6)) G Cg) [aa (.p (.aB (cV ns))),aa (.p (.int p)),aa (.p (.int sz))]) (λd=>match d with | .int k=>(g k.toNat).enc|_=>.aD) (upto 0 sz) h (by
    intro d hd h;obtain ⟨k,j,rfl⟩:=tW hd;simp[gn,Y])
   rw[tX]at V;simp only[Tj,Ul];rw[V];rfl
end
section
def prA:S:=(.seq (.set 3 (.aC (Z7 (.j (.str "put")) (.aC (Z8 (.j (.str "name")) (.j (.str "a")))) (.aC (Z8 (.j (.str "num")) (.call "_law_drawn" (Z7 (.v 0) (.bin .add (.v 1) (.j (.int 2))) (.j (.int 9))))))))) (.seq (.set 4 (.y (.aB ai (Z8 (.j (.str "add")) (.j (.str "sub")))) (.call "_law_drawn" (Z7 (.v 0) (.bin .add (.v 1) (.j (.int 3))) (.j (.int 2)))))) (.seq (.set 5 (.aC (Z5 (.aC (Z8 (.j (.str "ask")) (.j (.str "a")))) (.aC (Z8 (.j (.str "call")) (.j (.int 4)))) (.aC (Z8 (.j (.str "say")) (.aC (Z8 (.j (.str "name")) (.j (.str "a")))))) (.aC (Z8 (.j (.str "jump")) (.j (.int 0)))) (.v 3)))) (.ret (.bin .add (.v 5) (.aC (Z6 (.aC (Z8 (.j (.str "call")) (.j (.int 7)))) (.aC (Z9 (.j (.str "back")))) (.aC (Z7 (.j (.str "set")) (.j (.str "b")) (.aC (Z7 (.v 4) (.aC (Z8 (.j (.str "name")) (.j (.str "b")))) (.aC (Z8 (.j (.str "name")) (.j (.str "a")))))))) (.aC (Z9 (.j (.str "back")))))))))))
def prB:S:=(.ret (.bi .tuple ai (Z9 (.comp ai .rng1 (Z9 (.v 2)) ["_law_k"] [(0,"_law_script"),(1,"_law_at"),(2,"_law_size")] .nil Cg))))
theorem iJ:fc=⟨["_law_script","_law_at"],["_law_script","_law_at","_law_size","_law_put","_law_sign","_law_rows"],
 (.seq (.set 2 (.bin .add (.j (.int 1)) (.call "_law_drawn" (.cons (.v 0) (.cons (.v 1) (.cons (.j (.int 9)) .nil))))))
 (.seq (.v (.z .eq (.call "_law_drawn" (.cons (.v 0) (.cons (.bin .add (.v 1) (.j (.int 1))) (.cons (.j (.int 4)) .nil)))) (.j (.int 0))) prA .nil)
 prB))⟩:=rfl
def tY(L:Lw T)(M:T "_law_program"=aa fc)(ns:List Int)(O:ns.length<=1000)(p:Int):
 ∃pg:Pg,Drawn pg/\∀(m:Nat)(h:HH),runN T G (m+7) "_law_program" [.p (.aB (cV ns)),.p (.int p)] h=aa (.p (dG pg),h):=by
 refine oH L ns O p (λm h n o c en U D=>?_) (λm h pg c a D V=>?_)
 ·rw[run_eq M rfl];have d:=λq many B h=>D (m+4) q many B h;rw[iJ];simp[-dU,prA,d,c,U,cW,dG,jO,Rw.enc,Sm.enc,←en,Nm.w]
 ·rw[run_eq M rfl];have d:=λq many B h=>D (m+4) q many B h;have e:=fM ns p (many:=9) (by decide);have b:=fN ns p (many:=9) (by decide);have Z:-100000<=1+drw ns p 9:=by lia
  have Y:1+drw ns p 9<=100000:=by lia
  have W:pg.length<=100000:=by lia
  have J:=V h;rw[iJ];simp[-iC,prB,d,c,Z,Y,W,J,cW,dG,jb]
mutual
theorem jP:∀d:D,eqv d d=ah
 |.aD=>rfl
 |.bl b=>by simp
 |.int i=>by simp
 |.str x=>by simp
 |.aC q=>by simp[j5 q]
 |.aB q=>by simp[j5 q]
theorem j5:∀ds:List D,o9 ds ds=ah
 |[]=>rfl
 |d::r=>by simp[jP d,j5 r]
end
def lF(n:Nat)(xs:List Int):(cV xs).all (dok n)=ah:=by simp[cV,Ug]
def oJ(n:Nat)(xs:List Nat):(cZ xs).all (dok n)=ah:=by simp[cZ,Ug]
def ne_self(h:dok 100 x=ah):gi .ne x x=aa ai:=by rw[kW,bJ (iQ h),jP];rfl
@[simp]theorem JA(ds:List D):o9 ds ds=ah:=j5 ds
@[simp]theorem KB(d:D):eqv d d=ah:=jP d
@[simp]theorem KC(x:D)(xs:List Int):d7 x (.aC (cV xs))=ah:=iQ (lF 99 xs)
@[simp]theorem KG(x:D)(xs:List Nat):d7 x (.aC (cZ xs))=ah:=iQ (oJ 99 xs)
@[simp]theorem M5(x:D)(xs ys:List Int):d7 x (.aC [.aC (cV xs),.aC (cV ys)])=ah:=iQ (by simp[lF])
end
section
variable{T:FK->Option Fn}{G:ay->Option W}
def vj(x:Nm):UA (RV "abcdef") (RV x.w) 0 (RV "abcdef").length 1=[x.ix]:=by cases x<;>decide +kernel
def pL(x:Nm):meD .sindex (.str "abcdef") [.str x.w]=aa (.int x.ix):=by have o:=vj x;rw[Am,o]
def ix0(a:D)(r:List D):dM (.aC (a::r)) (.int 0)=aa a:=by simp
def ix1(a b:D)(r:List D):dM (.aC (a::b::r)) (.int 1)=aa b:=by
 have:(1:Int)<(r.length:Int)+1+1:=by lia
 simp[this]
def ix2(a b c:D)(r:List D):dM (.aC (a::b::c::r)) (.int 2)=aa c:=by
 have:(2:Int)<(r.length:Int)+1+1+1:=by lia
 simp[this]
@[simp]theorem Qf(st:St):qF st.enc (aa 1) (aa 3)=aa (.aC [.aC (cV st.names),.aC (cV st.cells)]):=rfl
end
def vm(n:Nat)(st:St):dok (n+2) st.enc=ah:=by simp[St.enc,qH,lF,oJ]
def Fy(L:List St):dok 100 (.aB (L.map St.enc))=ah:=by rw[vS,Ug];intro d hd;simp at hd;obtain⟨st,_,rfl⟩:=hd;exact vm 97 st
@[simp]theorem Os(x:D)(st:St):d7 x st.enc=ah:=iQ (vm 98 st)
@[simp]theorem M6(x:D)(L:List St):d7 x (.aB (L.map St.enc))=ah:=iQ (Fy L)
def itr(s0:St)(p:Pg)(aG:List Int):Nat->St
 |0=>s0|n+1=>step p aG (itr s0 p aG n)
structure Run(s0:St)(p:Pg)(aG:List Int)(most e:Nat):Prop where
 le:e<=most
 on:∀i,i<e->over p (itr s0 p aG i)=ai
 last:e=most\/over p (itr s0 p aG e)=ah
theorem Ci(s0:St)(p:Pg)(aG:List Int):∀(r j:Nat),∃e,e<=r/\sts p aG r (itr s0 p aG j)=(Sy (e+1)).map (λi=>itr s0 p aG (j+i))/\(∀i,i<e->over p (itr s0 p aG (j+i))=ai)/\(e=r\/over p (itr s0 p aG (j+e))=ah)
 |0,j=>⟨0,RQ _,rfl,λi q=>bL q (W7 _),.inl rfl⟩
 |r+1,j=>by
  rw[sts]
  by_cases c:over p (itr s0 p aG j)=ah
  ·rw[bJ c];exact⟨0,SV _,rfl,λi q=>bL q (W7 _),.inr c⟩
  ·rw[bK c];obtain⟨e,M,J,D,B⟩:=Ci s0 p aG r (j+1);have L:over p (itr s0 p aG j)=ai:=by simpa using c
   refine⟨e+1,by lia,?_,λi q=>?_,?_⟩
   ·show itr s0 p aG j::sts p aG r (itr s0 p aG (j+1))=_;rw[J,VD (n:=e+1),Sf,Ul];congr 1;apply UE;intro i _;show itr s0 p aG (j+1+i)=itr s0 p aG (j+(i+1));congr 1;lia
   ·cases i with
    |zero=>exact L
    |succ i =>
     have:=D i (by lia);rw[show j+(i+1)=j+1+i by lia];exact this
   ·rcases B with B|B
    exact .inl (by lia);exact .inr (by rw[show j+(e+1)=j+1+e by lia];exact B)
def Fz(s0:St)(p:Pg)(aG:List Int)(most:Nat):∃e,Run s0 p aG most e/\sts p aG most s0=(Sy (e+1)).map (itr s0 p aG):=by obtain⟨e,L,J,D,B⟩:=Ci s0 p aG most 0;refine⟨e,⟨L,λi q=>by have:=D i q;simpa using this,by simpa using B⟩,?_⟩;have:sts p aG most s0=sts p aG most (itr s0 p aG 0):=rfl;rw[this,J];apply UE;intro i _;simp
def At.mono{m n:Nat}{st:St}(a:At m st)(h:m<=n):At n st:=⟨a.ok,Sz a.said h,a.calls⟩
theorem vn{s0:St}{p:Pg}{aG:List Int}{most e:Nat}(q:Pg.ok p)(B:Ask aG)(D:At 1000 s0)(R:Run s0 p aG most e):∀i,i<=e->At (1000+i) (itr s0 p aG i)
 |0,_=>D|i+1,h=>wV q B (vn q B D R i (by lia)) (R.on i (by lia))
structure Tp where
 p:Pg
 aG:List Int
 aK:Nat
 most:Nat
 aH:List St
 far:Nat
 aI:St
 now:Nat
def Tp.fs(t:Tp)(r:Nat):List (ay×W):=[("program",.p (dG t.p)),("asked",.p (.aB (cV t.aG))),("gap",.p (.int t.aK)),("most",.p (.int t.most)),("kept",.r r),("farthest",.p (.int t.far)),("front",.p t.aI.enc),("now",.p (.int t.now))]
section
variable(t:Tp)(r:Nat)
@[simp]theorem JB:dN "program" (t.fs r)=aa (.p (dG t.p)):=by simp[Tp.fs]
@[simp]theorem M7:dN "asked" (t.fs r)=aa (.p (.aB (cV t.aG))):=by simp[Tp.fs]
@[simp]theorem Qg:dN "gap" (t.fs r)=aa (.p (.int t.aK)):=by simp[Tp.fs]
@[simp]theorem Ot:dN "most" (t.fs r)=aa (.p (.int t.most)):=by simp[Tp.fs]
@[simp]theorem FA:dN "kept" (t.fs r)=aa (.r r):=by simp[Tp.fs]
@[simp]theorem Qh:dN "farthest" (t.fs r)=aa (.p (.int t.far)):=by simp[Tp.fs]
@[simp]theorem M8:dN "front" (t.fs r)=aa (.p t.aI.enc):=by simp[Tp.fs]
@[simp]theorem Qi:dN "now" (t.fs r)=aa (.p (.int t.now)):=by simp[Tp.fs]
@[simp]theorem Qj:(t.fs r).length=8:=rfl
def FD(v:Nat):eB "gap" (.p (.int v)) (t.fs r)=({t with aK:=v}:Tp).fs r:=by simp[Tp.fs]
def Cj(q:Nat):eB "kept" (.r q) (t.fs r)=t.fs q:=by simp[Tp.fs]
def FE(v:Nat):eB "farthest" (.p (.int v)) (t.fs r)=({t with far:=v}:Tp).fs r:=by simp[Tp.fs]
def yQ(v:St):eB "front" (.p v.enc) (t.fs r)=({t with aI:=v}:Tp).fs r:=by simp[Tp.fs]
def iK{m:String}(h:(["program","asked","gap","most","kept","farthest","front","now"]:List String).contains m=ai):dN m (t.fs r)=af:=by simp only[Yz,List.contains_nil,U8,X4,bS,ne_eq]at h;obtain⟨U,O,M,L,J,D,B,q⟩:=h;simp[Tp.fs,U,O,M,L,J,D,B,q]
end
structure TAt(c:ay)(h:HH)(n r:Nat)(t:Tp):Prop where
 ob:oat h n=aa (c,t.fs r)
 li:lat h r=aa (t.aH.map St.enc)
def iT{h:HH}{n:Nat}{q:ay×List (ay×W)}(e:oat h n=aa q):n<h.length:=by
 unfold oat at e;rcases R0 n h.length with z|z
 exact z;rw[RT z]at e;exact gW e
def gJ{h:HH}{n:Nat}{q:List D}(e:lat h n=aa q):n<h.length:=by
 unfold lat at e;rcases R0 n h.length with z|z
 exact z;rw[RT z]at e;exact gW e
def lG{h:HH}{n r:Nat}{q:ay×List (ay×W)}{xs:List D}(e:oat h n=aa q)(e':lat h r=aa xs):n≠r:=by
 rintro rfl
 unfold oat at e;unfold lat at e';cases g:h[n]? with
 |none=>rw[g]at e;exact gW e|some c=>rw[g]at e e';cases c<;>simp at e e'
def lH{h:HH}{n:Nat}(hn:n<h.length)(c:Cl):oat (h.set n c) n=pq c:=by unfold oat;rw[Sw hn];rfl
def oK{h:HH}{n i:Nat}(hn:i≠n)(c:Cl):oat (h.set n c) i=oat h i:=by unfold oat;rw[Sg (SM hn)]
def tZ{h:HH}{n:Nat}(hn:n<h.length)(c:Cl):lat (h.set n c) n=nB c:=by unfold lat;rw[Sw hn];rfl
def kI{h:HH}{n i:Nat}(hn:i≠n)(c:Cl):lat (h.set n c) i=lat h i:=by unfold lat;rw[Sg (SM hn)]
def oM{h h':HH}{i:Nat}(e:h'[i]?=h[i]?):lat h' i=lat h i:=by unfold lat;rw[e]
def l6{h h':HH}{i:Nat}(e:h'[i]?=h[i]?):oat h' i=oat h i:=by unfold oat;rw[e]
def w6{h g:HH}{i:Nat}(hi:i<h.length):lat (h++g) i=lat h i:=oM (RE hi)
def w9{h g:HH}{i:Nat}(hi:i<h.length):oat (h++g) i=oat h i:=l6 (RE hi)
structure Go(c:ay)(n:Nat)(h:HH)(r:Nat)(t:Tp)(h':HH)(r':Nat)(t':Tp):Prop where
 a:TAt c h n r t
 b:TAt c h' n r' t'
 len:(h'.length=h.length/\r'=r)\/(h.length<=r')
 le:h.length<=h'.length
 fr:∀i,i≠n->i≠r->i<h.length->h'[i]?=h[i]?
def Go.refl{c:ay}{n:Nat}{h:HH}{r:Nat}{t:Tp}(a:TAt c h n r t):Go c n h r t h r t:=⟨a,a,.inl ⟨rfl,rfl⟩,RQ _,λ_ _ _ _=>rfl⟩
def Go.trans{c:ay}{n:Nat}{h h1 h2:HH}{r D O:Nat}{t M L:Tp}(x:Go c n h r t h1 D M)(y:Go c n h1 D M h2 O L):Go c n h r t h2 O L:=by
 refine⟨x.a,y.b,?_,Sz x.le y.le,λi h1 h2 V=>?_⟩
 ·rcases x.len with⟨B,J⟩|B
  ·rcases y.len with⟨q,U⟩|q
   exact .inl ⟨q.trans B,U.trans J⟩;exact .inr (by lia)
  ·rcases y.len with⟨q,U⟩|q
   exact .inr (by lia);exact .inr (by have:=x.le;lia)
 ·have:i≠D:=by
   rcases x.len with⟨B,J⟩|B
   rw[J];exact h2;lia
  rw[y.fr i h1 this (by have:=x.le;lia)];exact x.fr i h1 h2 V
def Go.other{c:ay}{n m:Nat}{h h':HH}{r q s:Nat}{t t' u:Tp}(x:Go c n h r t h' q t')(o:TAt c h m s u)(L:m≠n)(B:s≠r):TAt c h' m s u/\s≠q:=by
 have J:m≠r:=lG o.ob x.a.li;have D:s≠n:=(lG x.a.ob o.li).symm;refine⟨⟨(l6 (x.fr m L J (iT o.ob))).trans o.ob,(oM (x.fr s D B (gJ o.li))).trans o.li⟩,?_⟩;rcases x.len with⟨O,M⟩|O
 rw[M];exact B;have:=gJ o.li;lia
def kJ{c:ay}{n:Nat}{h h':HH}{r D:Nat}{t t':Tp}(x:Go c n h r t h' D t')(w:W):fin h w h'=aa (w,h'):=by
 unfold fin
 by_cases c:h'.length=h.length
 rw[bJ c]
 ·rw[bK c];rw[bK];intro z;rcases x.len with⟨B,L⟩|B
  exact c B
  ·have hn:=iT x.a.ob;have e:h'[n]?=h[n]?:=by have q:=UJ (l:=h') hn;rw[z]at q;exact q.symm
   have e2:oat h' n=oat h n:=l6 e;rw[x.a.ob,x.b.ob]at e2;have J:=bR (λq:Option (ay×List (ay×W))=>q.bind λy=>dN "kept" y.2) e2;simp only[SW,FA,Vc,W.r.injEq]at J;have:=gJ x.a.li;lia
def iL:Fn:=⟨["thing"],["thing"], (.ret (.and (.bi .isInt ai (Z9 (.v 0))) (.not (.bi .isBool ai (Z9 (.v 0))))))⟩
def gP:Fn:=⟨["self","program","asked","every","most"],["self","program","asked","every","most"], (.seq (.setf (.v 0) "program" (.v 1)) (.seq (.setf (.v 0) "asked" (.bi .list ai (Z9 (.v 2)))) (.seq (.setf (.v 0) "gap" (.bi .max2 ai (Z8 (.v 3) (.j (.int 1))))) (.seq (.setf (.v 0) "most" (.bi .max2 ai (Z8 (.v 4) (.j (.int 0))))) (.seq (.setf (.v 0) "kept" (.aB ah (Z9 (.call "begun" .nil)))) (.seq (.setf (.v 0) "farthest" (.j (.int 0))) (.seq (.setf (.v 0) "front" (.call "begun" .nil)) (.setf (.v 0) "now" (.j (.int 0))))))))))⟩
def jo:Fn:=⟨["self","moment"],["self","moment","state","step"], (.seq (.ex (.aF (.v 0) "check" (Z9 (.v 1)))) (.seq (.set 2 (.y (.i (.v 0) "kept") (.bin .fdiv (.v 1) (.i (.v 0) "gap")))) (.seq (.for [(3,"step")] .rng1 (Z9 (.bin .mod (.v 1) (.i (.v 0) "gap"))) (.set 2 (.aF (.v 0) "behind" (Z9 (.v 2))))) (.ret (.v 2)))))⟩
def iM:Fn:=⟨["self"],["self"], (.seq (.ex (.aF (.v 0) "reach" (Z9 (.i (.v 0) "most")))) (.ret (.i (.v 0) "farthest")))⟩
def fZ:Fn:=⟨["self","state"],["self","state"], (.ret (.call "stepped" (Z7 (.i (.v 0) "program") (.i (.v 0) "asked") (.v 1))))⟩
def eU:Fn:=⟨["self","moment","state"],["self","moment","state"], (.ret (.or (.z .ge (.v 1) (.i (.v 0) "most")) (.call "is_over" (Z8 (.i (.v 0) "program") (.v 2)))))⟩
def f7:Fn:=⟨["self","state"],["self","state"], (.seq (.ex (.me .append (.i (.v 0) "kept") (Z9 (.v 1)))) (.v (.z .gt (.bi .len ai (Z9 (.i (.v 0) "kept"))) (.aE "MOST_MARKS")) (.seq (.setf (.v 0) "kept" (.stp ah 2 (.i (.v 0) "kept"))) (.augf (.v 0) "gap" .mul (.j (.int 2)))) .nil))⟩
def gy:Fn:=⟨["self","moment"],["self","moment"], (.j (.and (.z .lt (.i (.v 0) "farthest") (.v 1)) (.not (.aF (.v 0) "is_last" (Z8 (.i (.v 0) "farthest") (.i (.v 0) "front"))))) (.seq (.setf (.v 0) "front" (.aF (.v 0) "behind" (Z9 (.i (.v 0) "front")))) (.seq (.augf (.v 0) "farthest" .add (.j (.int 1))) (.v (.z .eq (.bin .mod (.i (.v 0) "farthest") (.i (.v 0) "gap")) (.j (.int 0))) (.ex (.aF (.v 0) "keep" (Z9 (.i (.v 0) "front")))) .nil))))⟩
def iN:Fn:=⟨["self","moment"],["self","moment"], (.seq (.v (.or (.not (.call "is_whole" (Z9 (.v 1)))) (.or (.z .lt (.v 1) (.j (.int 0))) (.z .gt (.v 1) (.i (.v 0) "most")))) (.ret (.j (.bl ai))) .nil) (.seq (.ex (.aF (.v 0) "reach" (Z9 (.v 1)))) (.ret (.z .le (.v 1) (.i (.v 0) "farthest")))))⟩
def gA:Fn:=⟨["self","moment"],["self","moment"], (.v (.not (.aF (.v 0) "has" (Z9 (.v 1)))) .bad .nil)⟩
structure TpP(c:ay)(T:FK->Option Fn)(G:ay->Option W):Prop where
 prg:Prg T G
 is_whole:T "is_whole"=aa iL
 behind:T (.m c "behind")=aa fZ
 is_last:T (.m c "is_last")=aa eU
 keep:T (.m c "keep")=aa f7
 reach:T (.m c "reach")=aa gy
 has:T (.m c "has")=aa iN
 check:T (.m c "check")=aa gA
 at_:T (.m c "at")=aa jo
 MOST_MARKS:G "MOST_MARKS"=aa (.p (.int 8))
section
variable{c:ay}{T:FK->Option Fn}{G:ay->Option W}
def jq(P:TpP c T G)(k:Nat)(i:Int)(h:HH):runN T G (k+1) "is_whole" [.p (.int i)] h=aa (.p (.bl ah),h):=by rw[run_eq P.is_whole rfl];simp[iL,cW]
def oN(P:TpP c T G)(k:Nat){n r:Nat}{t:Tp}{h:HH}(a:TAt c h n r t)(q:Pg.ok t.p){j:Nat}{st:St}(B:j<=5000)(at_:At j st)(D:over t.p st=ai):runN T G (k+7) (.m c "behind") [.o n,.p st.enc] h=aa (.p (step t.p t.aG st).enc,h):=by rw[run_eq P.behind rfl];have s:=tU P.prg k t.p q t.aG st at_.ok (at_.small B) D;simp[fZ,a.ob,s,cW]
def ua(P:TpP c T G)(k:Nat){n r:Nat}{t:Tp}{h:HH}(a:TAt c h n r t)(mo:Nat)(st:St):runN T G (k+2) (.m c "is_last") [.o n,.p (.int mo),.p st.enc] h=aa (.p (.bl (decide (t.most<=mo)||over t.p st)),h):=by
 rw[run_eq P.is_last rfl];have o:=tT P.prg k t.p st
 by_cases B:t.most<=mo
 ·have q:(t.most:Int)<=(mo:Int):=by lia
  simp[eU,a.ob,B,q,cW]
 ·have q:¬(t.most:Int)<=(mo:Int):=by lia
  simp[eU,a.ob,o,B,q,cW]
def Ck:VF (SA af af (aa 2) 9).1 (SA af af (aa 2) 9).2.1 (SA af af (aa 2) 9).2.2=[0,2,4,6,8]:=by decide +kernel
def JC(M W L V J U B O q:D):mE 2 [M,W,L,V,J,U,B,O,q]=[M,L,J,B,q]:=by show(VF (SA af af (aa 2) 9).1 (SA af af (aa 2) 9).2.1 (SA af af (aa 2) 9).2.2).filterMap _=_;rw[Ck];rfl
noncomputable def Tp.keep(t:Tp)(st:St):Tp:=if t.aH.length<8 then {t with aH:=t.aH++[st]}else {t with aH:=(Sy 5).filterMap λi=>(t.aH++[st])[2*i]?,aK:=2*t.aK}
def Cn(P:TpP c T G)(k:Nat){n r:Nat}{t:Tp}{h:HH}(a:TAt c h n r t)(K:t.aK<=100000)(I:t.aH.length<=8)(st:St):
 ∃h' w,runN T G (k+1) (.m c "keep") [.o n,.p st.enc] h=aa (.p .aD,h')/\Go c n h r t h' w (t.keep st):=by
 have A:=lG a.ob a.li;have hn:=iT a.ob;have C:=gJ a.li;have e1:lat (h.set r (Cl.l (t.aH.map St.enc++[st.enc]))) r=aa (t.aH.map St.enc++[st.enc]):=tZ C _;have e2:oat (h.set r (Cl.l (t.aH.map St.enc++[st.enc]))) n=aa (c,t.fs r):=(oK A _).trans a.ob;have d:t.aH.length<100000:=by lia
 by_cases Y:t.aH.length<8
 ·have b:¬(8:Int)<(t.aH.length:Int)+1:=by lia
  have B:Go c n h r t (h.set r (Cl.l (t.aH.map St.enc++[st.enc]))) r (t.keep st):=by refine⟨a,⟨?_,?_⟩,.inl ⟨by simp,rfl⟩,by simp,λi j Z e=>Sg (SM Z)⟩;rw[Tp.keep,bJ Y];exact e2;rw[Tp.keep,bJ Y,e1];simp
  refine⟨_,r,?_,B⟩;rw[run_eq P.keep rfl];have f:=kJ B (.p .aD);simp[f7,a.ob,a.li,e1,e2,P.MOST_MARKS,rd,b,d,f]
 ·have F:t.aH.length=8:=by lia
  obtain⟨W,V,U,O,M,L,J,D,ek⟩:∃W V U O M L J D,t.aH=[W,V,U,O,M,L,J,D]:=by
   match t.aH,F with
   |[W,V,U,O,M,L,J,D],_=>exact⟨W,V,U,O,M,L,J,D,rfl⟩
  have ev:mE 2 (t.aH.map St.enc++[st.enc])=((t.keep st).aH).map St.enc:=by rw[Tp.keep,bK Y,ek];exact JC _ _ _ _ _ _ _ _ _
  have b:(8:Int)<(t.aH.length:Int)+1:=by lia
  have E:∀g:HH,oat ((h.set r (Cl.l (t.aH.map St.enc++[st.enc])))++g) n=aa (c,t.fs r):=λg=>(w9 (by simpa using hn)).trans e2;have u:(h.set r (Cl.l (t.aH.map St.enc++[st.enc]))).length=h.length:=by simp
  have H:big (t.aK:Int)=ah:=by unfold big;exact bO (by lia)
  have B:Go c n h r t ((h.set r (Cl.l (t.aH.map St.enc++[st.enc]))++[Cl.l ((t.keep st).aH.map St.enc)]).set n (.o c ((t.keep st).fs h.length))) h.length (t.keep st):=by
   have q:n<(h.set r (Cl.l (t.aH.map St.enc++[st.enc]))++[Cl.l ((t.keep st).aH.map St.enc)]).length:=by simp;lia
   refine⟨a,⟨lH q _,?_⟩,.inr (RQ _),by simp,λi j Z e=>?_⟩
   ·rw[kI (SM (Si hn))];have:=Qe (h.set r (Cl.l (t.aH.map St.enc++[st.enc]))) (Cl.l ((t.keep st).aH.map St.enc)) [];rw[u]at this;exact this
   rw[Sg (SM j),RE (by simpa using e),Sg (SM Z)]
  refine⟨_,_,?_,B⟩;rw[run_eq P.keep rfl];have f:=kJ B (.p .aD);have k2:(t.keep st).fs h.length=({t with aK:=2*t.aK}:Tp).fs h.length:=by rw[Tp.keep,bK Y];rfl
  have z:eB "gap" (.p (.int ((t.aK:Int)*2))) (t.fs h.length)=(t.keep st).fs h.length:=by rw[k2,←FD t h.length (2*t.aK)];congr 3;show(t.aK:Int)*2=((2*t.aK:Nat):Int);lia
  have q:n<(h.set r (Cl.l (t.aH.map St.enc++[st.enc]))++[Cl.l ((t.keep st).aH.map St.enc)]).length:=by simp;lia
  have s:=lH q (.o c (t.fs h.length));rw[HG]at s;have v:∀x y:Cl,((h.set r (Cl.l (t.aH.map St.enc++[st.enc]))++[Cl.l ((t.keep st).aH.map St.enc)]).set n x).set n y=(h.set r (Cl.l (t.aH.map St.enc++[st.enc]))++[Cl.l ((t.keep st).aH.map St.enc)]).set n y:=λx y=>by rw[VJ]
  simp[f7,a.ob,a.li,e1,e2,E,u,P.MOST_MARKS,rd,b,d,ev,Cj,s,H,z,v,f]
end
structure TI(s0:St)(t:Tp)(e gv:Nat):Prop where
 run:Run s0 t.p t.aG t.most e
 ok:Pg.ok t.p
 ask:Ask t.aG
 a0:At 1000 s0
 g0:0<t.aK
 g1:t.aK<=1000
 m1:t.most<=1000
 far:t.far<=e
 aI:t.aI=itr s0 t.p t.aG t.far
 len:t.aH.length=t.far/t.aK+1
 l8:t.aH.length<=8
 aH:∀j,j<t.aH.length->t.aH[j]?=aa (itr s0 t.p t.aG (j*t.aK))
 now:t.now<=t.far
 pw:∃j,t.aK=gv*2^j/\(0<j->8<=t.far/(t.aK/2))
structure Sm8(t t':Tp):Prop where
 p:t'.p=t.p
 aG:t'.aG=t.aG
 most:t'.most=t.most
 now:t'.now=t.now
def Sm8.refl(t:Tp):Sm8 t t:=⟨rfl,rfl,rfl,rfl⟩
def Sm8.trans{t u v:Tp}(x:Sm8 t u)(y:Sm8 u v):Sm8 t v:=⟨y.p.trans x.p,y.aG.trans x.aG,y.most.trans x.most,y.now.trans x.now⟩
def Tp.on(t:Tp):Tp:={t with aI:=step t.p t.aG t.aI,far:=t.far+1}
def Tp.nx(t:Tp):Tp:=if(t.far+1)%t.aK=0 then t.on.keep t.on.aI else t.on
def Co{f g:Nat}(q:0<g)(c:¬(f+1)%g=0):(f+1)/g=f/g:=by
 have J:=W8 f g;have D:f%g<g:=Ws _ q;have e:f+1=g*(f/g)+(f%g+1):=by lia
 have B:f%g+1<g:=by
  rcases R0 (f%g+1) g with z|z
  exact z
  ·exfalso;apply c;have:f%g+1=g:=by lia
   rw[e,this,Nat.mul_add_mod,Nat.mod_self]
 rw[e,Nat.mul_add_div q,Nat.div_eq_of_lt B];lia
def Cq{f g:Nat}(q:0<g)(c:(f+1)%g=0):(f+1)/g=f/g+1/\(f/g+1)*g=f+1:=by
 have J:=W8 f g;have D:f%g<g:=Ws _ q;have B:f%g+1=g:=by
  rcases R0 (f%g+1) g with z|z
  ·exfalso;have e:f+1=g*(f/g)+(f%g+1):=by lia
   rw[e,Nat.mul_add_mod,Nat.mod_eq_of_lt z]at c;lia
  lia
 have e:f+1=(f/g+1)*g:=by rw[Nat.add_mul,UK (f/g) g];lia
 exact⟨by rw[e,We _ q],e.symm⟩
def TI.nx{s0:St}{t:Tp}{e gv:Nat}(I:TI s0 t e gv)(h:t.far<e):TI s0 t.nx e gv/\Sm8 t t.nx/\t.nx.far=t.far+1:=by
 have g0:=I.g0;have U:step t.p t.aG t.aI=itr s0 t.p t.aG (t.far+1):=by rw[I.aI];rfl
 have mono:∀g:Nat,t.far/g<=(t.far+1)/g:=λg=>Ye (TF _);unfold Tp.nx
 by_cases c:(t.far+1)%t.aK=0
 ·rw[bJ c];obtain⟨k,a⟩:=Cq g0 c;have M:t.on.aI=itr s0 t.p t.aG (t.far+1):=U;have Y:∀j,j<t.aH.length+1->(t.aH++[itr s0 t.p t.aG (t.far+1)])[j]?=aa (itr s0 t.p t.aG (j*t.aK)):=λj B=>by
   rcases R0 j t.aH.length with z|z
   rw[RE z];exact I.aH j z
   ·have d:j=t.aH.length:=by lia
    subst d;rw[SB (RQ _),Nat.sub_self];have:t.aH.length*t.aK=t.far+1:=by rw[I.len];exact a
    rw[this];rfl
  unfold Tp.keep
  by_cases b:t.aH.length<8
  ·have J:t.on.aH.length<8:=b;rw[bJ J];refine⟨⟨I.run,I.ok,I.ask,I.a0,g0,I.g1,I.m1,h,U,?_,?_,λj B=>?_,?_,?_⟩,⟨rfl,rfl,rfl,rfl⟩,rfl⟩
   ·show(t.aH++[t.on.aI]).length=(t.far+1)/t.aK+1;rw[k,Sh,I.len];rfl
   ·show(t.aH++[t.on.aI]).length<=8;rw[Sh];simp;lia
   ·have D:j<t.aH.length+1:=by
     have:(t.aH++[t.on.aI]).length=t.aH.length+1:=by simp
     rw[←this];exact B
    show(t.aH++[t.on.aI])[j]?=aa (itr s0 t.p t.aG (j*t.aK));rw[M];exact Y j D
   show t.now<=t.far+1;have:=I.now;lia
   ·obtain⟨j,O,V⟩:=I.pw;exact⟨j,O,λB=>Sz (V B) (mono _)⟩
  ·have J:¬t.on.aH.length<8:=b;rw[bK J];have l8:t.aH.length=8:=by have:=I.l8;lia
   have Z:t.far+1=8*t.aK:=by rw[←a,←I.len,l8]
   have le:=I.run.le;have m1:=I.m1;have L:∀i,i<5->(t.aH++[itr s0 t.p t.aG (t.far+1)])[2*i]?=aa (itr s0 t.p t.aG (i*(2*t.aK))):=λi l=>by rw[Y (2*i) (by lia)];congr 2;rw[UK 2 i,Nat.mul_assoc]
   have W:(Sy 5).filterMap (λi=>(t.aH++[t.on.aI])[2*i]?)=(Sy 5).map λi=>itr s0 t.p t.aG (i*(2*t.aK)):=by rw[M,show Sy 5=[0,1,2,3,4] from rfl];simp only[SX,List.filterMap_nil,L 0 (by decide),L 1 (by decide),L 2 (by decide),L 3 (by decide),L 4 (by decide),Sf,S6]
   have f:(t.far+1)/(2*t.aK)=4:=by rw[Z,show 8*t.aK=4*(2*t.aK) by lia];exact We _ (by lia)
   refine⟨⟨I.run,I.ok,I.ask,I.a0,?_,?_,I.m1,h,U,?_,?_,λj B=>?_,?_,?_⟩,⟨rfl,rfl,rfl,rfl⟩,rfl⟩;show 0<2*t.aK;lia;show 2*t.aK<=1000;lia
   ·show((Sy 5).filterMap λi=>(t.aH++[t.on.aI])[2*i]?).length=(t.far+1)/(2*t.aK)+1;rw[W,f];simp
   ·show((Sy 5).filterMap λi=>(t.aH++[t.on.aI])[2*i]?).length<=8;rw[W];simp
   ·have D:j<5:=by have q:j<((Sy 5).filterMap λi=>(t.aH++[t.on.aI])[2*i]?).length:=B;rw[W]at q;simpa using q
    show((Sy 5).filterMap λi=>(t.aH++[t.on.aI])[2*i]?)[j]?=aa (itr s0 t.p t.aG (j*(2*t.aK)));rw[W,Sa,Vf D];rfl
   show t.now<=t.far+1;have:=I.now;lia
   ·obtain⟨j,O,V⟩:=I.pw;refine⟨j+1,?_,λ_=>?_⟩
    ·show 2*t.aK=gv*2^(j+1);rw[O,Nat.pow_succ];rw[UK 2,Nat.mul_assoc]
    ·show 8<=(t.far+1)/(2*t.aK/2);rw[Nat.mul_div_cancel_left _ (by lia:0<2),Z,We _ g0];exact RQ _
 ·rw[bK c];refine⟨⟨I.run,I.ok,I.ask,I.a0,g0,I.g1,I.m1,h,U,?_,I.l8,I.aH,?_,?_⟩,⟨rfl,rfl,rfl,rfl⟩,rfl⟩
  ·show t.aH.length=(t.far+1)/t.aK+1;rw[I.len,Co g0 c]
  show t.now<=t.far+1;have:=I.now;lia
  ·obtain⟨j,O,V⟩:=I.pw;exact⟨j,O,λB=>Sz (V B) (mono _)⟩
section
variable{c:ay}{s0:St}{T:FK->Option Fn}{G:ay->Option W}
def rcC:E:=(.and (.z .lt (.i (.v 0) "farthest") (.v 1)) (.not (.aF (.v 0) "is_last" (Z8 (.i (.v 0) "farthest") (.i (.v 0) "front")))))
def rcB:S:=(.seq (.setf (.v 0) "front" (.aF (.v 0) "behind" (Z9 (.i (.v 0) "front")))) (.seq (.augf (.v 0) "farthest" .add (.j (.int 1))) (.v (.z .eq (.bin .mod (.i (.v 0) "farthest") (.i (.v 0) "gap")) (.j (.int 0))) (.ex (.aF (.v 0) "keep" (Z9 (.i (.v 0) "front")))) .nil)))
def qp(t:Tp)(r:Nat):dN "is_last" (t.fs r)=af:=iK t r rfl
def uc(t:Tp)(r:Nat):dN "behind" (t.fs r)=af:=iK t r rfl
def JD(t:Tp)(r:Nat):dN "keep" (t.fs r)=af:=iK t r rfl
def xg(t:Tp)(r:Nat):dN "reach" (t.fs r)=af:=iK t r rfl
def GN(t:Tp)(r:Nat):dN "has" (t.fs r)=af:=iK t r rfl
def FF(t:Tp)(r:Nat):dN "check" (t.fs r)=af:=iK t r rfl
def Qk(t:Tp)(r:Nat):dN "at" (t.fs r)=af:=iK t r rfl
def M9(t:Tp)(r:Nat):dN "end" (t.fs r)=af:=iK t r rfl
def Na{n r:Nat}{t:Tp}{h:HH}(a:TAt c h n r t)(t':Tp)(k:t'.aH=t.aH):Go c n h r t (h.set n (.o c (t'.fs r))) r t':=by have hn:=iT a.ob;have q:=lG a.ob a.li;exact⟨a,⟨lH hn _,by rw[kI (SM q),k];exact a.li⟩,.inl ⟨by simp,rfl⟩,by simp,λi B _ _=>Sg (SM B)⟩
def FG(P:TpP c T G)(k:Nat){n r:Nat}{t:Tp}{h:HH}{e:Nat}(a:TAt c h n r t)(I:TI s0 t e gv)(f:t.far<e)(w:W):
 ∃h' V,evS (runN T G (k+7)) G rcB [aa (.o n),aa w] h=aa (.nx [aa (.o n),aa w] h')/\Go c n h r t h' V t.nx:=by
 have hn:=iT a.ob;have J:=vn I.ok I.ask I.a0 I.run t.far (by lia);have le:=I.run.le;have m1:=I.m1;have m:=oN P k a I.ok (j:=1000+t.far) (st:=t.aI) (by lia) (by rw[I.aI];exact J) (by rw[I.aI];exact I.run.on _ f);have q:=Na a t.on rfl;have e1:oat (h.set n (.o c (({t with aI:=step t.p t.aG t.aI}:Tp).fs r))) n=aa (c,({t with aI:=step t.p t.aG t.aI}:Tp).fs r):=lH hn _;have Y:=yQ t r (step t.p t.aG t.aI);have Z:eB "farthest" (.p (.int ((t.far:Int)+1))) (({t with aI:=step t.p t.aG t.aI}:Tp).fs r)=t.on.fs r:=FE ({t with aI:=step t.p t.aG t.aI}:Tp) r (t.far+1);have e2:oat (h.set n (.o c (t.on.fs r))) n=aa (c,t.on.fs r):=lH hn _;have g0:(0:Int)<(t.aK:Int):=by have:=I.g0;lia
 have O:∀x y:Cl,(h.set n x).set n y=h.set n y:=λx y=>by rw[VJ]
 have of:t.on.far=t.far+1:=rfl;have L:t.on.aK=t.aK:=rfl;have B:evS (runN T G (k+7)) G rcB [aa (.o n),aa w] h=evS (runN T G (k+7)) G (.v (.z .eq (.bin .mod (.i (.v 0) "farthest") (.i (.v 0) "gap")) (.j (.int 0))) (.ex (.aF (.v 0) "keep" (.cons (.i (.v 0) "front") .nil))) .nil) [aa (.o n),aa w] (h.set n (.o c (t.on.fs r))):=by rw[rcB];simp[a.ob,m,uc,Y,e1,Z,O]
 rw[B];unfold Tp.nx;have s:(((t.far+1)%t.aK:Nat):Int)=((t.far:Int)+1)%(t.aK:Int):=by simp
 by_cases M:(t.far+1)%t.aK=0
 ·rw[bJ M];have D:((t.far:Int)+1)%(t.aK:Int)=0:=by lia
  obtain⟨g,U,d,k2⟩:=Cn P (k+6) q.b (by show t.aK<=100000;have:=I.g1;lia) (by show t.aH.length<=8;exact I.l8) t.on.aI;refine⟨g,U,?_,q.trans k2⟩;simp[e2,of,L,g0,I.g0,D,JD,d]
 ·rw[bK M];have D:¬((t.far:Int)+1)%(t.aK:Int)=0:=by lia
  refine⟨_,r,?_,q⟩;have l:(((t.far:Int)+1)%(t.aK:Int)==0)=ai:=by simpa using D
  simp[e2,of,L,g0,I.g0,l]
def rK(P:TpP c T G)(k:Nat){n r:Nat}{t:Tp}{h:HH}{e:Nat}(a:TAt c h n r t)(I:TI s0 t e gv)(m:Nat):
 aL (runN T G (k+7)) G rcC [aa (.o n),aa (.p (.int m))] h=aa (.p (.bl (decide (t.far<min m e))),h):=by
 have B:=ua P (k+5) a t.far t.aI;have le:=I.run.le
 by_cases J:t.far<m
 ·have D:(t.far:Int)<(m:Int):=by lia
  by_cases M:t.far<e
  ·have o:over t.p t.aI=ai:=by rw[I.aI];exact I.run.on _ M
   have q:(decide (t.most<=t.far)||over t.p t.aI)=ai:=by rw[o,U8];exact bN (by lia)
   rw[q]at B;have d:decide (t.far<min m e)=ah:=bO (by lia);rw[d];simp[rcC,a.ob,D,J,qp,B]
  ·have L:t.far=e:=by have:=I.far;lia
   have q:(decide (t.most<=t.far)||over t.p t.aI)=ah:=by
    rcases I.run.last with z|z
    rw[bO (by lia)];rfl;rw[I.aI,L,z,Bool.or_true]
   rw[q]at B;have d:decide (t.far<min m e)=ai:=bN (by lia);rw[d];simp[rcC,a.ob,D,J,qp,B]
 ·have D:¬(t.far:Int)<(m:Int):=by lia
  have d:decide (t.far<min m e)=ai:=bN (by lia);rw[d];simp[rcC,a.ob,D,J]
def FH(P:TpP c T G)(k:Nat)(n:Nat)(e gv m:Nat):∀(d f:Nat)(h:HH)(r:Nat)(t:Tp),TAt c h n r t->TI s0 t e gv->min m e-t.far<=d->d<=f →
 ∃h' V t',fO (aL (runN T G (k+7)) G rcC) (evS (runN T G (k+7)) G rcB) (f+1) [aa (.o n),aa (.p (.int m))] h=aa (.nx [aa (.o n),aa (.p (.int m))] h')/\Go c n h r t h' V t'/\TI s0 t' e gv/\Sm8 t t'/\t'.far=max t.far (min m e):=by
 intro d
 induction d with
 |zero =>
  intro f h r t a I hd Y;have q:=rK P k a I m;rw[bN (by lia)]at q;refine⟨h,r,t,?_,.refl a,I,.refl t,by lia⟩;rw[fO,q,jC,nR]
 |succ d W =>
  intro f h r t a I hd Y
  by_cases D:t.far<min m e
  ·have q:=rK P k a I m;rw[bO D]at q;obtain⟨g,U,l,B⟩:=FG P k a I (by lia) (.p (.int m));obtain⟨u,M,w⟩:=I.nx (by lia);cases f with
   |zero=>lia
   |succ f =>
    obtain⟨Z,O,J,j,i,s,L,v⟩:=W f g U t.nx B.b u (by lia) (by lia);refine⟨Z,O,J,?_,B.trans i,s,M.trans L,by lia⟩;rw[fO,q,jC,nQ,l,fU,j]
  ·have q:=rK P k a I m;rw[bN D]at q;refine⟨h,r,t,?_,.refl a,I,.refl t,by lia⟩;rw[fO,q,jC,nR]
theorem ud:gy=⟨["self","moment"],["self","moment"],.j rcC rcB⟩:=rfl
inductive yR{α:Type}(c:ay)(s0:St)(x:Option (α×HH))(y:α)(n:Nat)(h:HH)(r:Nat)(t:Tp)(e gv f:Nat):Prop
 |mk(h':HH)(B:Nat)(t':Tp)(q:x=aa (y,h'))(g:Go c n h r t h' B t')(i:TI s0 t' e gv)(m:Sm8 t t')(a:t'.far=f):yR c s0 x y n h r t e gv f
def qq(P:TpP c T G)(k:Nat){n r:Nat}{t:Tp}{h:HH}{e:Nat}(a:TAt c h n r t)(I:TI s0 t e gv)(m:Nat):
 yR c s0 (runN T G (k+8) (.m c "reach") [.o n,.p (.int m)] h) (.p .aD) n h r t e gv (max t.far (min m e)):=by
 have le:=I.run.le;have m1:=I.m1;obtain⟨D,B,q,b,g,J,s,f⟩:=FH P k n e gv m 99999 99999 h r t a I (by lia) (RQ _);refine⟨D,B,q,?_,g,J,s,f⟩;rw[run_eq P.reach rfl,ud];have fn:=kJ g (.p .aD);simp[turns,b,fn]
def xh(P:TpP c T G)(k:Nat){n r:Nat}{t:Tp}{h:HH}{e:Nat}(a:TAt c h n r t)(I:TI s0 t e gv)(m:Nat)(U:m<=t.most):
 yR c s0 (runN T G (k+9) (.m c "has") [.o n,.p (.int m)] h) (.p (.bl (decide (m<=e)))) n h r t e gv (max t.far (min m e)):=by
 obtain⟨J,D,q,b,g,O,s,f⟩:=qq P k a I m;refine⟨J,D,q,?_,g,O,s,f⟩;rw[run_eq P.has rfl];have w:=jq P (k+7) m;have M:¬((m:Int)<0):=by lia
 have L:¬((t.most:Int)<(m:Int)):=by lia
 have fn:=λw=>kJ g w;have far:=I.far;have d:decide ((m:Int)<=(q.far:Int))=decide (m<=e):=by
  by_cases B:m<=e
  rw[bO B];exact bO (by lia);rw[bN B];exact bN (by lia)
 simp[iN,w,M,a.ob,L,xg,b,g.b.ob,fn];simpa using d
def yS(P:TpP c T G)(k:Nat){n r:Nat}{t:Tp}{h:HH}{e:Nat}(a:TAt c h n r t)(I:TI s0 t e gv)(m:Nat)(q:m<=e):
 yR c s0 (runN T G (k+10) (.m c "check") [.o n,.p (.int m)] h) (.p .aD) n h r t e gv (max t.far m):=by
 obtain⟨J,D,B,b,g,L,s,f⟩:=xh P k a I m (Sz q I.run.le);rw[bO q]at b;refine⟨J,D,B,?_,g,L,s,by lia⟩;rw[run_eq P.check rfl];have fn:=kJ g (.p .aD);simp[gA,a.ob,GN,b,fn]
def atB:S:=(.set 2 (.aF (.v 0) "behind" (Z9 (.v 2))))
theorem xj(P:TpP c T G)(k:Nat){n r:Nat}{t:Tp}{h:HH}{e gv:Nat}(a:TAt c h n r t)(I:TI s0 t e gv)(B:W):∀(q j:Nat)(x:Option W)(lo:Int),j+q<=e →
 ∃D,eW (evS (runN T G (k+7)) G atB) [(3,"step")] (upto lo q) [aa (.o n),aa B,aa (.p (itr s0 t.p t.aG j).enc),x] h=aa (.nx [aa (.o n),aa B,aa (.p (itr s0 t.p t.aG (j+q)).enc),D] h)
 |0,j,x,lo,_=>⟨x,rfl⟩
 |q+1,j,x,lo,hj=>by
  have le:=I.run.le;have m1:=I.m1;obtain⟨D,b⟩:=xj P k a I B q (j+1) (aa (.p (.int lo))) (lo+1) (by lia);refine⟨D,?_⟩;have J:=oN P k a I.ok (j:=1000+j) (st:=itr s0 t.p t.aG j) (by lia) (vn I.ok I.ask I.a0 I.run j (by lia)) (I.run.on j (by lia));have L:upto lo (q+1)=.int lo::upto (lo+1) q:=by unfold upto;rw[VD,Sf,Ul];simp only[Int.natCast_zero,Int.add_zero,U0,true_and];apply UE;intro i _;simp;lia
  rw[L];have M:step t.p t.aG (itr s0 t.p t.aG j)=itr s0 t.p t.aG (j+1):=rfl;rw[M]at J;have U:j+1+q=j+(q+1):=by lia
  rw[U]at b;have O:evS (runN T G (k+7)) G atB [aa (.o n),aa B,aa (.p (itr s0 t.p t.aG j).enc),aa (.p (.int lo))] h=aa (.nx [aa (.o n),aa B,aa (.p (itr s0 t.p t.aG (j+1)).enc),aa (.p (.int lo))] h):=by simp[atB,a.ob,uc,J]
  simp[O,b]
theorem Cr:jo=⟨["self","moment"],["self","moment","state","step"],(.seq (.ex (.aF (.v 0) "check" (.cons (.v 1) .nil)))
 (.seq (.set 2 (.y (.i (.v 0) "kept") (.bin .fdiv (.v 1) (.i (.v 0) "gap"))))
 (.seq (.for [(3,"step")] .rng1 (.cons (.bin .mod (.v 1) (.i (.v 0) "gap")) .nil) atB)
 (.ret (.v 2)))))⟩:=rfl
def JE(P:TpP c T G)(k:Nat){n r:Nat}{t:Tp}{h:HH}{e:Nat}(a:TAt c h n r t)(I:TI s0 t e gv)(m:Nat)(U:m<=e):
 yR c s0 (runN T G (k+11) (.m c "at") [.o n,.p (.int m)] h) (.p (itr s0 t.p t.aG m).enc) n h r t e gv (max t.far m):=by
 obtain⟨V,M,q,b,g,B,s,f⟩:=yS P k a I m U;refine⟨V,M,q,?_,g,B,s,f⟩;rw[run_eq P.at_ rfl,Cr];have fn:=λw=>kJ g w;have g0:=B.g0;have g1:=B.g1;have dm:=W8 m q.aK;have j:=Ws m g0;have O:m/q.aK<q.aH.length:=by rw[B.len];have:m/q.aK<=q.far/q.aK:=Ye (by lia);lia
 have J:=B.aH _ O;have le:=B.run.le;have m1:=B.m1;rw[s.p,s.aG]at J;have W:(0:Int)<(q.aK:Int):=by lia
 have Y:(q.aK:Int)<1073741824:=by lia
 have e1:(m:Int)/(q.aK:Int)=((m/q.aK:Nat):Int):=by simp
 have e2:(m:Int)%(q.aK:Int)=((m%q.aK:Nat):Int):=by simp
 have ix:dM (.aB (q.aH.map St.enc)) (.int ((m/q.aK:Nat):Int))=aa (itr s0 t.p t.aG (m/q.aK*q.aK)).enc:=by show atP _ _=_;rw[jm,Sa,J];rfl
 obtain⟨i,D⟩:=xj P (k+3) g.b B (.p (.int m)) (m%q.aK) (m/q.aK*q.aK) af 0 (by rw[UK];lia);rw[s.p,s.aG]at D;have Z:m/q.aK*q.aK+m%q.aK=m:=by rw[UK];exact dm
 rw[Z]at D;have L:iR .rng1 [.int ((m%q.aK:Nat):Int)]=aa (upto 0 (m%q.aK)):=by
  rw[jX];have d:((-100000<=(((m%q.aK:Nat):Int)):Bool)&&(((m%q.aK:Nat):Int)<=100000:Bool))=ah:=by simp only[RK,bM];lia
  rw[bJ d];rfl
 simp[-dU,-jX,-Int.natCast_ediv,-Int.natCast_emod,a.ob,FF,b,g.b.ob,g.b.li,rd,W,g0,Y,e1,e2,ix,L,jb,D,fn]
structure TpM(c:ay)(T:FK->Option Fn):Prop where
 end_:T (.m c "end")=aa iM
def FI(P:TpP c T G)(M:TpM c T)(k:Nat){n r:Nat}{t:Tp}{h:HH}{e:Nat}(a:TAt c h n r t)(I:TI s0 t e gv):
 yR c s0 (runN T G (k+9) (.m c "end") [.o n] h) (.p (.int e)) n h r t e gv e:=by
 obtain⟨J,D,q,b,g,L,s,f⟩:=qq P k a I t.most;have le:=I.run.le;have O:=I.far;have B:q.far=e:=by lia
 refine⟨J,D,q,?_,g,L,s,B⟩;rw[run_eq M.end_ rfl];have fn:=λw=>kJ g w;simp[iM,a.ob,xg,b,g.b.ob,B,fn]
def lI{h h':HH}(i:Nat)(hi:i<h.length)(B:h'[i]?≠h[i]?)(w:W):fin h w h'=aa (w,h'):=by
 unfold fin
 by_cases c:h'.length=h.length
 rw[bJ c]
 ·rw[bK c,bK];intro z;apply B;have q:=UJ (l:=h') hi;rw[z]at q;exact q.symm
end
def jr:Fn:=⟨["thing"],["thing"], (.ret (.and (.call "is_whole" (Z9 (.v 0))) (.chain .le .lt (.j (.int 0)) (.v 0) (.aE "CELL_COUNT"))))⟩
def ff:Fn:=⟨["thing"],["thing"], (.v (.and (.not (.call "is_name" (Z9 (.v 0)))) (.not (.call "is_cell" (Z9 (.v 0))))) .bad .nil)⟩
structure ThP(T:FK->Option Fn):Prop where
 is_cell:T "is_cell"=aa jr
 check:T "check_thing"=aa ff
inductive Th
 |nm(x:Nm)|cl(i:Nat)(h:i<4)
def Th.enc:Th->D
 |.nm x=>.str x.w|.cl i _=>.int i
def Th.val(st:St):Th->Int
 |.nm x=>st.names.getD x.ix 0|.cl i _=>st.cells.getD i 0
def Nm.Nb{x y:Nm}(h:RV x.w=RV y.w):x=y:=by cases x<;>cases y<;>first|rfl|(simp[Nm.w]at h)
def fz:Fn:=⟨["state","thing","worth"],["state","thing","worth"], (.seq (.v (.call "is_name" (Z9 (.v 1))) (.ret (.bin .add (.bin .add (.n (.v 0) .nil (Z9 (.aE "NAMES"))) (.aC (Z9 (.call "with_name" (Z7 (.v 0) (.v 1) (.v 2)))))) (.n (.v 0) (Z9 (.bin .add (.aE "NAMES") (.j (.int 1)))) .nil))) .nil) (.ret (.bin .add (.bin .add (.n (.v 0) .nil (Z9 (.aE "CELLS"))) (.aC (Z9 (.call "with_worth" (Z7 (.y (.v 0) (.aE "CELLS")) (.v 1) (.v 2)))))) (.n (.v 0) (Z9 (.bin .add (.aE "CELLS") (.j (.int 1)))) .nil))))⟩
structure LdP(T:FK->Option Fn)(G:ay->Option W):Prop where
 with_thing:T "with_thing"=aa fz
def Th.put(st:St)(v:Int):Th->St
 |.nm x=>{st with names:=st.names.set x.ix v}|.cl i _=>{st with cells:=st.cells.set i v}
structure Szd(st:St):Prop where
 n:st.names.length=6
 c:st.cells.length=4
def Szd.put{st:St}(z:Szd st)(v:Int)(th:Th):Szd (th.put st v):=by
 cases th with
 |nm x=>exact⟨by show(st.names.set _ _).length=6;rw[Td];exact z.n,z.c⟩|cl i h=>exact⟨z.n,by show(st.cells.set _ _).length=4;rw[Td];exact z.c⟩
def Nm.Cs{x y:Nm}(h:x.ix=y.ix):x=y:=by cases x<;>cases y<;>first|rfl|(simp[Nm.ix]at h)
def kj{l:List Int}{i:Nat}(h:i<l.length)(v:Int):(l.set i v).getD i 0=v:=by rw[SL,Sw h];rfl
def mH{l:List Int}{i j:Nat}(h:i≠j)(v:Int):(l.set i v).getD j 0=l.getD j 0:=by rw[SL,Sg h,SL]
def FJ{st:St}(z:Szd st)(v:Int)(th:Th):th.val (th.put st v)=v:=by
 cases th with
 |nm x=>exact kj (by rw[z.n];exact x.wR) v|cl i h=>exact kj (by rw[z.c];exact h) v
def vo{st:St}(v:Int){th B:Th}(h:th≠B):B.val (th.put st v)=B.val st:=by
 cases th with
 |nm x =>
  cases B with
  |nm y=>exact mH (λq=>h (by rw[Nm.Cs q])) v|cl j D=>rfl
 |cl i J =>
  cases B with
  |nm y=>rfl|cl j D=>exact mH (λq=>h (by subst q;rfl)) v
def Th.JF{st:St}(q:st.ok){v:Int}(D:Wth v)(th:Th):(th.put st v).ok:=by
 have z:=Szd.put ⟨q.nlen,q.clen⟩ v th;cases th with
 |nm x=>exact⟨z.n,z.c,λy B=>(UB B).elim (q.nw y) λe=>e ▸ D,q.cw⟩|cl i h=>exact⟨z.n,z.c,q.nw,λy B=>(UB B).elim (q.cw y) λe=>e ▸ D⟩
def xm{F:FK->List W->HH->Option (W×HH)}{G:ay->Option W}{B:Sr}{J:Es}{tg:List ay}{L:List (Nat×ay)}{cond:Es}{q:E}{s:Sl}{h h1 h2:HH}{ws:List W}{ds xs:List D}{fs:Sl}(e1:evs F G J s h=aa (ws,h1))(e2:(rds ws h1).bind (iR B)=aa ds)(V:frees s L=aa fs)(U:jb ws=ah)(O:eH (iC (evs F G cond) (aL F G q) fs) tg.length ds h1=aa (xs,h2))(M:xs.length<=100000):aL F G (.comp ai B J tg L cond q) s h=aa (.p (.aB xs),h2):=by show bnd (evs F G J s h) (nP ai B tg.length (frees s L) (evs F G cond) (aL F G q))=_;rw[e1,eS];unfold nP;rw[e2,V];show(if jb ws=ah then _ else _)=_;rw[bJ U,O,eS];unfold iW;rw[bJ (show xs.length<=lim from M)];rfl
def Ct{q:Type}(f:List D->HH->Option (Option D×HH))(mk:q->D)(g:q->Option D)(h:HH):∀(l:List q),(∀x∈l,f [mk x] h=aa (g x,h))->eH f 1 (l.map mk) h=aa (l.filterMap g,h):=by
 intro l
 induction l with
 |nil=>intro _;rfl
 |cons x r J =>
  intro B;rw[Sf,eH,nN];show bnd (f [mk x] h) (DW (eH f 1 (r.map mk)))=_;rw[B x RZ,eS,DX,J λy L=>B y (RP _ L),eS,As,SX];cases g x<;>rfl
def f9:Fn:=⟨["_law_script","_law_at"],["_law_script","_law_at"], (.ret (.y (.aB ai (Z2 (.j (.str "a")) (.j (.str "b")) (.j (.str "c")) (.j (.str "f")) (.j (.int 0)) (.j (.int 1)) (.j (.int 2)) (.j (.int 3)))) (.call "_law_drawn" (Z7 (.v 0) (.v 1) (.j (.int 8))))))⟩
def j6:Fn:=⟨["_law_state","_law_thing_here"],["_law_state","_law_thing_here"], (.seq (.v (.bi .isStr ai (Z9 (.v 1))) (.ret (.y (.y (.v 0) (.j (.int 1))) (.me .sindex (.j (.str "abcdef")) (Z9 (.v 1))))) .nil) (.ret (.y (.y (.v 0) (.j (.int 2))) (.v 1))))⟩
section
variable{c:ay}{T:FK->Option Fn}{G:ay->Option W}
def ko(P:Prg T G)(k:Nat)(i:Int)(h:HH):runN T G (k+1) "is_name" [.p (.int i)] h=aa (.p (.bl ai),h):=by rw[run_eq P.is_name rfl];simp[g8,P.LETTERS,cW]
def ue(P:TpP c T G)(C:ThP T)(k:Nat){i:Nat}(hi:i<4)(h:HH):runN T G (k+2) "is_cell" [.p (.int i)] h=aa (.p (.bl ah),h):=by
 rw[run_eq C.is_cell rfl];have w:=jq P k i h;have q:(i:Int)<4:=by lia
 have B:(0:Int)<=(i:Int):=by lia
 simp[jr,w,P.prg.CELL_COUNT,q,B,cW]
def mQ(P:TpP c T G)(C:ThP T)(k:Nat)(th:Th)(h:HH):runN T G (k+3) "check_thing" [.p th.enc] h=aa (.p .aD,h):=by
 rw[run_eq C.check rfl];cases th with
 |nm x =>
  have n:=jL P.prg (k+1) x h;simp[ff,Th.enc,n,cW]
 |cl i q =>
  have n:=ko P.prg (k+1) i h;have B:=ue P C k q h;simp[ff,Th.enc,n,B,cW]
def oO(P:TpP c T G)(L:LdP T G)(k:Nat){st:St}(q:st.ok)(th:Th)(v:Int)(h:HH):runN T G (k+3) "with_thing" [.p st.enc,.p th.enc,.p (.int v)] h=aa (.p (th.put st v).enc,h):=by
 rw[run_eq L.with_thing rfl];cases th with
 |nm x =>
  have w:=iS P.prg k st q x v h;have i:=jL P.prg (k+1) x h;rw[St.enc]at w;simp[fz,Th.enc,i,P.prg.NAMES,w,cW,St.enc,Th.put]
 |cl j B =>
  have w:=iw P.prg (k+1) (cV st.cells) j (by rw[iy,q.clen];exact B) (by rw[iy,q.clen];lia) (.int v) h;have i:=ko P.prg (k+1) (j:Int) h;simp[fz,Th.enc,i,P.prg.NAMES,P.prg.CELLS,w,cW,St.enc,Th.put];exact(VL).symm
def Cu{st:St}(B:st.ok)(x:Nm):dM (.aC (cV st.names)) (.int x.ix)=aa (.int (st.names.getD x.ix 0)):=by
 have q:x.ix<st.names.length:=by rw[B.nlen];exact x.wR
 rw[gX,jm];simp[cV,q]
def l7(L:Lw T)(ns:List Int)(D:ns.length<=1000)(q many:Int)(B:0<many):∃z:Nat,(z:Int)<many/\∀k h,runN T G (k+2) "_law_drawn" [.p (.aB (cV ns)),.p (.int q),.p (.int many)] h=aa (.p (.int (z:Int)),h):=by
 have M:=fM ns q B;have J:=fN ns q B;refine⟨(drw ns q many).toNat,by omega,λk h=>?_⟩;have:=fP (G:=G) L k ns D q many B h;rw[this];congr 4
 omega
def yT(L:Lw T)(D:T "_law_thing"=aa f9)(ns:List Int)(B:ns.length<=1000)(p:Int):∃th:Th,∀k h,runN T G (k+3) "_law_thing" [.p (.aB (cV ns)),.p (.int p)] h=aa (.p th.enc,h):=by
 obtain⟨z,M,J⟩:=l7 (G:=G) L ns B p 8 (by decide);have q:∃th:Th,dM (.aB [.str "a",.str "b",.str "c",.str "f",.int 0,.int 1,.int 2,.int 3]) (.int (z:Int))=aa th.enc:=by
  have:z=0\/z=1\/z=2\/z=3\/z=4\/z=5\/z=6\/z=7:=by omega
  rcases this with rfl|rfl|rfl|rfl|rfl|rfl|rfl|rfl
  exact⟨.nm .a,rfl⟩;exact⟨.nm .b,rfl⟩;exact⟨.nm .c,rfl⟩;exact⟨.nm .f,rfl⟩;exact⟨.cl 0 (by decide),rfl⟩;exact⟨.cl 1 (by decide),rfl⟩;exact⟨.cl 2 (by decide),rfl⟩;exact⟨.cl 3 (by decide),rfl⟩
 obtain⟨th,e⟩:=q;refine⟨th,λk h=>?_⟩;rw[run_eq D rfl];have d:=J k h;simp[-dU,f9,d,e,cW]
def rL(D:T "_law_of"=aa j6){st:St}(B:st.ok)(th:Th)(k:Nat)(h:HH):runN T G (k+1) "_law_of" [.p st.enc,.p th.enc] h=aa (.p (.int (th.val st)),h):=by
 cases th with
 |nm x =>
  have e:=pL x;have q:=Cu B x;refine B5 D rfl (B4 rfl ?_);simp[-gX,-SL,Th.enc,e,q,Th.val,ix0,ix1]
 |cl i L =>
  have J:i<st.cells.length:=by rw[B.clen];exact L
  have q:dM (.aC (cV st.cells)) (.int (i:Int))=aa (.int (st.cells.getD i 0)):=by rw[gX,jm];simp[cV,J]
  exact B5 D rfl ((GK rfl).trans (l5 (M4 (d:=.aC (cV st.cells)) (d':=.int i) rfl rfl q)))
end
def gc:Fn:=⟨["self","program","asked","most","state"],["self","program","asked","most","state"], (.seq (.ex (.sup "Tape" (Z5 (.v 0) (.v 1) (.v 2) (.j (.int 1)) (.v 3)))) (.seq (.setf (.v 0) "kept" (.aB ah (Z9 (.v 4)))) (.setf (.v 0) "front" (.v 4))))⟩
def gQ:Fn:=⟨["self","program","asked","most"],["self","program","asked","most"], (.seq (.setf (.v 0) "program" (.v 1)) (.seq (.setf (.v 0) "asked" (.bi .list ai (Z9 (.v 2)))) (.seq (.setf (.v 0) "most" (.v 3)) (.seq (.setf (.v 0) "origins" (.aB ah (Z9 (.j .aD)))) (.setf (.v 0) "branches" (.obl (.make "Branch" (Z6 (.v 1) (.v 2) (.v 3) (.call "begun" .nil)))))))))⟩
def gR:Fn:=⟨["self","run","moment","thing","worth"],["self","run","moment","thing","worth","state"], (.seq (.set 5 (.aF (.v 0) "at" (Z8 (.v 1) (.v 2)))) (.seq (.ex (.call "check_thing" (Z9 (.v 3)))) (.seq (.ex (.me .append (.i (.v 0) "origins") (Z9 (.aC (Z8 (.v 1) (.v 2)))))) (.seq (.ex (.oba (.i (.v 0) "branches") (.make "Branch" (Z6 (.i (.v 0) "program") (.i (.v 0) "asked") (.bin .sub (.i (.v 0) "most") (.v 2)) (.call "with_thing" (Z7 (.v 5) (.v 3) (.v 4))))))) (.ret (.bin .sub (.obn (.i (.v 0) "branches")) (.j (.int 1))))))))⟩
def jt:Fn:=⟨["self","run","moment"],["self","run","moment","holder","branch","number"], (.seq (.ex (.aF (.v 0) "check_run" (Z9 (.v 1)))) (.seq (.set 3 (.aF (.v 0) "holder" (Z8 (.v 1) (.v 2)))) (.seq (.set 4 (.obi (.i (.v 0) "branches") (.v 3))) (.seq (.set 5 (.bin .sub (.v 2) (.aF (.v 0) "first" (Z9 (.v 3))))) (.seq (.v (.not (.aF (.v 4) "has" (Z9 (.v 5)))) .bad .nil) (.ret (.aF (.v 4) "at" (Z9 (.v 5)))))))))⟩
def iO:Fn:=⟨["self","run"],["self","run"], (.seq (.ex (.aF (.v 0) "check_run" (Z9 (.v 1)))) (.ret (.bin .add (.aF (.v 0) "first" (Z9 (.v 1))) (.aF (.obi (.i (.v 0) "branches") (.v 1)) "end" .nil))))⟩
noncomputable def ptC:E:=(.z .ne (.y (.v 2) (.neg (.j (.int 1)))) (.j (.int 0)))
def ptB:S:=(.ex (.me .append (.v 2) (Z9 (.y (.y (.i (.v 0) "origins") (.y (.v 2) (.neg (.j (.int 1))))) (.j (.int 0))))))
def fh:Fn:=⟨["self","run"],["self","run","runs"], (.seq (.ex (.aF (.v 0) "check_run" (Z9 (.v 1)))) (.seq (.set 2 (.aB ah (Z9 (.v 1)))) (.seq (.j ptC ptB) (.ret (.stp ai (-1) (.v 2))))))⟩
def eX:Fn:=⟨["self","run"],["self","run"], (.v (.or (.not (.call "is_whole" (Z9 (.v 1)))) (.or (.z .lt (.v 1) (.j (.int 0))) (.z .ge (.v 1) (.obn (.i (.v 0) "branches"))))) .bad .nil)⟩
def fB:Fn:=⟨["self","run"],["self","run"], (.ret (.ite (.z .eq (.v 1) (.j (.int 0))) (.j (.int 0)) (.y (.y (.i (.v 0) "origins") (.v 1)) (.j (.int 1)))))⟩
def hdC:E:=(.and (.z .ne (.v 1) (.j (.int 0))) (.z .lt (.v 2) (.aF (.v 0) "first" (Z9 (.v 1)))))
noncomputable def hdB:S:=(.set 1 (.y (.y (.i (.v 0) "origins") (.v 1)) (.j (.int 0))))
def gf:Fn:=⟨["self","run","moment"],["self","run","moment"], (.seq (.j hdC hdB) (.ret (.v 1)))⟩
structure TrP(T:FK->Option Fn)(G:ay->Option W):Prop where
 tp:TpP "Branch" T G
 en:TpM "Branch" T
 tin:T (.m "Tape" "__init__")=aa gP
 bin:T (.m "Branch" "__init__")=aa gc
 init:T (.m "Tree" "__init__")=aa gQ
 part:T (.m "Tree" "part")=aa gR
 at_:T (.m "Tree" "at")=aa jt
 end_:T (.m "Tree" "end")=aa iO
 check_run:T (.m "Tree" "check_run")=aa eX
 first:T (.m "Tree" "first")=aa fB
 holder:T (.m "Tree" "holder")=aa gf
 th:ThP T
 ld:LdP T G
structure Nd where
 par:Nat
 fi:Nat
 s0:St
 e:Nat
 f:Nat->St
noncomputable def Nd.en(d:Nd):Nat:=d.fi+d.e
structure Tr where
 p:Pg
 aG:List Int
 most:Nat
 ds:List Nd
noncomputable def Nd.org(d:Nd):D:=.aC [.int d.par,.int d.fi]
def iz(ds:List Nd):List D:=.aD::ds.tail.map Nd.org
def Cv{ds:List Nd}{i:Nat}{d:Nd}(h:ds[i]?=aa d)(hi:0<i):(iz ds)[i]?=aa d.org:=by
 cases i with
 |zero=>exact bL hi (Te _)
 |succ i =>
  cases ds with
  |nil=>simp at h
  |cons x r =>
   simp only[Xs]at h;simp[iz,h]
def oQ{ds:List Nd}(h:ds≠[]):(iz ds).length=ds.length:=by
 cases ds with
 |nil=>exact bL rfl h|cons x r=>simp[iz]
def Cw{ds:List Nd}(h:ds≠[])(d:Nd):iz (ds++[d])=iz ds++[d.org]:=by
 cases ds with
 |nil=>exact bL rfl h|cons x r=>simp[iz]
structure Own(t:Tr)(i:Nat)(d:Nd):Prop where
 run:Run d.s0 t.p t.aG (t.most-d.fi) d.e
 at0:At d.fi d.s0
 le:d.fi<=t.most
 own:∀k,k<=d.e->d.f (d.fi+k)=itr d.s0 t.p t.aG k
 zero:i=0->d.fi=0/\d.s0=St.zero
 par:0<i->∃q,t.ds[d.par]?=aa q/\d.par<i/\d.fi<=q.en/\∀m,m<d.fi->d.f m=q.f m
 put:0<i->∀q,t.ds[d.par]?=aa q->∃(th:Th) (v:Int),d.s0=th.put (q.f d.fi) v
structure Wf(t:Tr):Prop where
 ok:Pg.ok t.p
 ask:Ask t.aG
 m1:t.most<=100
 l1:t.ds.length<=100
 l0:t.ds≠[]
 each:∀i d,t.ds[i]?=aa d->Own t i d
theorem xo{s0:St}{p:Pg}{aG:List Int}{most e j:Nat}(q:Pg.ok p)(B:Ask aG)(D:At j s0)(R:Run s0 p aG most e):∀i,i<=e->At (j+i) (itr s0 p aG i)
 |0,_=>D|i+1,h=>wV q B (xo q B D R i (by lia)) (R.on i (by lia))
theorem Wf.hold{t:Tr}(W:Wf t){m:Nat}:∀(n i:Nat)(d:Nd),i<=n->t.ds[i]?=aa d->m<=d.en->∃(j:Nat) (q:Nd),t.ds[j]?=aa q/\q.fi<=m/\m<=q.en/\d.f m=itr q.s0 t.p t.aG (m-q.fi)/\At m (d.f m)
 |n,i,d,hn,h,hm=>by
  have O:=W.each i d h
  by_cases c:d.fi<=m
  ·have e1:=O.own (m-d.fi) (by unfold Nd.en at hm;lia);rw[show d.fi+(m-d.fi)=m by lia]at e1;refine⟨i,d,h,c,hm,e1,?_⟩;rw[e1];have:=xo W.ok W.ask O.at0 O.run (m-d.fi) (by unfold Nd.en at hm;lia);rw[show d.fi+(m-d.fi)=m by lia]at this;exact this
  ·have D:0<i:=by
    rcases UQ i with z|z
    have:=(O.zero z).1;lia;exact z
   obtain⟨q,L,b,a,J⟩:=O.par D;cases n with
   |zero=>lia
   |succ n =>
    obtain⟨j,B,Z,Y,V,U,M⟩:=W.hold (m:=m) n d.par q (by lia) L (by lia);rw[J m (by lia)];exact⟨j,B,Z,Y,V,U,M⟩
def Wf.at_{t:Tr}(W:Wf t){m i:Nat}{d:Nd}(h:t.ds[i]?=aa d)(q:m<=d.en):At m (d.f m):=by obtain⟨_,_,_,_,_,_,a⟩:=W.hold i i d (RQ _) h q;exact a
def Wf.GO{t:Tr}(W:Wf t){i:Nat}{d:Nd}(h:t.ds[i]?=aa d):d.en<=t.most:=by have O:=W.each i d h;have:=O.run.le;have:=O.le;unfold Nd.en;lia
def tfs(t:Tr)(ro rb:Nat):List (ay×W):=[("program",.p (dG t.p)),("asked",.p (.aB (cV t.aG))),("most",.p (.int t.most)),("origins",.r ro),("branches",.r rb)]
section
variable(t:Tr)(ro rb:Nat)
@[simp]theorem JG:dN "program" (tfs t ro rb)=aa (.p (dG t.p)):=by simp[tfs]
@[simp]theorem Nc:dN "asked" (tfs t ro rb)=aa (.p (.aB (cV t.aG))):=by simp[tfs]
@[simp]theorem Ou:dN "most" (tfs t ro rb)=aa (.p (.int t.most)):=by simp[tfs]
@[simp]theorem JH:dN "origins" (tfs t ro rb)=aa (.r ro):=by simp[tfs]
@[simp]theorem GP:dN "branches" (tfs t ro rb)=aa (.r rb):=by simp[tfs]
def fj{m:String}(h:(["program","asked","most","origins","branches"]:List String).contains m=ai):dN m (tfs t ro rb)=af:=by simp only[Yz,List.contains_nil,U8,X4,bS,ne_eq]at h;obtain⟨L,J,D,B,q⟩:=h;simp[tfs,L,J,D,B,q]
@[simp]theorem FL:dN "check_run" (tfs t ro rb)=af:=fj t ro rb rfl
@[simp]theorem Nf:dN "first" (tfs t ro rb)=af:=fj t ro rb rfl
@[simp]theorem KH:dN "holder" (tfs t ro rb)=af:=fj t ro rb rfl
@[simp]theorem Ro:dN "at" (tfs t ro rb)=af:=fj t ro rb rfl
@[simp]theorem Ql:dN "end" (tfs t ro rb)=af:=fj t ro rb rfl
@[simp]theorem Ow:dN "part" (tfs t ro rb)=af:=fj t ro rb rfl
@[simp]theorem KI:dN "parent" (tfs t ro rb)=af:=fj t ro rb rfl
@[simp]theorem Ox:dN "path" (tfs t ro rb)=af:=fj t ro rb rfl
@[simp]theorem GQ:dN "children" (tfs t ro rb)=af:=fj t ro rb rfl
end
noncomputable abbrev Bx:=Nat×Nat×Tp
noncomputable abbrev Pts:=Nat->Option Cl
structure jQ(Pt:Pts)(h:HH)(n:Nat)(t:Tr)(ro rb:Nat)(bs:List Bx):Prop where
 ob:oat h n=aa (RV "Tree",tfs t ro rb)
 og:lat h ro=aa (iz t.ds)
 br:bat h rb=aa (bs.map (·.1))
 len:bs.length=t.ds.length
 tp:∀(i:Nat)(b:Bx)(d:Nd),bs[i]?=aa b->t.ds[i]?=aa d->TAt "Branch" h b.1 b.2.1 b.2.2/\TI d.s0 b.2.2 d.e 1/\b.2.2.p=t.p/\b.2.2.aG=t.aG
 nd1:(bs.map (·.1)).Nodup
 nd2:(ro::bs.map (·.2.1)).Nodup
 pt:∀i c,Pt i=aa c->h[i]?=aa c/\i≠n/\i≠ro/\i≠rb/\∀b∈bs,i≠b.1/\i≠b.2.1
inductive jw(Pt:Pts)(h:HH)(n:Nat)(t:Tr)(ro rb:Nat):Prop
 |mk(bs:List Bx)(a:jQ Pt h n t ro rb bs)
def vp{h:HH}{n:Nat}{q:List Nat}(e:bat h n=aa q):n<h.length:=by
 unfold bat at e;rcases R0 n h.length with z|z
 exact z;rw[RT z]at e;exact gW e
def Cy{h h':HH}{i:Nat}(e:h'[i]?=h[i]?):bat h' i=bat h i:=by unfold bat;rw[e]
def xq{h:HH}{n r:Nat}{q:ay×List (ay×W)}{xs:List Nat}(e:oat h n=aa q)(e':bat h r=aa xs):r≠n:=by
 rintro rfl
 unfold oat at e;unfold bat at e';cases g:h[r]? with
 |none=>rw[g]at e;exact gW e|some c=>rw[g]at e e';cases c<;>simp[mD]at e e'
def xr{h:HH}{n r:Nat}{q:List D}{xs:List Nat}(e:lat h n=aa q)(e':bat h r=aa xs):r≠n:=by
 rintro rfl
 unfold lat at e;unfold bat at e';cases g:h[r]? with
 |none=>rw[g]at e;exact gW e|some c=>rw[g]at e e';cases c<;>simp[mD]at e e'
def FM{h:HH}{n:Nat}(hn:n<h.length)(c:Cl):bat (h.set n c) n=mD c:=by unfold bat;rw[Sw hn];rfl
def vq{h:HH}{n i:Nat}(hn:i≠n)(c:Cl):bat (h.set n c) i=bat h i:=by unfold bat;rw[Sg (SM hn)]
def FN{h g:HH}{i:Nat}(hi:i<h.length):bat (h++g) i=bat h i:=Cy (RE hi)
def oR{q:Type}{l:List q}{i:Nat}(h:i<l.length):∃x,l[i]?=aa x:=⟨_,RJ h⟩
def dO{q:Type}{l:List q}{i:Nat}{x:q}(h:l[i]?=aa x):i<l.length:=by
 rcases R0 i l.length with z|z
 exact z;rw[RT z]at h;exact gW h
def oU{q:Type}{l:List q}(B:l.Nodup){i j:Nat}{x:q}(a:l[i]?=aa x)(b:l[j]?=aa x):i=j:=by rw[RJ (dO a)]at a;rw[RJ (dO b)]at b;exact(Wz B).mp ((RO a).trans (RO b).symm)
def yU{q:Type}{l:List q}(U:l.Nodup)(i:Nat){y:q}(M:∀(j:Nat)(x:q),l[j]?=aa x->j≠i->x≠y):(l.set i y).Nodup:=by
 refine List.pairwise_iff_getElem.mpr λa b J B D=>?_;rw[Td]at J B;rw[List.getElem_set,List.getElem_set]
 by_cases L:i=a
 ·rw[bJ L,bK (by lia)];exact SM (M b _ (RJ B) (by lia))
 ·rw[bK L]
  by_cases O:i=b
  ·rw[bJ O];exact M a _ (RJ J) (SM L)
  ·rw[bK O];exact List.pairwise_iff_getElem.mp U a b J B D
def jQ.step{Pt:Pts}{h:HH}{n:Nat}{t:Tr}{ro rb:Nat}{bs:List Bx}(A:jQ Pt h n t ro rb bs){i:Nat}{b:Bx}{d:Nd}(D:bs[i]?=aa b)(hd:t.ds[i]?=aa d){h':HH}{J:Nat}{t':Tp}(g:Go "Branch" b.1 h b.2.1 b.2.2 h' J t')(I:TI d.s0 t' d.e 1)(s:Sm8 b.2.2 t'):
 jQ Pt h' n t ro rb (bs.set i (b.1,J,t')):=by
 have T:=dO D;obtain⟨U,a2,a3,a4⟩:=A.tp i b d D hd;have Q:n≠b.1:=by intro z;have:=A.ob;rw[z,U.ob]at this;have:=bR (λq:Option (ay×List (ay×W))=>q.map (·.1)) this;simp at this
 have P:n≠b.2.1:=lG A.ob U.li;have hn:=iT A.ob;have e1:h'[n]?=h[n]?:=g.fr n Q P hn;have ob:ro≠b.1:=(lG U.ob A.og).symm;have R:b.2.1∈bs.map (·.2.1):=List.mem_map.mpr ⟨b,RU D,rfl⟩;have L:ro≠b.2.1:=λz=>(List.nodup_cons.mp A.nd2).1 (by rw[z];exact R);have e2:h'[ro]?=h[ro]?:=g.fr ro ob L (gJ A.og);have X:h'[rb]?=h[rb]?:=g.fr rb (xq U.ob A.br) (xr U.li A.br) (vp A.br);have r:∀(f:Bx->Nat)(x:Bx),f x=f b->(bs.set i x).map f=bs.map f:=λf x B=>by
  rw[VL,B];have:(bs.map f)[i]?=aa (f b):=by rw[Sa,D];rfl
  have M:=dO this;rw[RJ M]at this;rw[←RO this];exact List.set_getElem_self M
 have Z:∀(j:Nat)(x:Bx),bs[j]?=aa x->x.2.1<h.length:=λj x B=>by obtain⟨y,O⟩:=oR (l:=t.ds) (by rw[←A.len];exact dO B);exact gJ (A.tp j x y B O).1.li
 refine⟨(l6 e1).trans A.ob,(oM e2).trans A.og,?_,by rw[Td];exact A.len,λj x y B O=>?_,?_,?_,λj c k=>?_⟩;rw[Cy X,A.br,r (·.1) (b.1,J,t') rfl]
 ·by_cases c:j=i
  ·subst c;rw[Sw T]at B;cases B;rw[hd]at O;cases O;exact⟨g.b,I,s.p.trans a3,s.aG.trans a4⟩
  ·rw[Sg (SM c)]at B;obtain⟨G,F,E,C⟩:=A.tp j x y B O;have w:x.1≠b.1:=λz=>c (oU A.nd1 (i:=j) (j:=i) (x:=b.1) (by rw[Sa,B];exact bR aa z) (by rw[Sa,D];rfl));have v:x.2.1≠b.2.1:=λz=>c (oU (List.nodup_cons.mp A.nd2).2 (i:=j) (j:=i) (x:=b.2.1) (by rw[Sa,B];exact bR aa z) (by rw[Sa,D];rfl));exact⟨(g.other G w v).1,F,E,C⟩
 rw[r (·.1) (b.1,J,t') rfl];exact A.nd1
 ·have a:∀(j:Nat)(x:Nat),(ro::bs.map (·.2.1))[j]?=aa x->j≠i+1->x≠J:=λj x B k=>by
   have u:x<h.length/\x≠b.2.1:=by
    cases j with
    |zero=>cases B;exact⟨gJ A.og,L⟩
    |succ j =>
     rw[Xs,Sa]at B;cases Y:bs[j]? with
     |none=>rw[Y]at B;exact gW B
     |some y =>
      rw[Y]at B;cases B;exact⟨Z j y Y,λz=>k (by rw[oU (List.nodup_cons.mp A.nd2).2 (i:=j) (j:=i) (x:=b.2.1) (by rw[Sa,Y];exact bR aa z) (by rw[Sa,D];rfl)])⟩
   rcases g.len with⟨_,z⟩|z
   rw[z];exact u.2;lia
  have:=yU A.nd2 (i+1) a;rw[List.set_cons_succ]at this;rw[VL];exact this
 ·obtain⟨o,N,K,H,m⟩:=A.pt j c k;have V:=m b (RU D);have S:=dO o;refine⟨(g.fr j V.1 V.2 S).trans o,N,K,H,λx B=>?_⟩;rcases UB B with q|q
  exact m x q
  ·subst q;refine⟨V.1,?_⟩;rcases g.len with⟨_,z⟩|z
   show j≠J;rw[z];exact V.2;show j≠J;lia
def l9(h:HH)(d:D)(h':HH):∃h2,fin h (.p d) h'=aa (.p d,h2)/\(h2=h'\/h2=h):=by
 unfold fin
 by_cases c:h'.length=h.length
 rw[bJ c];exact⟨h',rfl,.inl rfl⟩
 ·rw[bK c]
  by_cases q:h'.take h.length=h
  rw[bJ q];exact⟨h,rfl,.inr rfl⟩;rw[bK q];exact⟨h',rfl,.inl rfl⟩
section
variable{T:FK->Option Fn}{G:ay->Option W}{Pt:Pts}{h:HH}{n:Nat}{t:Tr}{ro rb:Nat}{bs:List Bx}
def iU(P:TrP T G)(W:Wf t)(A:jQ Pt h n t ro rb bs)(k:Nat){i:Nat}(hi:i<t.ds.length):runN T G (k+2) (.m "Tree" "check_run") [.o n,.p (.int i)] h=aa (.p .aD,h):=by
 rw[run_eq P.check_run rfl];have w:=jq P.tp k i h;have D:¬((i:Int)<0):=by lia
 have l1:=W.l1;have l:=A.len;have B:¬((bs.length:Int)<=(i:Int)):=by lia
 have q:bs.length<=100000:=by lia
 simp[eX,w,D,A.ob,A.br,B,q,cW]
def j7(P:TrP T G)(W:Wf t)(A:jQ Pt h n t ro rb bs)(k:Nat){i:Nat}{d:Nd}(hd:t.ds[i]?=aa d):runN T G (k+1) (.m "Tree" "first") [.o n,.p (.int i)] h=aa (.p (.int d.fi),h):=by
 rw[run_eq P.first rfl];rcases UQ i with z|z
 ·subst z;have:=((W.each 0 d hd).zero rfl).1;simp[fB,this,cW]
 ·have c:¬((i:Int)=0):=by lia
  have q:¬i=0:=by lia
  have ix:dM (.aB (iz t.ds)) (.int i)=aa d.org:=by rw[dU,jm];exact Cv hd z
  have ix2:dM d.org (.int 1)=aa (.int d.fi):=rfl;simp[-dU,-gX,fB,c,q,A.ob,A.og,rd,ix,ix2,cW]
end
inductive yV(Pt:Pts)(x:Option (W×HH))(y:W)(n:Nat)(t:Tr)(ro rb:Nat):Prop
 |mk(h':HH)(q:x=aa (y,h'))(a:jw Pt h' n t ro rb)
section
variable{T:FK->Option Fn}{G:ay->Option W}{Pt:Pts}{h:HH}{n:Nat}{t:Tr}{ro rb:Nat}{bs:List Bx}
def Cz{i:Nat}{d:Nd}(hd:t.ds[i]?=aa d)(z:0<i):dM (.aB (iz t.ds)) (.int i)=aa d.org:=by rw[dU,jm];exact Cv hd z
def xu(P:TrP T G)(W:Wf t)(A:jQ Pt h n t ro rb bs)(k:Nat){i m:Nat}{d:Nd}(hd:t.ds[i]?=aa d):
 aL (runN T G (k+1)) G hdC [aa (.o n),aa (.p (.int i)),aa (.p (.int m))] h=aa (.p (.bl (decide (m<d.fi))),h):=by
 rcases UQ i with z|z
 ·subst z;have:=((W.each 0 d hd).zero rfl).1;simp[hdC,this]
 ·have c:¬((i:Int)=0):=by lia
  have q:¬i=0:=by lia
  have f:=j7 P W A k hd;simp[hdC,c,q,A.ob,f]
def FO(P:TrP T G)(W:Wf t)(A:jQ Pt h n t ro rb bs)(k m:Nat):∀(f i:Nat)(d:Nd),t.ds[i]?=aa d->m<=d.en->i<=f →
 ∃(j:Nat) (q:Nd),fO (aL (runN T G (k+1)) G hdC) (evS (runN T G (k+1)) G hdB) (f+1) [aa (.o n),aa (.p (.int i)),aa (.p (.int m))] h=aa (.nx [aa (.o n),aa (.p (.int j)),aa (.p (.int m))] h)/\t.ds[j]?=aa q/\q.fi<=m/\m<=q.en/\d.f m=q.f m:=by
 intro f
 induction f with
 |zero =>
  intro i d hd B J;have z:i=0:=by lia
  subst z;have a:=((W.each 0 d hd).zero rfl).1;have q:=xu P W A k (m:=m) hd;rw[bN (by lia)]at q;refine⟨0,d,?_,hd,by lia,B,rfl⟩;rw[fO,q,jC,nR]
 |succ f D =>
  intro i d hd B J;have q:=xu P W A k (m:=m) hd
  by_cases c:m<d.fi
  ·have z:0<i:=by
    rcases UQ i with z|z
    have:=((W.each i d hd).zero z).1;lia;exact z
   obtain⟨p,M,Z,Y,L⟩:=(W.each i d hd).par z;obtain⟨j,r,e1,e2,V,U,O⟩:=D d.par p M (by lia) (by lia);refine⟨j,r,?_,e2,V,U,(L m c).trans O⟩;rw[bO c]at q;have b:evS (runN T G (k+1)) G hdB [aa (.o n),aa (.p (.int i)),aa (.p (.int m))] h=aa (.nx [aa (.o n),aa (.p (.int d.par)),aa (.p (.int m))] h):=by have ix2:dM d.org (.int 0)=aa (.int d.par):=rfl;simp[-dU,-gX,hdB,A.ob,A.og,rd,Cz hd z,ix2]
   rw[fO,q,jC,nQ,b,fU,e1]
  ·rw[bN c]at q;refine⟨i,d,?_,hd,by lia,B,rfl⟩;rw[fO,q,jC,nR]
def vv(P:TrP T G)(W:Wf t)(A:jQ Pt h n t ro rb bs)(k m:Nat){i:Nat}{d:Nd}(hd:t.ds[i]?=aa d)(B:m<=d.en):
 ∃(j:Nat) (q:Nd),runN T G (k+2) (.m "Tree" "holder") [.o n,.p (.int i),.p (.int m)] h=aa (.p (.int j),h)/\t.ds[j]?=aa q/\q.fi<=m/\m<=q.en/\d.f m=q.f m:=by
 have l1:=W.l1;have:=dO hd;obtain⟨j,q,e1,e2⟩:=FO P W A k m 99999 i d hd B (by lia);refine⟨j,q,?_,e2⟩;rw[run_eq P.holder rfl];simp[gf,turns,e1,cW]
def CA(A:jQ Pt h n t ro rb bs){j:Nat}{b:Bx}(q:bs[j]?=aa b):atP (bs.map (·.1)) (j:Int)=aa b.1:=by rw[jm,Sa,q];rfl
def lJ(P:TrP T G)(W:Wf t)(A:jQ Pt h n t ro rb bs)(k:Nat){i m:Nat}{d:Nd}(hd:t.ds[i]?=aa d)(s:m<=d.en):
 yV Pt (runN T G (k+12) (.m "Tree" "at") [.o n,.p (.int i),.p (.int m)] h) (.p (d.f m).enc) n t ro rb:=by
 have r:=dO hd;obtain⟨j,q,e1,D,e3,F,E⟩:=vv P W A (k+9) m hd s;have I:=iU P W A (k+9) r;have g:=dO D;obtain⟨b,L⟩:=oR (l:=bs) (by rw[A.len];exact g);obtain⟨U,O,tp,a⟩:=A.tp j b q L D;have C:=j7 P W A (k+10) D;have B:m-q.fi<=q.e:=by unfold Nd.en at F;lia
 obtain⟨h1,X,V,Z,M,N,J,_⟩:=xh P.tp (k+2) U O (m-q.fi) (Sz B O.run.le);rw[bO B]at Z;obtain⟨v,S,R,Y,w,K,c,_⟩:=JE P.tp k M.b N (m-q.fi) B;have Q:=A.step L D (M.trans w) K (J.trans c);have en:d.f m=itr q.s0 V.p V.aG (m-q.fi):=by have:=(W.each j q D).own (m-q.fi) B;rw[show q.fi+(m-q.fi)=m by lia]at this;rw[E,this,J.p,J.aG,tp,a]
 rw[←en]at Y;have H:(m:Int)-(q.fi:Int)=((m-q.fi:Nat):Int):=by lia
 obtain⟨u,y,x⟩:=l9 h (d.f m).enc v;refine⟨u,?_,?_⟩
 ·rw[run_eq P.at_ rfl];have ix:=CA A L;rw[jt];simp only[fJ,Sf,S6,RY,SO];simp[-atP,A.ob,I,e1,A.br,ix,C,H,U.ob,GN,Z,M.b.ob,Qk,Y,y]
 ·rcases x with z|z
  rw[z];exact⟨_,Q⟩;rw[z];exact⟨_,A⟩
def uf(P:TrP T G)(W:Wf t)(A:jQ Pt h n t ro rb bs)(k:Nat){i:Nat}{d:Nd}(hd:t.ds[i]?=aa d):
 yV Pt (runN T G (k+10) (.m "Tree" "end") [.o n,.p (.int i)] h) (.p (.int d.en)) n t ro rb:=by
 have D:=dO hd;have c:=iU P W A (k+7) D;obtain⟨b,q⟩:=oR (l:=bs) (by rw[A.len];exact D);obtain⟨B,J,tp,r⟩:=A.tp i b d q hd;have Z:=j7 P W A (k+8) hd;obtain⟨O,u,s,f,U,g,L,_⟩:=FI P.tp P.en k B J;have j:=A.step q hd U g L;obtain⟨M,Y,V⟩:=l9 h (.int d.en) O;have ix:=CA A q;have a:(d.fi:Int)+(d.e:Int)=(d.en:Int):=by unfold Nd.en;lia
 refine⟨M,?_,?_⟩
 ·rw[run_eq P.end_ rfl,iO];simp only[fJ,Sf,S6,RY,SO];simp[-atP,A.ob,c,Z,A.br,ix,B.ob,M9,f,a,Y]
 ·rcases V with z|z
  rw[z];exact⟨_,j⟩;rw[z];exact⟨_,A⟩
end
noncomputable def Tp.new(p:Pg)(aG:List Int)(s0:St)(most:Nat):Tp:=⟨p,aG,1,most,[s0],0,s0,0⟩
def CB{s0:St}{p:Pg}{e:Nat}(q:Pg.ok p)(D:Ask aG)(L:At 1000 s0)(R:Run s0 p aG most e)(J:most<=1000):TI s0 (Tp.new p aG s0 most) e 1 :=
 ⟨R,q,D,L,RQ 1,by show 1<=1000;decide,J,SV _,rfl,by simp[Tp.new],by simp[Tp.new],λj B=>by
  have:j=0:=by simpa [Tp.new]using B
  subst this;simp[Tp.new,itr],SV _,⟨0,by simp[Tp.new],λz=>bL z (Te _)⟩⟩
section
variable{T:FK->Option Fn}{G:ay->Option W}
def yW(P:TrP T G)(k:Nat)(q:ay)(p:Pg)(aG:List Int)(most:Nat)(h:HH):
 runN T G (k+2) (.m "Tape" "__init__") [.o h.length,.p (dG p),.p (.aB (cV aG)),.p (.int 1),.p (.int most)] (h++[.o q []])=aa (.p .aD,h++[.o q ((Tp.new p aG St.zero most).fs (h.length+1)),.l [St.zero.enc]]):=by
 rw[run_eq P.tin rfl];have b:=qm P.tp.prg k;have J:(if(0:Int)>(most:Int)then(0:Int)else(most:Int))=(most:Int):=bK (by lia);have f:∀(c:Cl)(g:HH)(w:W),c≠.o q []->fin (h++[.o q []]) w (h++c::g)=aa (w,h++c::g):=λc g w D=>by refine lI h.length (by simp) ?_ w;simp;exact D
 have B:=f (.o q ((Tp.new p aG St.zero most).fs (h.length+1))) [.l [St.zero.enc]] (.p .aD) (by simp[Tp.fs]);have fs:(Tp.new p aG St.zero most).fs (h.length+1)=([("program",.p (dG p)),("asked",.p (.aB (cV aG))),("gap",.p (.int 1)),("most",.p (.int most)),("kept",.r (h.length+1)),("farthest",.p (.int 0)),("front",.p St.zero.enc),("now",.p (.int 0))]:List (ay×W)):=by simp[Tp.fs,Tp.new]
 rw[fs]at B⊢;rw[gP];simp only[fJ,Sf,S6,RY,SO];simp[J,b,B]
def oV(P:TrP T G)(k:Nat)(p:Pg)(aG:List Int)(most:Nat)(s0:St)(h:HH):
 runN T G (k+3) (.m "Branch" "__init__") [.o h.length,.p (dG p),.p (.aB (cV aG)),.p (.int most),.p s0.enc] (h++[.o "Branch" []])=aa (.p .aD,h++[.o "Branch" ((Tp.new p aG s0 most).fs (h.length+2)),.l [St.zero.enc],.l [s0.enc]]):=by
 rw[run_eq P.bin rfl];have b:=yW P k "Branch" p aG most h;have q:fin (h++[.o "Branch" []]) (.p .aD) (h++[.o "Branch" ((Tp.new p aG s0 most).fs (h.length+2)),.l [St.zero.enc],.l [s0.enc]])=aa (.p .aD,h++[.o "Branch" ((Tp.new p aG s0 most).fs (h.length+2)),.l [St.zero.enc],.l [s0.enc]]):=by refine lI h.length (by simp) ?_ _;simp[Tp.fs]
 have fs:∀(s:St)(r:Nat),(Tp.new p aG s most).fs r=([("program",.p (dG p)),("asked",.p (.aB (cV aG))),("gap",.p (.int 1)),("most",.p (.int most)),("kept",.r r),("farthest",.p (.int 0)),("front",.p s.enc),("now",.p (.int 0))]:List (ay×W)):=λs r=>by simp[Tp.fs,Tp.new]
 rw[fs]at q⊢;rw[fs]at b;rw[gc];simp only[fJ,Sf,S6,RY,SO];simp[b,q]
end
def Tr.new(p:Pg)(aG:List Int)(most e:Nat):Tr:=⟨p,aG,most,[⟨0,0,St.zero,e,itr St.zero p aG⟩]⟩
def Nd.of(t:Tr)(i m:Nat)(d:Nd)(s0:St)(e:Nat):Nd:=⟨i,m,s0,e,λj=>if j<m then d.f j else itr s0 t.p t.aG (j-m)⟩
noncomputable def Tr.add(t:Tr)(x:Nd):Tr:={t with ds:=t.ds++[x]}
def JI{p:Pg}{e:Nat}(q:Pg.ok p)(D:Ask aG)(B:most<=100)(R:Run St.zero p aG most e):Wf (Tr.new p aG most e):=by
 refine⟨q,D,B,by simp[Tr.new],by simp[Tr.new],λi d hd=>?_⟩;have z:i=0/\(⟨0,0,St.zero,e,itr St.zero p aG⟩:Nd)=d:=by
  cases i with
  |zero=>exact⟨rfl,by simpa [Tr.new]using hd⟩|succ i=>simp[Tr.new]at hd
 obtain⟨rfl,rfl⟩:=z;exact⟨R,wU,SV _,λk _=>by show itr St.zero p aG (0+k)=_;rw[Wx];rfl,λ_=>⟨rfl,rfl⟩,λz=>bL z (Te _),λz=>bL z (Te _)⟩
def Own.mono{t:Tr}{x:Nd}{i:Nat}{d:Nd}(O:Own t i d):Own (t.add x) i d :=
 ⟨O.run,O.at0,O.le,O.own,O.zero,λz=>by
  obtain⟨q,B,J⟩:=O.par z;exact⟨q,by show(t.ds++[x])[d.par]?=aa q;rw[RE (dO B)];exact B,J⟩,λz q D=>by
  obtain ⟨L,B,_⟩:=O.par z;have e:(t.ds++[x])[d.par]?=aa q:=D;rw[RE (dO B)] at e;exact O.put z q e⟩
def JJ{t:Tr}(W:Wf t){i m e:Nat}{d:Nd}{s0:St}(hd:t.ds[i]?=aa d)(J:m<=d.en)(V:At m s0)(R:Run s0 t.p t.aG (t.most-m) e)(Y:t.ds.length<100){th:Th}{v:Int}(U:s0=th.put (d.f m) v):Wf (t.add (Nd.of t i m d s0 e)):=by
 refine⟨W.ok,W.ask,W.m1,by simp[Tr.add];lia,by simp[Tr.add],λj q D=>?_⟩;rcases R0 j t.ds.length with c|c
 ·have B:t.ds[j]?=aa q:=by have:(t.ds++[Nd.of t i m d s0 e])[j]?=aa q:=D;rw[RE c]at this;exact this
  exact(W.each j q B).mono
 ·have B:(t.ds++[Nd.of t i m d s0 e])[j]?=aa q:=D;have L:=dO B;have M:j=t.ds.length:=by simp at L;lia
  subst M;simp at B;subst B;refine⟨R,V,Sz J (W.GO hd),λk Z=>?_,λz=>?_,λ_=>⟨d,?_,dO hd,J,λx O=>bJ O⟩,λ_ q D=>?_⟩
  ·show(if m+k<m then d.f (m+k)else itr s0 t.p t.aG (m+k-m))=_;rw[bK (by lia),show m+k-m=k by lia];rfl
  exact bL (List.length_eq_zero_iff.mp z) W.l0
  ·show(t.ds++[Nd.of t i m d s0 e])[i]?=aa d;rw[RE (dO hd)];exact hd
  ·have e2:(t.ds++[Nd.of t i m d s0 e])[i]?=aa q:=D;rw[RE (dO hd),hd]at e2;cases e2;exact⟨th,v,U⟩
section
variable{T:FK->Option Fn}{G:ay->Option W}{Pt:Pts}
def CD(P:TrP T G)(k:Nat)(p:Pg)(aG:List Int)(most e:Nat)(h:HH):
 runN T G (k+4) (.m "Tree" "__init__") [.o h.length,.p (dG p),.p (.aB (cV aG)),.p (.int most)] (h++[.o "Tree" []])=aa (.p .aD,h++[.o "Tree" (tfs (Tr.new p aG most e) (h.length+1) (h.length+5)),.l [.aD],.o "Branch" ((Tp.new p aG St.zero most).fs (h.length+4)),.l [St.zero.enc],.l [St.zero.enc],.b [h.length+2]]):=by
 rw[run_eq P.init rfl];have b:=qm P.tp.prg (k+2);have B:=oV P k p aG most St.zero (h++[.o "Tree" [("program",.p (dG p)),("asked",.p (.aB (cV aG))),("most",.p (.int most)),("origins",.r (h.length+1))],.l [.aD]]);have q:fin (h++[.o "Tree" []]) (.p .aD) (h++[.o "Tree" (tfs (Tr.new p aG most e) (h.length+1) (h.length+5)),.l [.aD],.o "Branch" ((Tp.new p aG St.zero most).fs (h.length+4)),.l [St.zero.enc],.l [St.zero.enc],.b [h.length+2]])=aa (.p .aD,h++[.o "Tree" (tfs (Tr.new p aG most e) (h.length+1) (h.length+5)),.l [.aD],.o "Branch" ((Tp.new p aG St.zero most).fs (h.length+4)),.l [St.zero.enc],.l [St.zero.enc],.b [h.length+2]]):=by refine lI h.length (by simp) ?_ _;simp[tfs]
 have fs:tfs (Tr.new p aG most e) (h.length+1) (h.length+5)=([("program",.p (dG p)),("asked",.p (.aB (cV aG))),("most",.p (.int most)),("origins",.r (h.length+1)),("branches",.r (h.length+5))]:List (ay×W)):=rfl;rw[fs]at q⊢;rw[gQ];simp only[fJ,Sf,S6,RY,SO];simp only[Sh,RY,SO,SZ,List.cons_append,UN]at B;simp[b,B,q]
def CF{p:Pg}{e:Nat}{h:HH}(D:Pg.ok p)(L:Ask aG)(O:most<=100)(R:Run St.zero p aG most e)(M:∀i c,Pt i=aa c->h[i]?=aa c):
 jw Pt (h++[.o "Tree" (tfs (Tr.new p aG most e) (h.length+1) (h.length+5)),.l [.aD],.o "Branch" ((Tp.new p aG St.zero most).fs (h.length+4)),.l [St.zero.enc],.l [St.zero.enc],.b [h.length+2]]) h.length (Tr.new p aG most e) (h.length+1) (h.length+5):=by
 refine⟨[(h.length+2,h.length+4,Tp.new p aG St.zero most)],⟨by simp[oat],by simp[lat,iz,Tr.new],by simp[bat],by simp[Tr.new],λi b d q hd=>?_,by simp,by simp,λi c J=>?_⟩⟩
 ·have z:i=0:=by
   cases i with
   |zero=>rfl|succ i=>simp at q
  subst z;simp at q;subst q;simp[Tr.new]at hd;subst hd;exact⟨⟨by simp[oat],by simp[lat,Tp.new]⟩,CB D L (wU.mono (by decide)) R (by lia),rfl,rfl⟩
 ·have e:=M i c J;have B:=dO e;refine⟨by rw[RE B];exact e,by lia,by lia,by lia,λb q=>?_⟩;simp at q;subst q;exact⟨by show i≠h.length+2;lia,by show i≠h.length+4;lia⟩
end
section
variable{T:FK->Option Fn}{G:ay->Option W}{Pt:Pts}{h:HH}{n:Nat}{t:Tr}{ro rb:Nat}{bs:List Bx}
def At.put{m:Nat}{st:St}(a:At m st){v:Int}(q:Wth v)(th:Th):At m (th.put st v):=by refine⟨Th.JF a.ok q th,?_,?_⟩;cases th<;>exact a.said;cases th<;>exact a.calls
def ptH(h1:HH)(t:Tr)(ro rb:Nat)(bs:List Bx)(x:Nd)(mo:Nat):HH :=
 (h1.set ro (Cl.l (iz t.ds++[x.org]))++[Cl.o "Branch" ((Tp.new t.p t.aG x.s0 mo).fs (h1.length+2)),Cl.l [St.zero.enc],Cl.l [x.s0.enc]]).set rb (Cl.b (bs.map (λb=>b.1)++[h1.length]))
def Ng{h1:HH}(W:Wf t)(A:jQ Pt h1 n t ro rb bs){x:Nd}{mo:Nat}(I:TI x.s0 (Tp.new t.p t.aG x.s0 mo) x.e 1):
 jQ Pt (ptH h1 t ro rb bs x mo) n (t.add x) ro rb (bs++[(h1.length,h1.length+2,Tp.new t.p t.aG x.s0 mo)]):=by
 have hn:=iT A.ob;have U:=gJ A.og;have hrb:=vp A.br;have S:n≠ro:=lG A.ob A.og;have R:rb≠n:=xq A.ob A.br;have Q:rb≠ro:=xr A.og A.br;have L:∀i,i<h1.length->i≠ro->i≠rb->(ptH h1 t ro rb bs x mo)[i]?=h1[i]?:=λi hi c1 c2=>by unfold ptH;rw[Sg (SM c2),RE (by rw[Td];exact hi),Sg (SM c1)]
 have m:∀k,k<3->(ptH h1 t ro rb bs x mo)[h1.length+k]?=[Cl.o "Branch" ((Tp.new t.p t.aG x.s0 mo).fs (h1.length+2)),.l [St.zero.enc],.l [x.s0.enc]][k]?:=λk hk=>by unfold ptH;rw[Sg (by lia),SB (by rw[Td];lia),Td];congr 1;lia
 have D:∀(j:Nat)(b:Bx),bs[j]?=aa b->b.1<h1.length/\b.2.1<h1.length/\b.1≠ro/\b.1≠rb/\b.2.1≠ro/\b.2.1≠rb:=λj b B=>by obtain⟨y,O⟩:=oR (l:=t.ds) (by rw[←A.len];exact dO B);have M:=(A.tp j b y B O).1;exact⟨iT M.ob,gJ M.li,lG M.ob A.og,(xq M.ob A.br).symm,λz=>(List.nodup_cons.mp A.nd2).1 (by rw[←z];exact List.mem_map.mpr ⟨b,RU B,rfl⟩),(xr M.li A.br).symm⟩
 refine⟨(l6 (L n hn S (SM R))).trans A.ob,?_,?_,by simp[Tr.add,A.len],λj b d B hd=>?_,?_,?_,λj c V=>?_⟩
 ·unfold ptH;rw[kI (SM Q),w6 (by rw[Td];exact U),tZ U,HF];show aa (iz t.ds++[x.org])=aa (iz (t.ds++[x]));rw[Cw W.l0]
 ·unfold ptH;rw[FM (by simp;lia)];simp
 ·rcases R0 j bs.length with c|c
  ·rw[RE c]at B;have J:t.ds[j]?=aa d:=by have:(t.ds++[x])[j]?=aa d:=hd;rw[RE (by rw[←A.len];exact c)]at this;exact this
   obtain⟨Z,w,v,u⟩:=A.tp j b d B J;obtain⟨P,N,K,H,G,F⟩:=D j b B;exact⟨⟨(l6 (L _ P K H)).trans Z.ob,(oM (L _ N G F)).trans Z.li⟩,w,v,u⟩
  ·have X:j=bs.length:=by have:=dO B;simp at this;lia
   subst X;simp at B;have J:(t.ds++[x])[bs.length]?=aa d:=hd;rw[A.len]at J;simp at J;subst B J;have s:=m 0 (by decide);have r:=m 2 (by decide);exact⟨⟨by unfold oat;rw[show h1.length=h1.length+0 from rfl,s];rfl,by unfold lat;rw[r];rfl⟩,I,rfl,rfl⟩
 ·rw[Ve];refine List.nodup_append.mpr ⟨A.nd1,by simp,λa Y b B=>?_⟩;simp at B;subst B;obtain⟨y,O,rfl⟩:=List.mem_map.mp Y;obtain⟨j,V⟩:=Uy O;have:=(D j y V).1;lia
 ·rw[Ve,←List.cons_append];refine List.nodup_append.mpr ⟨A.nd2,by simp,λa Y b B=>?_⟩;simp at B;subst B;rcases List.mem_cons.mp Y with z|z
  lia
  ·obtain⟨y,O,rfl⟩:=List.mem_map.mp z;obtain⟨j,V⟩:=Uy O;have:=(D j y V).2.1;lia
 ·obtain⟨h,E,g,f,C⟩:=A.pt j c V;have T:=dO h;refine⟨(L j T g f).trans h,E,g,f,λb B=>?_⟩;rcases List.mem_append.mp B with q|q
  exact C b q
  ·simp at q;subst q;exact⟨by show j≠h1.length;lia,by show j≠h1.length+2;lia⟩
def CG(P:TrP T G)(W:Wf t)(A:jQ Pt h n t ro rb bs)(k:Nat){i m:Nat}{d:Nd}(hd:t.ds[i]?=aa d)(O:m<=d.en)(th:Th){v:Int}(F:Wth v){e:Nat}(R:Run (th.put (d.f m) v) t.p t.aG (t.most-m) e):
 yV Pt (runN T G (k+13) (.m "Tree" "part") [.o n,.p (.int i),.p (.int m),.p th.enc,.p (.int v)] h) (.p (.int t.ds.length)) n (t.add (Nd.of t i m d (th.put (d.f m) v) e)) ro rb:=by
 obtain⟨D,S,⟨q,B⟩⟩:=lJ P W A k hd O;have j:At m (d.f m):=W.at_ hd O;have ml:=Sz O (W.GO hd);have m1:=W.m1;have l1:=W.l1;have lb:=B.len;have I:TI (th.put (d.f m) v) (Tp.new t.p t.aG (th.put (d.f m) v) (t.most-m)) e 1:=CB W.ok W.ask ((j.put F th).mono (by lia)) R (by lia);have J:=Ng W B (x:=Nd.of t i m d (th.put (d.f m) v) e) (mo:=t.most-m) I;refine⟨_,?_,⟨_,J⟩⟩;have hn:=iT B.ob;have H:=gJ B.og;have M:=vp B.br;have E:n≠ro:=lG B.ob B.og;have X:rb≠n:=xq B.ob B.br;have C:rb≠ro:=xr B.og B.br;have N:=mQ P.tp P.th (k+9) th D;have u:(iz t.ds).length<100000:=by rw[oQ W.l0];lia
 have y:oat (D.set ro (.l (iz t.ds++[.aC [.int i,.int m]]))) n=aa (RV "Tree",tfs t ro rb):=(oK E _).trans B.ob;have a:bat (D.set ro (.l (iz t.ds++[.aC [.int i,.int m]]))) rb=aa (q.map (·.1)):=(vq C _).trans B.br;have K:(t.most:Int)-(m:Int)=((t.most-m:Nat):Int):=by lia
 have r:=oO P.tp P.ld (k+9) j.ok th v (D.set ro (.l (iz t.ds++[.aC [.int i,.int m]])));have br:=oV P (k+9) t.p t.aG (t.most-m) (th.put (d.f m) v) (D.set ro (.l (iz t.ds++[.aC [.int i,.int m]])));rw[Td]at br;have s:∀g:HH,bat (D.set ro (.l (iz t.ds++[.aC [.int i,.int m]]))++g) rb=aa (q.map (·.1)):=λg=>(FN (by rw[Td];exact M)).trans a;have bl:q.length<100000:=by lia
 have b:=J.ob;have V:=J.br;unfold ptH Nd.org Nd.of at b V;have c:∀w,fin h w (ptH D t ro rb q (Nd.of t i m d (th.put (d.f m) v) e) (t.most-m))=aa (w,ptH D t ro rb q (Nd.of t i m d (th.put (d.f m) v) e) (t.most-m)):=λw=>by refine lI ro (gJ A.og) (λz=>?_) w;have Z:=oM z;rw[A.og,J.og]at Z;have Y:=bR WR (RO Z);rw[oQ W.l0,oQ (by simp[Tr.add])]at Y;simp[Tr.add]at Y
 unfold ptH Nd.org Nd.of at c;unfold ptH Nd.org Nd.of;have lc:((q.map (·.1)++[D.length]).length:Int)-1=(t.ds.length:Int):=by simp;lia
 rw[run_eq P.part rfl,gR];simp only[fJ,Sf,S6,RY,SO];have Q:¬(100000<=q.length):=by lia
 have U:q.length+1<=100000:=by lia
 have L:(q.length:Int)=(t.ds.length:Int):=by lia
 simp only[Ve,Sf,S6]at V;simp[A.ob,S,N,B.ob,B.og,rd,u,y,a,K,r,br,s,bl,U,b,V,L,c,lR]
end
inductive Pth(t:Tr):Nat->List Nat->Prop
 |zero:Pth t 0 [0]
 |step{i:Nat}{d:Nd}{l:List Nat}(hd:t.ds[i]?=aa d)(hi:0<i)(r:Pth t d.par l):Pth t i (i::l)
section
variable{T:FK->Option Fn}{G:ay->Option W}{Pt:Pts}{h:HH}{n:Nat}{t:Tr}{ro rb:Nat}{bs:List Bx}
def mh(h:HH)(xs:List D):lat (h++[.l xs]) h.length=aa xs:=by simp[lat]
def JK(h:HH)(c q:Cl):(h++[c]).set h.length q=h++[q]:=by simp
def rM(xs:List D)(d:D):dM (.aB (xs++[d])) (.int (-1))=aa d:=by
 rw[dU];show((place (xs++[d]).length (-1)).bind λj=>(xs++[d])[j]?)=aa d;have:place (xs++[d]).length (-1)=aa xs.length:=by unfold place;rw[bK (by decide),bJ (by simp;lia)];congr 1;simp;lia
 rw[this];simp
def FP(P:TrP T G)(c:Wf t)(A:jQ Pt h n t ro rb bs)(F:FK->List W->HH->Option (W×HH))(B:W){i:Nat}{l:List Nat}(a:Pth t i l):∀(pre:List Nat)(f:Nat),pre.length+i+1<=1000->i<=f →
 fO (aL F G ptC) (evS F G ptB) (f+1) [aa (.o n),aa B,aa (.r h.length)] (h++[.l (cZ (pre++[i]))])=aa (.nx [aa (.o n),aa B,aa (.r h.length)] (h++[.l (cZ (pre++l))])):=by
 have ob:∀g,oat (h++g) n=aa (RV "Tree",tfs t ro rb):=λg=>(w9 (iT A.ob)).trans A.ob;have og:∀g,lat (h++g) ro=aa (iz t.ds):=λg=>(w6 (gJ A.og)).trans A.og;have tst:∀(pre:List Nat)(i:Nat),aL F G ptC [aa (.o n),aa B,aa (.r h.length)] (h++[.l (cZ (pre++[i]))])=aa (.p (.bl (!decide (i=0))),h++[.l (cZ (pre++[i]))]):=λpre i=>by
  have e:cZ (pre++[i])=cZ pre++[.int i]:=by simp[cZ]
  rw[e]
  by_cases z:i=0
  ·subst z;simp[-dU,ptC,rd,mh,rM]
  ·have O:¬(i:Int)=0:=by lia
   simp[-dU,ptC,rd,mh,rM,z,O]
 induction a with
 |zero =>
  intro pre f _ _;rw[fO,tst];rfl
 |@step i d l hd M r Z =>
  intro pre f j k;obtain⟨_,_,m,_⟩:=(c.each _ _ hd).par M;have q:=tst pre i;rw[show(!decide (i=0))=ah by simp;lia]at q;have e:cZ (pre++[i])=cZ pre++[.int i]:=by simp[cZ]
  have b:evS F G ptB [aa (.o n),aa B,aa (.r h.length)] (h++[.l (cZ (pre++[i]))])=aa (.nx [aa (.o n),aa B,aa (.r h.length)] (h++[.l (cZ ((pre++[i])++[d.par]))])):=by
   have e2:cZ ((pre++[i])++[d.par])=cZ pre++[.int i]++[.int d.par]:=by simp[cZ]
   have ix2:dM d.org (.int 0)=aa (.int d.par):=rfl;have U:(cZ pre++[D.int i]).length<100000:=by simp[cZ];lia
   have J:dM (.aB (iz t.ds)) (.int i)=aa d.org:=Cz hd M;have Y:lR (.r h.length) (h++[.l (cZ pre++[.int i])])=ah:=by simp[lR,mh]
   rw[e,e2];have V:meW .append (.r h.length) [.p (.int d.par)] (h++[.l (cZ pre++[.int i])])=aa (.p .aD,h++[.l (cZ pre++[.int i]++[.int d.par])]):=by rw[ku,mh];show(if(cZ pre++[D.int i]).length<lim then _ else af)=_;rw[bJ (show _<lim from U),JK]
   simp[-dU,-gX,-ku,ptB,ob,og,rd,mh,rM,J,ix2,kMe,Y,V]
  cases f with
  |zero=>lia
  |succ f =>
   have L:=Z (pre++[i]) f (by simp;lia) (by lia);rw[fO,q,jC,nQ,b,fU,L];simp
def yX(xs:List D):mE (-1) xs=xs.reverse:=by unfold mE;rw[PySem.W.krv_bounds];show(VF ((xs.length:Int)-1) (-1) (-1)).filterMap (λi=>xs[i]?)=_;rw[PySem.W.krv_sliceRange,PySem.W.krv_range,List.filterMap_reverse];have:=PySem.W.krv_all xs.toArray;simp only[RG,XS]at this;rw[this]
def yY(P:TrP T G)(L:T (.m "Tree" "path")=aa fh)(q:Wf t)(A:jQ Pt h n t ro rb bs)(k:Nat){i:Nat}{l:List Nat}(hi:i<t.ds.length)(J:Pth t i l):runN T G (k+3) (.m "Tree" "path") [.o n,.p (.int i)] h=aa (.p (.aB (cZ l.reverse)),h):=by
 rw[run_eq L rfl];have M:=iU P q A k hi;have l1:=q.l1;have B:=FP P q A (runN T G (k+2)) (.p (.int i)) J [] 99999 (by simp;lia) (by lia);have e1:cZ ([]++[i])=[.int i]:=rfl;rw[e1,UN]at B;have f:=lE h [.l (cZ l)] (.aB (cZ l.reverse));have D:mE (-1) (cZ l)=cZ l.reverse:=by rw[yX];simp[cZ]
 rw[fh];simp only[fJ,Sf,S6,RY,SO];simp[A.ob,M,turns,B,rd,mh,D,f]
end
noncomputable def fiN(t:Tr)(i:Nat):Nat:=match t.ds[i]? with
 |some d=>d.fi|none=>0
def vz{t:Tr}{i:Nat}{d:Nd}(hd:t.ds[i]?=aa d):fiN t i=d.fi:=by unfold fiN;rw[hd]
def alone(t:Tr)(q:List Nat):List Nat:=(q.filter λr=>decide (q.count r=1)).map (fiN t)
def Pth.mem{t:Tr}(M:Wf t){i:Nat}{l:List Nat}(hi:i<t.ds.length)(a:Pth t i l):∀x∈l,x<t.ds.length:=by
 induction a with
 |zero=>intro x B;simp at B;subst B;exact hi
 |step hd L r D =>
  obtain⟨q,J,O,_⟩:=(M.each _ _ hd).par L;intro x B;rcases List.mem_cons.mp B with z|z
  subst z;exact dO hd;exact D (dO J) x z
section
variable{T:FK->Option Fn}{G:ay->Option W}{Pt:Pts}{h:HH}{n:Nat}{t:Tr}{ro rb:Nat}
@[simp]theorem KJ(t:Tr)(ro rb:Nat):dN "shared" (tfs t ro rb)=af:=fj t ro rb rfl
@[simp]theorem Oz(t:Tr)(ro rb:Nat):dN "ends_with" (tfs t ro rb)=af:=fj t ro rb rfl
end
section
variable{T:FK->Option Fn}{G:ay->Option W}{Pt:Pts}{h:HH}{n:Nat}{t:Tr}{ro rb:Nat}
end
section
variable{T:FK->Option Fn}{G:ay->Option W}{Pt:Pts}{n:Nat}{ro rb:Nat}
def xw(j r:Nat):upto (j:Int) (r+1)=.int (j:Int)::upto ((j+1:Nat):Int) r:=by unfold upto;rw[VD,Sf,Ul];simp only[Int.natCast_zero,Int.add_zero,U0,true_and];apply UE;intro i _;simp;lia
end
theorem lK(s0:St)(p:Pg)(aG:List Int)(z:Nat):∀k,itr (itr s0 p aG z) p aG k=itr s0 p aG (z+k)
 |0=>rfl
 |k+1=>by show step p aG (itr (itr s0 p aG z) p aG k)=step p aG (itr s0 p aG (z+k));rw[lK s0 p aG z k]
def Run.shift{s0:St}{p:Pg}{M e:Nat}(R:Run s0 p aG M e){z:Nat}(hz:z<=e):Run (itr s0 p aG z) p aG (M-z) (e-z):=by
 have le:=R.le;refine⟨by lia,λi B=>by rw[lK];exact R.on _ (by lia),?_⟩;rcases R.last with q|q
 exact .inl (by lia)
 ·refine .inr ?_;rw[lK,show z+(e-z)=e by lia];exact q
section
variable{T:FK->Option Fn}{G:ay->Option W}{Pt:Pts}{n:Nat}{ro rb:Nat}
def mJ{F:FK->List W->HH->Option (W×HH)}{c:E}{a:S}{s:Sl}{h g:HH}(h1:aL F G c s h=aa (.p (.bl ai),g)):evS F G (.v c a .nil) s h=aa (.nx s g):=by simp[h1]
def CH{F:FK->List W->HH->Option (W×HH)}{c:E}{a b:S}{s:Sl}{h g:HH}(h1:aL F G c s h=aa (.p (.bl ah),g)):evS F G (.v c a b) s h=evS F G a s g:=by simp[h1]
end
section
variable{T:FK->Option Fn}{G:ay->Option W}{Pt:Pts}{n:Nat}{ro rb:Nat}{t:Tr}
end
noncomputable def kg(xs:List Nat):List Int:=xs.map λ(n:Nat)=>(n:Int)
def ug(xs:List Nat):cZ xs=cV (kg xs):=by unfold cZ cV kg;rw[Ul];rfl
theorem qt:∀(xs:List Int),intsOf (cV xs)=aa xs
 |[]=>rfl
 |x::xs=>by show(intsOf (cV xs)).map (x :: ·)=_;rw[qt xs];rfl
def CJ(xs:List Int)(v:Int):ded (xs++[v])=if(ded xs).any (·==v)then ded xs else ded xs++[v]:=by unfold ded;rw[List.foldl_append];rfl
def JL(xs:List Int):(ded xs).Nodup/\∀x,x∈ded xs↔x∈xs:=by
 suffices h:∀(n:Nat)(xs:List Int),xs.length=n->(ded xs).Nodup/\∀x,x∈ded xs↔x∈xs from h _ xs rfl
 intro n
 induction n with
 |zero =>
  intro xs B;have:xs=[]:=List.length_eq_zero_iff.mp B;subst this;exact⟨VX,λx=>Iff.rfl⟩
 |succ n M =>
  intro xs B;rcases List.eq_nil_or_concat xs with z|⟨ys,v,z⟩
  rw[z]at B;simp at B
  ·have L:xs=ys++[v]:=by simpa using z
   subst L;obtain⟨a,b⟩:=M ys (by simp at B;exact B);rw[CJ]
   by_cases c:(ded ys).any (·==v)=ah
   ·rw[bJ c];have D:v∈ded ys:=by simpa using c
    refine⟨a,λx=>?_⟩;rw[b x,WQ];exact⟨.inl,λq=>q.elim id λq=>by simp at q;subst q;exact(b _).mp D⟩
   ·rw[bK c];have D:v∉ded ys:=by simpa using c
    refine⟨List.nodup_append.mpr ⟨a,by simp,λp O q J e=>?_⟩,λx=>?_⟩;simp at J;subst J;subst e;exact D O;rw[WQ,WQ,b x]
noncomputable def pt0:Pts:=λ_=>af
def apE:E:=(.aF (.v 1) "first" (Z9 (.v 0)))
def apM:E:=(.comp ai .seq (Z9 (.bin .add (.aF (.v 0) "path" (Z9 (.v 1))) (.aF (.v 0) "path" (Z9 (.v 2))))) ["run"] [(0,"self")] .nil apE)
def apC:E:=(.z .ne (.aF (.v 0) "found" (Z8 (.v 1) (.v 4))) (.aF (.v 0) "found" (Z8 (.v 2) (.v 4))))
def apB:S:=(.v apC (.ret (.v 4)) .nil)
def fC:Fn:=⟨["self","one","other"],["self","one","other","partings","moment"], (.seq (.set 3 apM) (.seq (.for [(4,"moment")] .seq (Z9 (.bi .sset ai (Z9 (.v 3)))) apB) (.ret (.j .aD))))⟩
def gB:Fn:=⟨["self","run","moment"],["self","run","moment"], (.ret (.aF (.v 0) "at" (Z8 (.v 1) (.v 2))))⟩
def fnd(d:Nd)(m:Nat):D:=if m<=d.en then(d.f m).enc else .aD
def FQ(d:Nd)(m:Nat):dok 100 (fnd d m)=ah:=by unfold fnd;split;exact vm 98 _;rfl
def dfr(a b:Nd)(m:Nat):Bool:=!eqv (fnd a m) (fnd b m)
noncomputable def apD:Option Nat->D
 |some m=>.int (m:Int)|none=>.aD
def FU(l:List Nat)(Z:l.length<64):∃D:List Nat,biD .sset [.aB (cZ l)]=aa (.aB (cZ D))/\(∀x,x∈D↔x∈l)/\D.Pairwise (· < ·):=by
 obtain⟨W,Y⟩:=JL (kg l);have O:=sortI_perm (ded (kg l));have V:=nM (ded (kg l));have U:=O.nodup_iff.mpr W;have mem:∀x,x∈sortI (ded (kg l))↔x∈kg l:=λx=>(O.mem_iff).trans (Y x);have B:∀x∈sortI (ded (kg l)),((x.toNat:Nat):Int)=x:=λx J=>by obtain⟨a,_,rfl⟩:=List.mem_map.mp ((mem x).mp J);rfl
 have e:kg ((sortI (ded (kg l))).map Int.toNat)=sortI (ded (kg l)):=by
  generalize sortI (ded (kg l))=q at B;unfold kg;rw[Ul]
  conv=>rhs;rw[←List.map_id q]
  exact UE λx J=>B x J
 refine⟨(sortI (ded (kg l))).map Int.toNat,?_,λx=>?_,?_⟩
 ·rw[ug,ug,e,sM,qt,SW,bJ (by unfold kg;rw[RX];exact Z)];rfl
 ·constructor
  ·intro h;obtain⟨a,M,rfl⟩:=List.mem_map.mp h;obtain⟨b,L,rfl⟩:=List.mem_map.mp ((mem a).mp M);exact L
  ·intro h;exact List.mem_map.mpr ⟨(x:Int),(mem _).mpr (List.mem_map.mpr ⟨x,h,rfl⟩),rfl⟩
 ·have lt:(sortI (ded (kg l))).Pairwise (· < ·):=by refine List.Pairwise.imp₂ (λa b d c=>?_) V U;exact Int.lt_iff_le_and_ne.mpr ⟨d,c⟩
  rw[List.pairwise_map];refine List.Pairwise.imp_of_mem (λ{a b} M L h=>?_) lt;have:=B a M;have:=B b L;lia
structure TrA(T:FK->Option Fn):Prop where
 apart:T (.m "Tree" "apart")=aa fC
section
variable{T:FK->Option Fn}{G:ay->Option W}{Pt:Pts}{n:Nat}{t:Tr}{ro rb:Nat}
@[simp]theorem Nh(t:Tr)(ro rb:Nat):dN "apart" (tfs t ro rb)=af:=fj t ro rb rfl
@[simp]theorem Ni(t:Tr)(ro rb:Nat):dN "found" (tfs t ro rb)=af:=fj t ro rb rfl
def Fnd(Pt:Pts)(F:FK->List W->HH->Option (W×HH))(n:Nat)(t:Tr)(ro rb:Nat)(M:Nat->Nd->Prop):Prop :=
 ∀(i:Nat)(d:Nd)(m:Nat)(g:HH),t.ds[i]?=aa d->M m d->jw Pt g n t ro rb->yV Pt (F (.m "Tree" "found") [.o n,.p (.int i),.p (.int m)] g) (.p (fnd d m)) n t ro rb
def vA(P:TrP T G)(D:T (.m "Tree" "found")=aa gB)(U:Wf t)(k:Nat):Fnd Pt (runN T G (k+13)) n t ro rb (λm d=>m<=d.en):=by
 intro i d m g hd q ⟨bs,A⟩;obtain⟨B,O,V⟩:=lJ P U A k hd q;obtain⟨J,M,L⟩:=l9 g (d.f m).enc B;refine⟨J,?_,?_⟩
 ·rw[run_eq D rfl];have x:aL (runN T G (k+12)) G (.aF (.v 0) "at" (.cons (.v 1) (.cons (.v 2) .nil))) [aa (.o n),aa (.p (.int i)),aa (.p (.int m))] g=aa (.p (d.f m).enc,B):=by simp[A.ob,O]
  show kC (evS (runN T G (k+12)) G (.ret _) [aa (.o n),aa (.p (.int i)),aa (.p (.int m))] g) (fin g)=_;rw[l5 x,mX,M];unfold fnd;rw[bJ q]
 ·rcases L with z|z
  rw[z];exact V;rw[z];exact⟨_,A⟩
def FW{F:FK->List W->HH->Option (W×HH)}{M:Nat->Nd->Prop}(J:Fnd Pt F n t ro rb M){i j m:Nat}{B q:Nd}(hi:t.ds[i]?=aa B)(Y:t.ds[j]?=aa q)(V:M m B)(U:M m q)(O:Option W){h:HH}(A:jw Pt h n t ro rb):
 ∃g,aL F G apC [aa (.o n),aa (.p (.int i)),aa (.p (.int j)),O,aa (.p (.int m))] h=aa (.p (.bl (dfr B q m)),g)/\jw Pt g n t ro rb:=by
 obtain⟨a,d,L⟩:=J i B m h hi V A;obtain⟨Z,b,e⟩:=J j q m a Y U L;obtain⟨_,f⟩:=A;obtain⟨_,D⟩:=L;refine⟨Z,?_,e⟩;have c:gi .ne (fnd B m) (fnd q m)=aa (dfr B q m):=by rw[kW,bJ (iQ (FQ q m))];rfl
 simp[-kW,apC,f.ob,d,D.ob,b,rd,c]
inductive ApL(Pt:Pts)(n:Nat)(t:Tr)(ro rb:Nat)(x:Option Fl)(i j:Nat)(x3:Option W):Option Nat->Prop
 |rt(m:Nat)(g:HH)(e:x=aa (.rt (.p (.int (m:Int))) g))(A:jw Pt g n t ro rb):ApL Pt n t ro rb x i j x3 (aa m)
 |nx(q:Option W)(g:HH)(e:x=aa (.nx [aa (.o n),aa (.p (.int i)),aa (.p (.int j)),x3,q] g))(A:jw Pt g n t ro rb):ApL Pt n t ro rb x i j x3 af
theorem xy{F:FK->List W->HH->Option (W×HH)}{M:Nat->Nd->Prop}(Y:Fnd Pt F n t ro rb M){i j:Nat}{O L:Nd}(hi:t.ds[i]?=aa O)(V:t.ds[j]?=aa L)(q:Option W):∀(B:List Nat)(D:Option W)(h:HH),(∀m∈B,M m O/\M m L)->jw Pt h n t ro rb →
 ApL Pt n t ro rb (eW (evS F G apB) [(4,"moment")] (cZ B) [aa (.o n),aa (.p (.int i)),aa (.p (.int j)),q,D] h) i j q (B.find? (dfr O L))
 |[],D,h,_,A=>.nx D h rfl A
 |m::B,D,h,hm,A=>by
  obtain⟨J,U,Z⟩:=FW (G:=G) Y hi V (hm m (RZ ..)).1 (hm m (RZ ..)).2 q A;have b:eW (evS F G apB) [(4,"moment")] (cZ (m::B)) [aa (.o n),aa (.p (.int i)),aa (.p (.int j)),q,D] h=jv (evS F G apB [aa (.o n),aa (.p (.int i)),aa (.p (.int j)),q,aa (.p (.int m))] h) (eW (evS F G apB) [(4,"moment")] (cZ B)):=rfl;rw[b,Uo];cases c:dfr O L m with
  |true =>
   rw[c]at U;refine .rt m J ?_ Z;rw[show evS F G apB [aa (.o n),aa (.p (.int i)),aa (.p (.int j)),q,aa (.p (.int m))] h=aa (.rt (.p (.int m)) J) from(CH U).trans (l5 rfl)];rfl
  |false =>
   rw[c]at U;rw[show evS F G apB [aa (.o n),aa (.p (.int i)),aa (.p (.int j)),q,aa (.p (.int m))] h=aa (.nx [aa (.o n),aa (.p (.int i)),aa (.p (.int j)),q,aa (.p (.int m))] J) from mJ U,fU];exact xy Y hi V q B _ J (λz a=>hm z (RP _ a)) Z
def FY(u:Wf t){h:HH}(A:jw Pt h n t ro rb){F:FK->List W->HH->Option (W×HH)}(H:∀{i:Nat}{l:List Nat},i<t.ds.length->Pth t i l->F (.m "Tree" "path") [.o n,.p (.int i)] h=aa (.p (.aB (cZ l.reverse)),h))(hF:∀{i:Nat}{d:Nd},t.ds[i]?=aa d->F (.m "Tree" "first") [.o n,.p (.int i)] h=aa (.p (.int d.fi),h)){M:Nat->Nd->Prop}(hf:Fnd Pt F n t ro rb M){i j:Nat}{V U:Nd}(hi:t.ds[i]?=aa V)(b:t.ds[j]?=aa U){J B:List Nat}(E:Pth t i J)(C:Pth t j B)(l64:J.length+B.length<64)
(hM:∀x∈J++B,M (fiN t x) V/\M (fiN t x) U):
 ∃q:List Nat,(∀m,m∈q↔m∈(J++B).map (fiN t))/\q.Pairwise (· < ·)/\yV Pt (kC (evS F G fC.body [aa (.o n),aa (.p (.int i)),aa (.p (.int j)),af,af] h) (fin h)) (.p (apD (q.find? (dfr V U)))) n t ro rb:=by
 obtain⟨bs,I⟩:=id A;have l1:=u.l1;have X:=H (dO hi) E;have T:=H (dO b) C;have il:=dO hi;have jl:=dO b;have ad:j9 .add (.aB (cZ J.reverse)) (.aB (cZ B.reverse))=aa (.aB (cZ (J.reverse++B.reverse))):=by rw[gj,bJ (by show _<=100000;simp[cZ];lia)];simp[cZ]
 generalize O:J.reverse++B.reverse=rs at ad;have S:rs.length<64:=by rw[←O];simp;lia
 have Y:∀x,x∈rs↔x∈J++B:=λx=>by rw[←O];simp
 have R:∀x∈rs,x<t.ds.length:=λx hx=>by
  rcases List.mem_append.mp ((Y x).mp hx)with z|z
  exact E.mem u il x z;exact C.mem u jl x z
 obtain⟨q,Q,P,N⟩:=FU (rs.map (fiN t)) (by rw[RX];exact S);have L:∀m,m∈q↔m∈(J++B).map (fiN t):=λm=>by rw[P m,List.mem_map,List.mem_map];exact⟨λ⟨a,h1,h2⟩=>⟨a,(Y a).mp h1,h2⟩,λ⟨a,h1,h2⟩=>⟨a,(Y a).mpr h1,h2⟩⟩
 refine⟨q,L,N,?_⟩;have cm:eH (iC (evs (F) G .nil) (aL (F) G apE) [aa (.o n)]) 1 (cZ rs) h=aa (cZ (rs.map (fiN t)),h):=by
  have e0:cZ (rs.map (fiN t))=rs.filterMap λr=>aa (D.int (fiN t r:Int)):=by unfold cZ;rw[Ul,List.filterMap_eq_map'];rfl
  rw[e0];refine Ct _ (λ(r:Nat)=>D.int (r:Int)) _ h rs λr hr=>?_;obtain⟨d,hd⟩:=oR (l:=t.ds) (R r hr);have f:=hF hd;have K:([D.int (r:Int)].map gn++[aa (.o n)]:Sl)=[aa (.p (.int (r:Int))),aa (.o n)]:=rfl;unfold iC;rw[K,vz hd];simp[evs,apE,I.ob,f]
 have ce:aL (F) G apM [aa (.o n),aa (.p (.int i)),aa (.p (.int j)),af,af] h=aa (.p (.aB (cZ (rs.map (fiN t)))),h):=by refine xm (ws:=[.p (.aB (cZ rs))]) (h1:=h) ?_ rfl rfl rfl cm ?_;simp[-gj,evs,I.ob,X,T,rd,ad];simp[cZ];lia
 have Z:=xy (G:=G) hf hi b (aa (.p (.aB (cZ (rs.map (fiN t)))))) q af h (λm hm=>by obtain⟨a,h1,rfl⟩:=List.mem_map.mp ((L m).mp hm);exact hM a h1) A
 have fr:evS (F) G (.for [(4,"moment")] .seq (.cons (.bi .sset ai (.cons (.v 3) .nil)) .nil) apB) [aa (.o n),aa (.p (.int i)),aa (.p (.int j)),aa (.p (.aB (cZ (rs.map (fiN t))))),af] h=eW (evS (F) G apB) [(4,"moment")] (cZ q) [aa (.o n),aa (.p (.int i)),aa (.p (.int j)),aa (.p (.aB (cZ (rs.map (fiN t))))),af] h:=by have ap:jb [W.p (D.aB (cZ q))]=ah:=rfl;simp[rd,rds,Q,ap]
 have top:∀y,evS (F) G (.seq (.for [(4,"moment")] .seq (.cons (.bi .sset ai (.cons (.v 3) .nil)) .nil) apB) (.ret (.j .aD))) [aa (.o n),aa (.p (.int i)),aa (.p (.int j)),aa (.p (.aB (cZ (rs.map (fiN t))))),af] h=y →
  kC (evS F G fC.body [aa (.o n),aa (.p (.int i)),aa (.p (.int j)),af,af] h) (fin h)=kC y (fin h):=λy hy=>by
  show kC (evS (F) G (.seq (.set 3 apM) _) [aa (.o n),aa (.p (.int i)),aa (.p (.int j)),af,af] h) (fin h)=_;rw[gr ce,←hy];rfl
 revert Z
 rw[←fr];generalize q.find? (dfr V U)=o;intro Z;cases Z with
 |rt m g e w =>
  obtain⟨c,s,k⟩:=l9 h (.int (m:Int)) g;refine⟨c,?_,?_⟩;rw[top (aa (.rt (.p (.int m)) g)) (by show mF _ _=_;rw[e];rfl),mX,s];rfl
  ·rcases k with z|z
   rw[z];exact w;rw[z];exact A
 |nx y4 g e w =>
  obtain⟨c,s,k⟩:=l9 h .aD g;refine⟨c,?_,?_⟩;rw[top (aa (.rt (.p .aD) g)) ((qk e).trans (l5 rfl)),mX,s];rfl
  ·rcases k with z|z
   rw[z];exact w;rw[z];exact A
def yZ(P:TrP T G)(e:T (.m "Tree" "path")=aa fh)(S:TrA T)(V:Wf t){h:HH}(A:jw Pt h n t ro rb)(k:Nat){M:Nat->Nd->Prop}(d:Fnd Pt (runN T G (k+13)) n t ro rb M){i j:Nat}{U O:Nd}(hi:t.ds[i]?=aa U)(c:t.ds[j]?=aa O){D B:List Nat}(J:Pth t i D)(Y:Pth t j B)(L:D.length+B.length<64)
(f:∀x∈D++B,M (fiN t x) U/\M (fiN t x) O):
 ∃q:List Nat,(∀m,m∈q↔m∈(D++B).map (fiN t))/\q.Pairwise (· < ·)/\yV Pt (runN T G (k+14) (.m "Tree" "apart") [.o n,.p (.int i),.p (.int j)] h) (.p (apD (q.find? (dfr U O)))) n t ro rb:=by
 obtain⟨bs,W⟩:=id A;obtain⟨q,b,a,Z⟩:=FY (G:=G) V A (λhi J=>yY P e V W (k+10) hi J) (λhd=>j7 P V W (k+12) hd) d hi c J Y L f;refine⟨q,b,a,?_⟩;rw[run_eq S.apart rfl];exact Z
end
section
variable{T:FK->Option Fn}{G:ay->Option W}{Pt:Pts}{n:Nat}{ro rb:Nat}{t:Tr}
def fF{F:FK->List W->HH->Option (W×HH)}{o:Cm}{a b:E}{s:Sl}{h g:HH}{x y:D}{v:Bool}(h1:aL F G a s h=aa (.p x,g))(h2:aL F G b s g=aa (.p y,g2))(q:gi o x y=aa v):aL F G (.z o a b) s h=aa (.p (.bl v),g2):=by simp[h1,h2,rd,q]
end
section
variable{T:FK->Option Fn}{G:ay->Option W}{Pt:Pts}{n:Nat}{ro rb:Nat}{t:Tr}
def Nj{F:FK->List W->HH->Option (W×HH)}{a b:E}{s:Sl}{h g:HH}{v:Bool}(h1:aL F G a s h=aa (.p (.bl ai),g))(h2:aL F G b s g=aa (.p (.bl v),g2)):aL F G (.or a b) s h=aa (.p (.bl v),g2):=by simp[h1,h2]
def CK{F:FK->List W->HH->Option (W×HH)}{a b:E}{s:Sl}{h g:HH}(h1:aL F G a s h=aa (.p (.bl ai),g)):aL F G (.and a b) s h=aa (.p (.bl ai),g):=by simp[h1]
def CM{F:FK->List W->HH->Option (W×HH)}{a b:E}{s:Sl}{h g:HH}{v:Bool}(h1:aL F G a s h=aa (.p (.bl ah),g))(h2:aL F G b s g=aa (.p (.bl v),g2)):aL F G (.and a b) s h=aa (.p (.bl v),g2):=by simp[h1,h2]
def rN{F:FK->List W->HH->Option (W×HH)}{a b:E}{s:Sl}{h g:HH}{x y z:D}(h1:aL F G a s h=aa (.p x,g))(h2:aL F G b s g=aa (.p y,g2))(q:dM x y=aa z):aL F G (.y a b) s h=aa (.p z,g2):=by simp[-dU,-gX,h1,h2,rd,q]
end
def Sm.rds(st:St):Sm->List Th
 |.num _=>[]|.nam i=>[.nm i]|.cell s=>s.rds st++[if h:(s.val st%4).toNat<4 then .cl (s.val st%4).toNat h else .nm .a]|.two _ s t=>s.rds st++t.rds st
def JM(v:Int):(v%4).toNat<4:=by lia
def oW(st:St)(s:Sm):(Sm.cell s).rds st=s.rds st++[.cl (s.val st%4).toNat (JM _)]:=by show s.rds st++[if h:(s.val st%4).toNat<4 then .cl (s.val st%4).toNat h else .nm .a]=_;rw[dif_pos (JM _)]
theorem gS{st:St}(v:Int)(th:Th):∀s:Sm,th∉s.rds st->s.val (th.put st v)=s.val st
 |.num n,_=>rfl
 |.nam i,h=>by have D:th≠.nm i:=λz=>h (by rw[z];exact List.mem_singleton.mpr rfl);exact vo v D
 |.cell s,h=>by rw[oW]at h;have B:th∉s.rds st:=λz=>h (List.mem_append.mpr (.inl z));have q:th≠.cl (s.val st%4).toNat (JM _):=λz=>h (List.mem_append.mpr (.inr (by rw[z];exact List.mem_singleton.mpr rfl)));have e:=gS v th s B;show(th.put st v).cells.getD (s.val (th.put st v)%4).toNat 0=st.cells.getD (s.val st%4).toNat 0;rw[e];exact vo v q
 |.two o s t,h=>by have B:th∉s.rds st:=λz=>h (List.mem_append.mpr (.inl z));have q:th∉t.rds st:=λz=>h (List.mem_append.mpr (.inr z));show BT.two o _ _=BT.two o _ _;rw[gS v th s B,gS v th t q]
def Rw.sms:Rw->List Sm
 |.set _ s=>[s]|.put s t=>[s,t]|.say s=>[s]|.unless s _=>[s]|_=>[]
def Sim(th:Th)(v:Int)(a b:St):Prop:=b=a\/b=th.put a v
def rO(th:Th)(a:St)(v:Int):(th.put a v).row=a.row:=by cases th<;>rfl
def qu(th:Th)(a:St)(v:Int):(th.put a v).calls=a.calls:=by cases th<;>rfl
def qv(th:Th)(a:St)(v:Int):(th.put a v).aG=a.aG:=by cases th<;>rfl
def uh(th:Th)(a:St)(v:Int):(th.put a v).said=a.said:=by cases th<;>rfl
def Sim.Nk{th:Th}{v:Int}{a b:St}(s:Sim th v a b):b.row=a.row/\b.calls=a.calls/\b.aG=a.aG/\b.said=a.said:=by
 rcases s with z|z
 subst z;exact⟨rfl,rfl,rfl,rfl⟩;subst z;exact⟨rO th a v,qu th a v,qv th a v,uh th a v⟩
def Sim.over{th:Th}{v:Int}{a b:St}(s:Sim th v a b)(p:Pg):BT.over p b=BT.over p a:=by
 obtain⟨q,B,_⟩:=s.Nk;unfold BT.over;rw[q];cases p[a.row]? with
 |none=>rfl|some r=>cases r<;>simp only[Rw.over,B,q]
def Sim.val{th:Th}{v:Int}{a b:St}(s:Sim th v a b)(m:Sm)(h:th∉m.rds a):m.val b=m.val a:=by
 rcases s with z|z
 subst z;rfl;subst z;exact gS v th m h
def CO{a:St}(th:Th)(v w:Int)(x:Nm)(D B:Nat):Sim th v ({a with row:=D,names:=a.names.set x.ix w,aG:=B}:St) ({ (th.put a v)with row:=D,names:=(th.put a v).names.set x.ix w,aG:=B}:St):=by
 cases th with
 |nm y =>
  by_cases e:y=x
  ·subst e;refine .inl ?_;show({a with row:=D,names:=(a.names.set y.ix v).set y.ix w,aG:=B}:St)=_;rw[VJ]
  ·refine .inr ?_;show({a with row:=D,names:=(a.names.set y.ix v).set x.ix w,aG:=B}:St)={a with row:=D,names:=(a.names.set x.ix w).set y.ix v,aG:=B};rw[List.set_comm _ _ (λq=>e (Nm.Cs q))]
 |cl i J=>exact .inr rfl
def JN{a:St}(th:Th)(v w:Int)(j q:Nat):Sim th v ({a with row:=q,cells:=a.cells.set j w}:St) ({ (th.put a v)with row:=q,cells:=(th.put a v).cells.set j w}:St):=by
 cases th with
 |nm y=>exact .inr rfl
 |cl i B =>
  by_cases e:i=j
  ·subst e;refine .inl ?_;show({a with row:=q,cells:=(a.cells.set i v).set i w}:St)=_;rw[VJ]
  ·refine .inr ?_;show({a with row:=q,cells:=(a.cells.set i v).set j w}:St)={a with row:=q,cells:=(a.cells.set j w).set i v};rw[List.set_comm _ _ e]
def CP{a:St}(th:Th)(v:Int)(aG:List Int)(r:Rw)(h:∀m∈r.sms,th∉m.rds a):Sim th v (r.next aG a) (r.next aG (th.put a v)):=by
 have e1:=rO th a v;have e2:=qu th a v;have B:=qv th a v;have J:=uh th a v;cases r with
 |set x s =>
  have q:=gS v th s (h s (by simp[Rw.sms]));have:=CO (a:=a) th v (s.val a) x (a.row+1) a.aG;simp only[Rw.next,q,e1];rw[←B]at this;exact B ▸ this
 |put s t =>
  have q:=gS v th s (h s (by simp[Rw.sms]));have D:=gS v th t (h t (by simp[Rw.sms]));simp only[Rw.next,q,D,e1];exact JN th v (t.val a) (s.val a%4).toNat (a.row+1)
 |ask x =>
  simp only[Rw.next,e1,B];exact CO th v (aG.getD a.aG 0) x (a.row+1) (a.aG+1)
 |say s =>
  have q:=gS v th s (h s (by simp[Rw.sms]));simp only[Rw.next,q,e1,J];refine .inr ?_;cases th<;>rfl
 |jump p=>refine .inr ?_;cases th<;>rfl
 |«unless» s p =>
  have q:=gS v th s (h s (by simp[Rw.sms]));simp only[Rw.next,q,e1];refine .inr ?_;cases th<;>rfl
 |call p =>
  simp only[Rw.next,e1,e2];refine .inr ?_;cases th<;>rfl
 |back =>
  simp only[Rw.next,e2];refine .inr ?_;cases th<;>rfl
 |stop=>exact .inr rfl
def CU{th:Th}{v:Int}{a b:St}(s:Sim th v a b)(p:Pg)(aG:List Int)(h:∀r,p[a.row]?=aa r->∀m∈r.sms,th∉m.rds a):Sim th v (step p aG a) (step p aG b):=by
 rcases s with z|z
 subst z;exact .inl rfl
 ·subst z;unfold step;rw[rO];cases e:p[a.row]? with
  |none=>exact .inr rfl|some r=>exact CP th v aG r (h r e)
theorem xA{th:Th}{v:Int}{a b:St}(s:Sim th v a b)(p:Pg)(aG:List Int):∀(k:Nat),(∀i,i<k->∀r,p[(itr a p aG i).row]?=aa r->∀m∈r.sms,th∉m.rds (itr a p aG i))->Sim th v (itr a p aG k) (itr b p aG k)
 |0,_=>s|k+1,h=>CU (xA s p aG k λi q=>h i (by lia)) p aG (h k (by lia))
def Nl:E:=(.bin .add (.v 2) (.aB ai (Z9 (.bin .mod (.call "reckoned" (Z8 (.y (.v 0) (.j (.int 1))) (.v 1))) (.j (.int 4))))))
def Nn:E:=(.bin .add (.v 2) (.call "_law_reads" (Z8 (.y (.v 0) (.j (.int 2))) (.v 1))))
def dZ:Fn:=⟨["_law_asked_sum","_law_state"],["_law_asked_sum","_law_state","_law_found"], (.seq (.v (.z .eq (.y (.v 0) (.j (.int 0))) (.j (.str "num"))) (.ret (.aB ai .nil)) .nil) (.seq (.v (.z .eq (.y (.v 0) (.j (.int 0))) (.j (.str "name"))) (.ret (.aB ai (Z9 (.y (.v 0) (.j (.int 1)))))) .nil) (.seq (.set 2 (.call "_law_reads" (Z8 (.y (.v 0) (.j (.int 1))) (.v 1)))) (.seq (.v (.z .eq (.y (.v 0) (.j (.int 0))) (.j (.str "cell"))) (.ret Nl) .nil) (.ret Nn)))))⟩
def thl(l:List Th):D:=.aB (l.map Th.enc)
theorem j8(st:St):∀s:Sm,(s.rds st).length<=s.size
 |.num _=>by simp[Sm.rds]
 |.nam _=>by simp[Sm.rds,Sm.size]
 |.cell s=>by have:=j8 st s;rw[oW,Sh,Um];simp only[Sm.size];lia
 |.two _ s t=>by have:=j8 st s;have:=j8 st t;simp only[Sm.rds,Sm.size,Sh];lia
section
variable{T:FK->Option Fn}{G:ay->Option W}
def za(P:Prg T G)(D:T "_law_reads"=aa dZ){st:St}(O:st.ok):∀(s:Sm)(n k:Nat),s.size<=n->n<=100->s.ok->∀h,runN T G (k+n+4) "_law_reads" [.p s.enc,.p st.enc] h=aa (.p (thl (s.rds st)),h):=by
 intro s
 induction s with
 |num v =>
  intro n k _ _ _ h;rw[run_eq D rfl];simp[dZ,Sm.enc,rd,cW,thl,Sm.rds]
 |nam i =>
  intro n k _ _ _ h;rw[run_eq D rfl];simp[dZ,Sm.enc,rd,cW,thl,Sm.rds,Th.enc]
 |cell s M =>
  intro n k hn q B h;simp only[Sm.size]at hn;have b:=M (n-1) k (by lia) (by lia) B h;have c:=dY P (k+(n-1)) s (by lia) B st O h;rw[show k+n+4=(k+(n-1)+4)+1 by lia,run_eq D rfl];have W:=j8 st s;have ad:j9 .add (thl (s.rds st)) (.aB [.int (s.val st%4)])=aa (thl ((Sm.cell s).rds st)):=by
   have e:((s.val st%4).toNat:Int)=s.val st%4:=by lia
   show(if(((s.rds st).map Th.enc)).length+1<=lim then _ else af)=_;rw[bJ (by show _<=100000;rw[RX];lia),oW];simp[thl,Th.enc,e]
  simp[-gj,dZ,Nl,Sm.enc,rd,b,c,ad,dH,cW]
 |two o s t L J =>
  intro n k hn q B h;simp only[Sm.size]at hn;have V:=s.size_pos;have U:=t.size_pos;have b:=L (n-1) k (by lia) (by lia) B.1 h;have c:=J (n-1) k (by lia) (by lia) B.2 h;rw[show k+n+4=(k+(n-1)+4)+1 by lia,run_eq D rfl];have Z:=j8 st s;have Y:=j8 st t;have ad:j9 .add (thl (s.rds st)) (thl (t.rds st))=aa (thl ((Sm.two o s t).rds st)):=by show(if(((s.rds st).map Th.enc)).length+(((t.rds st).map Th.enc)).length<=lim then _ else af)=_;rw[bJ (by show _<=100000;rw[RX,RX];lia)];simp[thl,Sm.rds]
  cases o<;>simp[-gj,dZ,Nn,Sm.enc,Op.w,rd,b,c,ad,cW]
def Th.xB{x y:Th}(h:eqv x.enc y.enc=ah):x=y:=by
 cases x with
 |nm a =>
  cases y with
  |nm b =>
   have:RV a.w=RV b.w:=by simpa [Th.enc]using h
   rw[Nm.Nb this]
  |cl j q=>simp[Th.enc]at h
 |cl i B =>
  cases y with
  |nm b=>simp[Th.enc]at h
  |cl j q =>
   have:i=j:=by have:(i:Int)=(j:Int):=(by simpa [Th.enc]using h);lia
   subst this;rfl
def vB(x:Th):dok 100 x.enc=ah:=by cases x<;>simp[Th.enc]
open Classical in
def CV(th:Th)(l:List Th):gi .mem th.enc (thl l)=aa (decide (th∈l)):=by
 unfold thl;rw[gY,bJ (List.all_eq_true.mpr λy _=>iQ (vB th))];congr 1;rw[List.any_map]
 by_cases z:th∈l
 ·rw[bO z];exact List.any_eq_true.mpr ⟨th,z,jP _⟩
 ·rw[bN z];exact List.any_eq_false.mpr λy q e=>z (by rw[←Th.xB e];exact q)
end
def JO:E:=(.z .mem (.v 7) (.call "_law_reads" (Z8 (.v 5) (.v 9))))
def JP:E:=(.and (.bi .isTuple ai (Z9 (.v 10))) (.z .mem (.v 7) (.call "_law_reads" (Z8 (.v 10) (.v 9)))))
def pM:S:=(.v JP (.ret (.j (.bl ah))) .nil)
def JQ:E:=(.n (.y (.v 1) (.y (.v 9) (.j (.int 0)))) (Z9 (.j (.int 1))) .nil)
def JR:S:=(.for [(10,"_law_part")] .seq (Z9 JQ) pM)
def JS:S:=(.v (.z .lt (.v 8) (.v 4)) JR .nil)
def rP:S:=(.seq (.set 9 (.aF (.v 3) "at" (Z8 (.j (.int 0)) (.v 8)))) (.seq (.v JO (.ret (.j (.bl ah))) .nil) JS))
def Np:E:=(.z .ne (.bin .add (.aC (Z9 (.y (.v 13) (.j (.int 0))))) (.n (.v 13) (Z9 (.j (.int 3))) .nil)) (.bin .add (.aC (Z9 (.y (.v 14) (.j (.int 0))))) (.n (.v 14) (Z9 (.j (.int 3))) .nil)))
def Nq:E:=(.z .ne (.call "reckoned" (Z8 (.v 5) (.v 13))) (.call "reckoned" (Z8 (.v 5) (.v 14))))
def JT:E:=(.and (.z .ne (.v 0) (.v 1)) (.z .ne (.call "_law_of" (Z8 (.v 2) (.v 0))) (.call "_law_of" (Z8 (.v 3) (.v 0)))))
def Nr:E:=(.z .ne (.comp ai .seq (Z9 (.v 12)) ["_law_other"] [(7,"_law_thing_here"),(13,"_law_mine"),(14,"_law_yours")] (Z9 JT) (.v 0)) (.aB ai .nil))
def Nt:E:=(.z .nmem (.call "_law_of" (Z8 (.v 14) (.v 7))) (.aC (Z8 (.j (.int 5000)) (.call "_law_of" (Z8 (.v 13) (.v 7))))))
def um:S:=(.seq (.set 13 (.aF (.v 3) "at" (Z8 (.j (.int 0)) (.v 8)))) (.seq (.set 14 (.aF (.v 3) "at" (Z8 (.v 11) (.v 8)))) (.seq (.v (.or Np Nq) (.ret (.j (.bl ai))) .nil) (.seq (.v Nr (.ret (.j (.bl ai))) .nil) (.v Nt (.ret (.j (.bl ai))) .nil)))))
def JU:E:=(.aB ai (.cons (.j (.str "a")) (.cons (.j (.str "b")) (Z2 (.j (.str "c")) (.j (.str "d")) (.j (.str "e")) (.j (.str "f")) (.j (.int 0)) (.j (.int 1)) (.j (.int 2)) (.j (.int 3))))))
def JV:E:=(.z .mem (.aF (.v 3) "apart" (Z8 (.j (.int 0)) (.v 11))) (.aC (Z8 (.j .aD) (.v 6))))
def i6:Fn:=⟨["_law_script"],["_law_script","_law_program_here","_law_asked_here","_law_tree","_law_end","_law_one","_law_moment","_law_thing_here","_law_at","_law_state","_law_part","_law_run","_law_things","_law_mine","_law_yours"], (.seq (.set 1 (.call "_law_program" (Z8 (.v 0) (.j (.int 20))))) (.seq (.set 2 (.call "_law_asked" (Z8 (.v 0) (.j (.int 450))))) (.seq (.set 3 (.make "Tree" (Z7 (.v 1) (.v 2) (.call "_law_drawn" (Z7 (.v 0) (.j (.int 440)) (.j (.int 15))))))) (.seq (.set 4 (.aF (.v 3) "end" (Z9 (.j (.int 0))))) (.seq (.set 5 (.call "_law_sum" (Z7 (.v 0) (.j (.int 460)) (.j (.int 2))))) (.seq (.set 6 (.call "_law_drawn" (Z7 (.v 0) (.j (.int 443)) (.bin .add (.v 4) (.j (.int 1)))))) (.seq (.set 7 (.call "_law_thing" (Z8 (.v 0) (.j (.int 442))))) (.seq (.for [(8,"_law_at")] .rng2 (Z8 (.v 6) (.bin .add (.v 4) (.j (.int 1)))) rP) (.seq (.set 11 (.aF (.v 3) "part" (Z6 (.j (.int 0)) (.v 6) (.v 7) (.j (.int 5000))))) (.seq (.v (.z .ne (.aF (.v 3) "end" (Z9 (.v 11))) (.v 4)) (.ret (.j (.bl ai))) .nil) (.seq (.set 12 JU) (.seq (.for [(8,"_law_at")] .rng2 (Z8 (.v 6) (.bin .add (.v 4) (.j (.int 1)))) um) (.ret JV)))))))))))))⟩
structure rQ(T:FK->Option Fn):Prop where
 lw:Lw T
 thing:T "_law_thing"=aa f9
 program:T "_law_program"=aa fc
 of:T "_law_of"=aa j6
 reads:T "_law_reads"=aa dZ
 law:T "law"=aa i6
 path:T (.m "Tree" "path")=aa fh
 found:T (.m "Tree" "found")=aa gB
 ap:TrA T
def s70(Y V U:W)(n e:Nat)(sm:Sm)(mo:Nat)(th:Th)(O M L J D B q:Option W):Sl :=
 [aa Y,aa V,aa U,aa (.o n),aa (.p (.int e)),aa (.p sm.enc),aa (.p (.int mo)),aa (.p th.enc),O,M,L,J,D,B,q]
inductive Pc
 |sm(s:Sm)|ot(d:D)(h:isT d=ai)
def Pc.enc:Pc->D
 |.sm s=>s.enc|.ot d _=>d
def Rw.pcs:Rw->List Pc
 |.set x s=>[.ot (.str x.w) rfl,.sm s]|.put s t=>[.sm s,.sm t]|.ask x=>[.ot (.str x.w) rfl]|.say s=>[.sm s]|.jump p=>[.ot (.int p) rfl]|.unless s p=>[.sm s,.ot (.int p) rfl]|.call p=>[.ot (.int p) rfl]|.back=>[]|.stop=>[]
def FZ(r:Rw):qF r.enc (aa 1) af=aa (.aC (r.pcs.map Pc.enc)):=by cases r<;>rfl
def F0(r:Rw){s:Sm}(h:s∈r.sms):Pc.sm s∈r.pcs:=by cases r<;>simp[Rw.sms,Rw.pcs]at h⊢<;>first|exact h|skip
def JW{r:Rw}{n:Nat}(h:r.ok n){s:Sm}(q:Pc.sm s∈r.pcs):jN s:=by
 cases r with
 |set x t=>simp[Rw.pcs]at q;subst q;exact h
 |put t u=>simp[Rw.pcs]at q;rcases q with z|z<;>subst z;exact h.1;exact h.2
 |say t=>simp[Rw.pcs]at q;subst q;exact h|«unless» t p=>simp[Rw.pcs]at q;subst q;exact h.1|_=>simp[Rw.pcs]at q
def JX(s:Sm):isT s.enc=ah:=by cases s<;>rfl
section
variable{T:FK->Option Fn}{G:ay->Option W}{Pt:Pts}{n:Nat}{ro rb:Nat}{t:Tr}
def gG{F:FK->List W->HH->Option (W×HH)}{f:ay}{a b:E}{s:Sl}{h:HH}{x y:W}{r:Option (W×HH)}(h1:aL F G a s h=aa (x,h))(h2:aL F G b s h=aa (y,h))(q:F (.f f) [x,y] h=r):aL F G (.call f (.cons a (.cons b .nil))) s h=r:=by simp[h1,h2,q]
def oX(P:Prg T G)(L:rQ T){st:St}(B:st.ok){s:Sm}(q:jN s)(k:Nat)(h:HH):runN T G (k+20) "_law_reads" [.p s.enc,.p st.enc] h=aa (.p (thl (s.rds st)),h):=by have:=za P L.reads B s 15 (k+1) q.2 (by decide) q.1 h;exact this
open Classical in
theorem p70(P:Prg T G)(L:rQ T)(k:Nat){st:St}(g:st.ok)(Z Y V:W)(e:Nat)(sm:Sm)(mo:Nat)(th:Th)(U O M J B:Option W)(h:HH):∀(ps:List Pc)(a:Option W),(∀s,Pc.sm s∈ps->jN s) →
 eW (evS (runN T G (k+20)) G pM) [(10,"_law_part")] (ps.map Pc.enc) (s70 Z Y V n e sm mo th U (aa (.p st.enc)) a O M J B) h=aa (.rt (.p (.bl ah)) h) ∨
 ((∃f,eW (evS (runN T G (k+20)) G pM) [(10,"_law_part")] (ps.map Pc.enc) (s70 Z Y V n e sm mo th U (aa (.p st.enc)) a O M J B) h=aa (.nx (s70 Z Y V n e sm mo th U (aa (.p st.enc)) f O M J B) h))/\∀s,Pc.sm s∈ps->th∉s.rds st)
 |[],a,_=>.inr ⟨⟨a,rfl⟩,λs b=>by simp at b⟩
 |p::ps,a,hp=>by
  have j:eW (evS (runN T G (k+20)) G pM) [(10,"_law_part")] ((p::ps).map Pc.enc) (s70 Z Y V n e sm mo th U (aa (.p st.enc)) a O M J B) h=jv (evS (runN T G (k+20)) G pM (s70 Z Y V n e sm mo th U (aa (.p st.enc)) (aa (.p p.enc)) O M J B) h) (eW (evS (runN T G (k+20)) G pM) [(10,"_law_part")] (ps.map Pc.enc)):=rfl;rw[j];have bi:∀d:D,aL (runN T G (k+20)) G (.bi .isTuple ai (.cons (.v 10) .nil)) (s70 Z Y V n e sm mo th U (aa (.p st.enc)) (aa (.p d)) O M J B) h=aa (.p (.bl (isT d)),h):=λd=>by simp[s70,rds,rd]
  cases p with
  |ot d hd =>
   have c:aL (runN T G (k+20)) G JP (s70 Z Y V n e sm mo th U (aa (.p st.enc)) (aa (.p d)) O M J B) h=aa (.p (.bl ai),h):=CK (by rw[bi,hd]);rw[show evS (runN T G (k+20)) G pM (s70 Z Y V n e sm mo th U (aa (.p st.enc)) (aa (.p (Pc.ot d hd).enc)) O M J B) h=_ from mJ c,fU];rcases p70 P L k g Z Y V e sm mo th U O M J B h ps (aa (.p d)) (λs b=>hp s (RP _ b))with z|⟨z1,z2⟩
   exact .inl z
   ·refine .inr ⟨z1,λs b=>?_⟩;rcases List.mem_cons.mp b with q|q
    exact bL q (by simp);exact z2 s q
  |sm s =>
   have l:aL (runN T G (k+20)) G (.z .mem (.v 7) (.call "_law_reads" (.cons (.v 10) (.cons (.v 9) .nil)))) (s70 Z Y V n e sm mo th U (aa (.p st.enc)) (aa (.p s.enc)) O M J B) h=aa (.p (.bl (decide (th∈s.rds st))),h) :=
    fF rfl (gG rfl rfl (oX P L g (hp s (RZ ..)) k h)) (CV th _)
   have c:aL (runN T G (k+20)) G JP (s70 Z Y V n e sm mo th U (aa (.p st.enc)) (aa (.p s.enc)) O M J B) h=aa (.p (.bl (decide (th∈s.rds st))),h):=CM (by rw[bi,JX]) l
   by_cases q:th∈s.rds st
   ·rw[bO q]at c;refine .inl ?_;rw[show evS (runN T G (k+20)) G pM (s70 Z Y V n e sm mo th U (aa (.p st.enc)) (aa (.p (Pc.sm s).enc)) O M J B) h=aa (.rt (.p (.bl ah)) h) from(CH c).trans (l5 rfl)];rfl
   ·rw[bN q]at c;rw[show evS (runN T G (k+20)) G pM (s70 Z Y V n e sm mo th U (aa (.p st.enc)) (aa (.p (Pc.sm s).enc)) O M J B) h=_ from mJ c,fU];rcases p70 P L k g Z Y V e sm mo th U O M J B h ps (aa (.p s.enc)) (λs b=>hp s (RP _ b))with z|⟨z1,z2⟩
    exact .inl z
    ·refine .inr ⟨z1,λi b=>?_⟩;rcases List.mem_cons.mp b with q2|q2
     cases q2;exact q;exact z2 i q2
def Nu(t:Tr)(d:Nd)(e:Nat)(sm:Sm)(th:Th)(i:Nat):Prop:=th∉sm.rds (d.f i)/\(i<e->∀r,t.p[(d.f i).row]?=aa r->∀m∈r.sms,th∉m.rds (d.f i))
inductive R70(Pt:Pts)(n:Nat)(t:Tr)(ro rb:Nat)(x:Option Fl)(f:Option W->Option W->Option W->Sl)(q:Prop):Prop
 |rt(g:HH)(e:x=aa (.rt (.p (.bl ah)) g))
 |nx(J D B:Option W)(g:HH)(e:x=aa (.nx (f J D B) g))(A:jw Pt g n t ro rb)(h:q)
open Classical in
def a70(P:TrP T G)(L:rQ T)(k:Nat)(w:Wf t){d:Nd}(hd:t.ds[0]?=aa d)(a Z:W){sm:Sm}(hs:jN sm)(mo:Nat)(th:Th)(C V U M J B:Option W){h:HH}(A:jw Pt h n t ro rb){i:Nat}(hi:i<=d.en):
 R70 Pt n t ro rb (evS (runN T G (k+20)) G rP (s70 a (.p (dG t.p)) Z n d.en sm mo th (aa (.p (.int i))) C V U M J B) h) (λX S b=>s70 a (.p (dG t.p)) Z n d.en sm mo th X S b U M J B) (Nu t d d.en sm th i):=by
 obtain⟨bs,R⟩:=id A;obtain⟨Y,b1,Q⟩:=lJ P w R (k+8) hd hi;have N:=(w.at_ hd hi).ok;have x1:aL (runN T G (k+20)) G (.aF (.v 3) "at" (.cons (.j (.int 0)) (.cons (.v 8) .nil))) (s70 a (.p (dG t.p)) Z n d.en sm mo th (aa (.p (.int i))) C V U M J B) h=aa (.p (d.f i).enc,Y):=by have I:runN T G (k+20) (.m "Tree" "at") [.o n,.p (.int 0),.p (.int i)] h=aa (.p (d.f i).enc,Y):=b1;simp[s70,R.ob,I]
 have l:aL (runN T G (k+20)) G JO (s70 a (.p (dG t.p)) Z n d.en sm mo th (aa (.p (.int i))) (aa (.p (d.f i).enc)) V U M J B) Y=aa (.p (.bl (decide (th∈sm.rds (d.f i)))),Y) :=
  fF rfl (gG rfl rfl (oX P.tp.prg L N hs k Y)) (CV th _)
 have H:evS (runN T G (k+20)) G rP (s70 a (.p (dG t.p)) Z n d.en sm mo th (aa (.p (.int i))) C V U M J B) h=evS (runN T G (k+20)) G (.seq (.v JO (.ret (.j (.bl ah))) .nil) JS) (s70 a (.p (dG t.p)) Z n d.en sm mo th (aa (.p (.int i))) (aa (.p (d.f i).enc)) V U M J B) Y:=gr x1;rw[H]
 by_cases q:th∈sm.rds (d.f i)
 ·rw[bO q]at l;exact .rt Y (B4 l rfl)
 ·rw[bN q]at l;rw[GK l];have g:aL (runN T G (k+20)) G (.z .lt (.v 8) (.v 4)) (s70 a (.p (dG t.p)) Z n d.en sm mo th (aa (.p (.int i))) (aa (.p (d.f i).enc)) V U M J B) Y=aa (.p (.bl (decide (i<d.en))),Y):=by
   refine fF rfl rfl ?_;rw[kX];congr 1
   by_cases z:i<d.en
   rw[bO z,bO (by lia)];rw[bN z,bN (by lia)]
  by_cases c:i<d.en
  ·rw[bO c]at g;have O:=w.each 0 d hd;obtain⟨x,K⟩:=O.zero rfl;have fe:d.f i=itr d.s0 t.p t.aG i:=by have:=O.own i (by unfold Nd.en at c;lia);rw[x,Wx]at this;exact this
   have u:=O.run.on i (by unfold Nd.en at c;lia);rw[←fe]at u;obtain⟨r,hr⟩:∃r,t.p[(d.f i).row]?=aa r:=by
    cases z:t.p[(d.f i).row]? with
    |none=>unfold over at u;rw[z]at u;cases u|some r=>exact⟨r,rfl⟩
   have F:r.ok t.p.length:=w.ok r (RU hr);have sl:aL (runN T G (k+20)) G JQ (s70 a (.p (dG t.p)) Z n d.en sm mo th (aa (.p (.int i))) (aa (.p (d.f i).enc)) V U M J B) Y=aa (.p (.aC (r.pcs.map Pc.enc)),Y):=by
    have i1:dM (dG t.p) (.int ((d.f i).row:Int))=aa r.enc:=by unfold dG;rw[gX,jm,Sa,hr];rfl
    have e1:aL (runN T G (k+20)) G (.y (.v 1) (.y (.v 9) (.j (.int 0)))) (s70 a (.p (dG t.p)) Z n d.en sm mo th (aa (.p (.int i))) (aa (.p (d.f i).enc)) V U M J B) Y=aa (.p r.enc,Y):=rN rfl (rN rfl rfl rfl) i1;have pc:=FZ r;generalize hx:E.y (.v 1) (.y (.v 9) (.j (.int 0)))=xe at e1;unfold JQ;rw[hx];simp[-qK,e1,rd,pc]
   have fr:evS (runN T G (k+20)) G JR (s70 a (.p (dG t.p)) Z n d.en sm mo th (aa (.p (.int i))) (aa (.p (d.f i).enc)) V U M J B) Y=eW (evS (runN T G (k+20)) G pM) [(10,"_law_part")] (r.pcs.map Pc.enc) (s70 a (.p (dG t.p)) Z n d.en sm mo th (aa (.p (.int i))) (aa (.p (d.f i).enc)) V U M J B) Y:=by have ap:jb [W.p (D.aC (r.pcs.map Pc.enc))]=ah:=rfl;simp[JR,sl,rd,rds,ap]
   have iq:evS (runN T G (k+20)) G JS (s70 a (.p (dG t.p)) Z n d.en sm mo th (aa (.p (.int i))) (aa (.p (d.f i).enc)) V U M J B) Y=_:=(CH g).trans fr;rw[iq];rcases p70 P.tp.prg L k N a (.p (dG t.p)) Z d.en sm mo th (aa (.p (.int i))) U M J B Y r.pcs V (λs z=>JW F z)with z|⟨⟨b,x⟩,K⟩
   exact .rt Y z
   ·refine .nx _ _ b Y x Q ⟨q,λ_ r' e m hm=>?_⟩;rw[hr]at e;cases e;exact K m (F0 r hm)
  ·rw[bN c]at g;exact .nx _ _ _ Y (mJ g) Q ⟨q,λz=>bL z c⟩
theorem l70(P:TrP T G)(L:rQ T)(k:Nat)(s:Wf t){d:Nd}(hd:t.ds[0]?=aa d)(Z Y:W){sm:Sm}(o:jN sm)(mo:Nat)(th:Th)(O M J D:Option W):∀(r j:Nat)(a V B:Option W)(h:HH),j+r=d.en+1->jw Pt h n t ro rb →
 R70 Pt n t ro rb (eW (evS (runN T G (k+20)) G rP) [(8,"_law_at")] (upto (j:Int) r) (s70 Z (.p (dG t.p)) Y n d.en sm mo th a V B O M J D) h) (λf c U=>s70 Z (.p (dG t.p)) Y n d.en sm mo th f c U O M J D) (∀i,j<=i->i<=d.en->Nu t d d.en sm th i)
 |0,j,a,V,B,h,hj,A=>.nx a V B h rfl A (λi x l=>bL l (by lia))
 |r+1,j,a,V,B,h,hj,A=>by
  rw[xw];have y:eW (evS (runN T G (k+20)) G rP) [(8,"_law_at")] (.int (j:Int)::upto ((j+1:Nat):Int) r) (s70 Z (.p (dG t.p)) Y n d.en sm mo th a V B O M J D) h=jv (evS (runN T G (k+20)) G rP (s70 Z (.p (dG t.p)) Y n d.en sm mo th (aa (.p (.int j))) V B O M J D) h) (eW (evS (runN T G (k+20)) G rP) [(8,"_law_at")] (upto ((j+1:Nat):Int) r)):=rfl;rw[y];cases a70 P L k s hd Z Y o mo th V B O M J D A (i:=j) (by lia)with
  |rt g e=>exact .rt g (by rw[e];rfl)
  |nx f c U g e E q =>
   rw[e,fU];cases l70 P L k s hd Z Y o mo th O M J D r (j+1) f c U g (by lia) E with
   |rt m e2=>exact .rt m e2
   |nx v u b m e2 C w =>
    refine .nx v u b m e2 C λi x l=>?_;rcases R0 j i with z|z
    exact w i z l
    ·have:i=j:=by lia
     subst this;exact q
end
def Qm:S:=(.seq (.set 11 (.aF (.v 3) "part" (Z6 (.j (.int 0)) (.v 6) (.v 7) (.j (.int 5000))))) (.seq (.v (.z .ne (.aF (.v 3) "end" (Z9 (.v 11))) (.v 4)) (.ret (.j (.bl ai))) .nil) (.seq (.set 12 JU) (.seq (.for [(8,"_law_at")] .rng2 (Z8 (.v 6) (.bin .add (.v 4) (.j (.int 1)))) um) (.ret JV)))))
def hd3(st:St):D:=.aC [.int st.row,.aC (cZ st.calls),.int st.aG,.aC (cV st.said)]
def F2(st:St):dok 100 (hd3 st)=ah:=by simp[hd3,qH,lF,oJ]
noncomputable def thA:List Th:=[.nm .a,.nm .b,.nm .c,.nm .d,.nm .e,.nm .f,.cl 0 (by decide),.cl 1 (by decide),.cl 2 (by decide),.cl 3 (by decide)]
def Sim.hd{th:Th}{v:Int}{a b:St}(s:Sim th v a b):hd3 b=hd3 a:=by obtain⟨J,D,B,q⟩:=s.Nk;unfold hd3;rw[J,D,B,q]
def Sim.oth{th q:Th}{v:Int}{a b:St}(s:Sim th v a b)(h:q≠th):q.val b=q.val a:=by
 rcases s with z|z
 rw[z];rw[z];exact vo v (SM h)
def Sim.own{th:Th}{v:Int}{a b:St}(s:Sim th v a b)(z:Szd a):th.val b=v\/th.val b=th.val a:=by
 rcases s with q|q
 right;rw[q];left;rw[q];exact FJ z v th
def F3{th:Th}{v:Int}{a b:St}{p:Pg}{M e:Nat}(R:Run a p aG M e)(S:∀k,k<=e->Sim th v (itr a p aG k) (itr b p aG k)):Run b p aG M e :=
 ⟨R.le,λi q=>by rw[(S i (Ub q)).over p];exact R.on i q,R.last.imp id λz=>by rw[(S e (RQ _)).over p];exact z⟩
section
variable{T:FK->Option Fn}{G:ay->Option W}{Pt:Pts}{n:Nat}{ro rb:Nat}{t:Tr}
def GR(F:FK->List W->HH->Option (W×HH)){j:Nat}{s:Sl}{st:St}(D:s[j]?=aa (aa (.p st.enc)))(h:HH):aL F G (.bin .add (.aC (.cons (.y (.v j) (.j (.int 0))) .nil)) (.n (.v j) (.cons (.j (.int 3)) .nil) .nil)) s h=aa (.p (hd3 st),h):=by
 have e1:aL F G (.v j) s h=aa (.p st.enc,h):=by simp[D]
 have e2:aL F G (.y (.v j) (.j (.int 0))) s h=aa (.p (.int st.row),h):=rN e1 rfl rfl;have B:aL F G (.n (.v j) (.cons (.j (.int 3)) .nil) .nil) s h=aa (.p (.aC [.aC (cZ st.calls),.int st.aG,.aC (cV st.said)]),h):=by have c:qF st.enc (aa 3) af=aa (.aC [.aC (cZ st.calls),.int st.aG,.aC (cV st.said)]):=rfl;generalize E.v j=x at e1;simp[-qK,e1,rd,c]
 have q:aL F G (.aC (.cons (.y (.v j) (.j (.int 0))) .nil)) s h=aa (.p (.aC [.int st.row]),h):=by generalize E.y (.v j) (.j (.int 0))=x at e2;simp[e2,rds,rd,dH]
 generalize E.aC _=x at q;generalize E.n _ _ _=y at B;simp[q,B,rd,hd3]
def b70(P:TrP T G)(L:rQ T)(k:Nat)(l:Wf t){d x:Nd}(hd:t.ds[0]?=aa d)(F:t.ds[1]?=aa x)(H:x.en=d.en)(Y V U:W){sm:Sm}(u:jN sm)(mo:Nat)(th:Th)(O B s r:Option W){h:HH}(A:jw Pt h n t ro rb){i:Nat}(hi:i<=d.en)(S:Sim th 5000 (d.f i) (x.f i))(nr:th∉sm.rds (d.f i)):
 ∃M J g,evS (runN T G (k+20)) G um (s70 Y V U n d.en sm mo th (aa (.p (.int i))) O B (aa (.p (.int 1))) (aa (.p (.aB (thA.map Th.enc)))) s r) h=aa (.nx (s70 Y V U n d.en sm mo th (aa (.p (.int i))) O B (aa (.p (.int 1))) (aa (.p (.aB (thA.map Th.enc)))) M J) g)/\jw Pt g n t ro rb:=by
 obtain⟨bs,K⟩:=id A;obtain⟨e,b1,A1⟩:=lJ P l K (k+8) hd hi;obtain⟨bs1,b⟩:=id A1;obtain⟨g2,b2,A2⟩:=lJ P l b (k+8) F (by rw[H];exact hi);have a:=(l.at_ hd hi).ok;have Z:=(l.at_ F (by rw[H];exact hi)).ok;refine⟨aa (.p (d.f i).enc),aa (.p (x.f i).enc),g2,?_,A2⟩;have x1:∀M J,aL (runN T G (k+20)) G (.aF (.v 3) "at" (.cons (.j (.int 0)) (.cons (.v 8) .nil))) (s70 Y V U n d.en sm mo th (aa (.p (.int i))) O B (aa (.p (.int 1))) (aa (.p (.aB (thA.map Th.enc)))) M J) h=aa (.p (d.f i).enc,e):=λM J=>by have C:runN T G (k+20) (.m "Tree" "at") [.o n,.p (.int 0),.p (.int i)] h=aa (.p (d.f i).enc,e):=b1;simp[s70,K.ob,C]
 have x2:∀M J,aL (runN T G (k+20)) G (.aF (.v 3) "at" (.cons (.v 11) (.cons (.v 8) .nil))) (s70 Y V U n d.en sm mo th (aa (.p (.int i))) O B (aa (.p (.int 1))) (aa (.p (.aB (thA.map Th.enc)))) M J) e=aa (.p (x.f i).enc,g2):=λM J=>by have w:runN T G (k+20) (.m "Tree" "at") [.o n,.p (.int 1),.p (.int i)] e=aa (.p (x.f i).enc,g2):=b2;simp[s70,b.ob,w]
 have X:aL (runN T G (k+20)) G Np (s70 Y V U n d.en sm mo th (aa (.p (.int i))) O B (aa (.p (.int 1))) (aa (.p (.aB (thA.map Th.enc)))) (aa (.p (d.f i).enc)) (aa (.p (x.f i).enc))) g2=aa (.p (.bl ai),g2) :=
  fF (GR _ rfl g2) (GR _ rfl g2) (by rw[S.hd];exact ne_self (F2 _))
 have R:aL (runN T G (k+20)) G Nq (s70 Y V U n d.en sm mo th (aa (.p (.int i))) O B (aa (.p (.int 1))) (aa (.p (.aB (thA.map Th.enc)))) (aa (.p (d.f i).enc)) (aa (.p (x.f i).enc))) g2=aa (.p (.bl ai),g2):=by have s15:=u.2;refine fF (gG rfl rfl (dY P.tp.prg (k+16) sm (by lia) u.1 _ a g2)) (gG rfl rfl (dY P.tp.prg (k+16) sm (by lia) u.1 _ Z g2)) ?_;rw[S.val sm nr];exact ne_self (qG _ _)
 have Q:aL (runN T G (k+20)) G Nr (s70 Y V U n d.en sm mo th (aa (.p (.int i))) O B (aa (.p (.int 1))) (aa (.p (.aB (thA.map Th.enc)))) (aa (.p (d.f i).enc)) (aa (.p (x.f i).enc))) g2=aa (.p (.bl ai),g2):=by
  have I:eH (iC (evs (runN T G (k+20)) G (.cons JT .nil)) (aL (runN T G (k+20)) G (.v 0)) [aa (.p th.enc),aa (.p (d.f i).enc),aa (.p (x.f i).enc)]) 1 (thA.map Th.enc) g2=aa (thA.filterMap λ_=>af,g2):=by
   refine Ct _ Th.enc _ g2 thA λo _=>?_;have sl:([Th.enc o].map gn++[aa (.p th.enc),aa (.p (d.f i).enc),aa (.p (x.f i).enc)]:Sl)=[aa (.p o.enc),aa (.p th.enc),aa (.p (d.f i).enc),aa (.p (x.f i).enc)]:=rfl;have c:aL (runN T G (k+20)) G JT [aa (.p o.enc),aa (.p th.enc),aa (.p (d.f i).enc),aa (.p (x.f i).enc)] g2=aa (.p (.bl ai),g2):=by
    by_cases z:o=th
    ·subst z;exact CK (fF rfl rfl (ne_self (vB o)))
    ·have n1:gi .ne o.enc th.enc=aa ah:=by
      rw[kW,bJ (iQ (vB th))];cases q:eqv o.enc th.enc with
      |false=>rfl|true=>exact bL (Th.xB q) z
     refine CM (fF rfl rfl n1) (fF (gG rfl rfl (rL L.of a o (k+19) g2)) (gG rfl rfl (rL L.of Z o (k+19) g2)) ?_);rw[S.oth z];exact ne_self (qG _ _)
   unfold iC;rw[sl];simp[evs,c]
  have fm:(thA.filterMap λ_=>(af:Option D))=[]:=by simp[List.filterMap_eq_nil_iff]
  rw[fm]at I;refine fF (xm (ws:=[.p (.aB (thA.map Th.enc))]) (h1:=g2) rfl rfl rfl rfl I (SV _)) (y:=.aB []) (g2:=g2) ?_ (ne_self rfl);simp[rds,dH]
 have N:aL (runN T G (k+20)) G Nt (s70 Y V U n d.en sm mo th (aa (.p (.int i))) O B (aa (.p (.int 1))) (aa (.p (.aB (thA.map Th.enc)))) (aa (.p (d.f i).enc)) (aa (.p (x.f i).enc))) g2=aa (.p (.bl ai),g2):=by
  refine fF (gG rfl rfl (rL L.of Z th (k+19) g2)) (y:=.aC [.int 5000,.int (th.val (d.f i))]) (g2:=g2) ?_ ?_
  ·have c:aL (runN T G (k+20)) G (.call "_law_of" (.cons (.v 13) (.cons (.v 7) .nil))) (s70 Y V U n d.en sm mo th (aa (.p (.int i))) O B (aa (.p (.int 1))) (aa (.p (.aB (thA.map Th.enc)))) (aa (.p (d.f i).enc)) (aa (.p (x.f i).enc))) g2=aa (.p (.int (th.val (d.f i))),g2):=gG rfl rfl (rL L.of a th (k+19) g2);generalize E.call _ _=y at c;simp[c,rds,rd,dH]
  ·rw[gD,bJ (by simp)];rcases S.own ⟨a.nlen,a.clen⟩with z|z<;>rw[z]<;>simp
 exact(gr (x1 _ _)).trans ((gr (x2 _ _)).trans ((qk (mJ (Nj X R))).trans ((qk (mJ Q)).trans (mJ N))))
theorem m70(P:TrP T G)(L:rQ T)(k:Nat)(o:Wf t){d x:Nd}(hd:t.ds[0]?=aa d)(e:t.ds[1]?=aa x)(m:x.en=d.en)(Y V U:W){sm:Sm}(l:jN sm)(mo:Nat)(th:Th)(O D:Option W)(S:∀i,mo<=i->i<=d.en->Sim th 5000 (d.f i) (x.f i))(c:∀i,mo<=i->i<=d.en->th∉sm.rds (d.f i)):∀(r j:Nat)(Z B q:Option W)(h:HH),mo<=j->j+r=d.en+1->jw Pt h n t ro rb →
 ∃u M J g,eW (evS (runN T G (k+20)) G um) [(8,"_law_at")] (upto (j:Int) r) (s70 Y V U n d.en sm mo th Z O D (aa (.p (.int 1))) (aa (.p (.aB (thA.map Th.enc)))) B q) h=aa (.nx (s70 Y V U n d.en sm mo th u O D (aa (.p (.int 1))) (aa (.p (.aB (thA.map Th.enc)))) M J) g)/\jw Pt g n t ro rb
 |0,j,Z,B,q,h,_,_,A=>⟨Z,B,q,h,rfl,A⟩
 |r+1,j,Z,B,q,h,hm,hj,A=>by rw[xw];obtain⟨M,J,w,C,F⟩:=b70 P L k o hd e m Y V U l mo th O D B q A (i:=j) (by lia) (S j hm (by lia)) (c j hm (by lia));obtain⟨s,b,a,v,z,E⟩:=m70 P L k o hd e m Y V U l mo th O D S c r (j+1) (aa (.p (.int j))) M J w (by lia) (by lia) F;refine⟨s,b,a,v,?_,E⟩;have y:eW (evS (runN T G (k+20)) G um) [(8,"_law_at")] (.int (j:Int)::upto ((j+1:Nat):Int) r) (s70 Y V U n d.en sm mo th Z O D (aa (.p (.int 1))) (aa (.p (.aB (thA.map Th.enc)))) B q) h=jv (evS (runN T G (k+20)) G um (s70 Y V U n d.en sm mo th (aa (.p (.int j))) O D (aa (.p (.int 1))) (aa (.p (.aB (thA.map Th.enc)))) B q) h) (eW (evS (runN T G (k+20)) G um) [(8,"_law_at")] (upto ((j+1:Nat):Int) r)):=rfl;rw[y,C,fU,z]
def z70(P:TrP T G)(L:rQ T)(k:Nat)(C:Wf t){d x:Nd}(hd:t.ds[0]?=aa d)(Y:t.ds[1]?=aa x)(N:x.en=d.en)(E:x.par=0)(F:∀j,j<x.fi->x.f j=d.f j)(a:x.fi<=d.en)(R:d.fi=0)(r l i:W)(sm:Sm)(th:Th)(e c U O M J:Option W){h:HH}(A:jw Pt h n t ro rb):
 ∃g,aL (runN T G (k+20)) G JV (s70 r l i n d.en sm x.fi th e c U (aa (.p (.int 1))) O M J) h=aa (.p (.bl ah),g):=by
 obtain ⟨bs,X⟩:=id A;have H:Pth t 1 [1,0]:=.step Y (by decide) (by rw[E];exact .zero);have w:fiN t 0=0:=(vz hd).trans R;have u:fiN t 1=x.fi:=vz Y;obtain ⟨V,I,_,g,b,_⟩:=yZ P L.path L.ap C A (k+6) (vA P L.found C (k+6)) hd Y .zero H (by decide) (λy K=>by
  simp at K;have:y=0\/y=1:=by lia
  rcases this with z|z
  subst z;rw[w];exact⟨SV _,SV _⟩
  ·subst z;rw[u,N];exact ⟨a,a⟩)
 refine⟨g,?_⟩;have e1:aL (runN T G (k+20)) G (.aF (.v 3) "apart" (.cons (.j (.int 0)) (.cons (.v 11) .nil))) (s70 r l i n d.en sm x.fi th e c U (aa (.p (.int 1))) O M J) h=aa (.p (apD (V.find? (dfr d x))),g):=by have S:runN T G (k+20) (.m "Tree" "apart") [.o n,.p (.int 0),.p (.int 1)] h=aa (.p (apD (V.find? (dfr d x))),g):=b;simp[s70,X.ob,S]
 refine fF e1 (y:=.aC [.aD,.int (x.fi:Int)]) (g2:=g) ?_ ?_;simp[s70,rds,rd,dH]
 ·have ok:∀o,([D.aD,.int (x.fi:Int)].all λy=>d7 y (apD o))=ah:=λo=>List.all_eq_true.mpr λy _=>iQ (by cases o<;>rfl);rw[gk,bJ (ok _)];cases o:V.find? (dfr d x)with
  |none=>simp[apD]
  |some m =>
   have s:=List.mem_of_find?_eq_some o;have B:=List.find?_some o;rw[I m]at s;simp[w,u]at s;have Z:m=0\/m=x.fi:=by lia
   have Q:m=x.fi:=by
    rcases Z with z|z
    ·subst z;rcases UQ x.fi with q|q
     exact q.symm
     ·exfalso;unfold dfr fnd at B;rw[bJ (SV _),bJ (SV _),F 0 q,jP]at B;simp at B
    exact z
   subst Q;simp[apD]
def Nv{F:FK->List W->HH->Option (W×HH)}{a b:S}{s:Sl}{h g:HH}{w:W}(h1:evS F G a s h=aa (.rt w g)):evS F G (.seq a b) s h=aa (.rt w g):=by simp[h1]
def zb(P:TrP T G)(L:rQ T)(ns:List Int)(H:ns.length<=1000)(k:Nat):∃h',runN T G (k+21) "law" [.p (.aB (cV ns))] []=aa (.p (.bl ah),h'):=by
 obtain⟨pg,dp,rp⟩:=tY (G:=G) L.lw L.program ns H 20;obtain⟨J,ha,_,ra⟩:=yP (G:=G) L.lw ns H 450;obtain⟨q,hm,dm⟩:=l7 (G:=G) L.lw ns H 440 15 (by lia);obtain⟨sm,so,ss,rs⟩:=rH (G:=G) L.lw ns H 2 460;have hs:jN sm:=⟨so,by have:(2:Nat)^(2+1)=8:=rfl;lia⟩;obtain⟨e,R,_⟩:=Fz St.zero pg J q;have b1:=CD P (k+16) pg J q e [];have A1:=CF (Pt:=pt0) (h:=[]) dp.ok ha (by lia:q<=100) R (λi c z=>gW z);have I:=JI dp.ok ha (by lia:q<=100) R;have hd:(Tr.new pg J q e).ds[0]?=aa ⟨0,0,St.zero,e,itr St.zero pg J⟩:=rfl;obtain⟨bs1,A10⟩:=id A1;obtain⟨M,b2,A2⟩:=uf P I A10 (k+10) hd;have en:Nd.en ⟨0,0,St.zero,e,itr St.zero pg J⟩=e:=by show 0+e=e;lia
 obtain⟨B,hmo,dmo⟩:=l7 (G:=G) L.lw ns H 443 ((e:Int)+1) (by lia);obtain⟨th,rt⟩:=yT (G:=G) L.lw L.thing ns H 442;have el:=R.le;have src:iR .rng2 [.int (B:Int),.int ((e:Int)+1)]=aa (upto (B:Int) (e+1-B)):=by
  rw[lQ];have c:((-100000<=(B:Int):Bool)&&((B:Int)<=100000:Bool)&&((-100000<=((e:Int)+1):Bool))&&((((e:Int)+1)<=100000:Bool)))=ah:=by simp only[RK,bM];lia
  rw[bJ c];congr 2;lia
 have fr:∀(b:S)(w1 w2:W)(x8 x9 d a Z Y V:Option W)(h:HH),evS (runN T G (k+20)) G (.for [(8,"_law_at")] .rng2 (.cons (.v 6) (.cons (.bin .add (.v 4) (.j (.int 1))) .nil)) b) (s70 (.p (.aB (cV ns))) w1 w2 0 e sm B th x8 x9 d a Z Y V) h=eW (evS (runN T G (k+20)) G b) [(8,"_law_at")] (upto (B:Int) (e+1-B)) (s70 (.p (.aB (cV ns))) w1 w2 0 e sm B th x8 x9 d a Z Y V) h:=λb w1 w2 x8 x9 d a Z Y V h=>by
  have ap:jb [W.p (D.int (B:Int)),W.p (D.int ((e:Int)+1))]=ah:=rfl;have es:evs (runN T G (k+20)) G (.cons (.v 6) (.cons (.bin .add (.v 4) (.j (.int 1))) .nil)) (s70 (.p (.aB (cV ns))) w1 w2 0 e sm B th x8 x9 d a Z Y V) h=aa ([W.p (D.int (B:Int)),W.p (D.int ((e:Int)+1))],h):=by simp[s70,rd]
  show bnd (evs _ G _ _ h) _=_;rw[es,eS];simp[-lQ,rds,rd,src,ap]
 have z1:∀x,aL (runN T G (k+20)) G (.call "_law_program" (.cons (.v 0) (.cons (.j (.int 20)) .nil))) (aa (.p (.aB (cV ns)))::x) []=aa (.p (dG pg),[]):=λx=>by have:=rp (k+13) [];simp[this]
 have z2:∀x,aL (runN T G (k+20)) G (.call "_law_asked" (.cons (.v 0) (.cons (.j (.int 450)) .nil))) (aa (.p (.aB (cV ns)))::x) []=aa (.p (.aB (cV J)),[]):=λx=>by have:=ra (k+17) [];simp[this]
 have z3:∀x,∃w,w=([.o "Tree" (tfs (Tr.new pg J q e) 1 5),.l [.aD],.o "Branch" ((Tp.new pg J St.zero q).fs 4),.l [St.zero.enc],.l [St.zero.enc],.b [2]]:HH)/\aL (runN T G (k+20)) G (.make "Tree" (.cons (.v 1) (.cons (.v 2) (.cons (.call "_law_drawn" (.cons (.v 0) (.cons (.j (.int 440)) (.cons (.j (.int 15)) .nil)))) .nil)))) (aa (.p (.aB (cV ns)))::aa (.p (dG pg))::aa (.p (.aB (cV J)))::x) []=aa (.o 0,w):=λx=>by refine⟨_,rfl,?_⟩;have d1:=dm (k+18) [];have b1':runN T G (k+20) (.m "Tree" "__init__") [.o 0,.p (dG pg),.p (.aB (cV J)),.p (.int q)] [.o "Tree" []]=aa (.p .aD,[.o "Tree" (tfs (Tr.new pg J q e) 1 5),.l [.aD],.o "Branch" ((Tp.new pg J St.zero q).fs 4),.l [St.zero.enc],.l [St.zero.enc],.b [2]]):=b1;simp[d1,b1']
 obtain⟨w,X,z3⟩:=z3 [af,af,af,af,af,af,af,af,af,af,af,af];have z4:aL (runN T G (k+20)) G (.aF (.v 3) "end" (.cons (.j (.int 0)) .nil)) [aa (.p (.aB (cV ns))),aa (.p (dG pg)),aa (.p (.aB (cV J))),aa (.o 0),af,af,af,af,af,af,af,af,af,af,af] w=aa (.p (.int e),M):=by
  have b2':runN T G (k+20) (.m "Tree" "end") [.o 0,.p (.int 0)] w=aa (.p (.int e),M):=by rw[←en,X];exact b2
  have ob:oat w 0=aa (RV "Tree",tfs (Tr.new pg J q e) 1 5):=by rw[X];rfl
  simp[ob,b2']
 have z5:aL (runN T G (k+20)) G (.call "_law_sum" (.cons (.v 0) (.cons (.j (.int 460)) (.cons (.j (.int 2)) .nil)))) [aa (.p (.aB (cV ns))),aa (.p (dG pg)),aa (.p (.aB (cV J))),aa (.o 0),aa (.p (.int e)),af,af,af,af,af,af,af,af,af,af] M=aa (.p sm.enc,M):=by have N:runN T G (k+20) "_law_sum" [.p (.aB (cV ns)),.p (.int 460),.p (.int 2)] M=aa (.p sm.enc,M):=rs (k+15) M;simp[N]
 have z6:aL (runN T G (k+20)) G (.call "_law_drawn" (.cons (.v 0) (.cons (.j (.int 443)) (.cons (.bin .add (.v 4) (.j (.int 1))) .nil)))) [aa (.p (.aB (cV ns))),aa (.p (dG pg)),aa (.p (.aB (cV J))),aa (.o 0),aa (.p (.int e)),aa (.p sm.enc),af,af,af,af,af,af,af,af,af] M=aa (.p (.int B),M):=by have N:runN T G (k+20) "_law_drawn" [.p (.aB (cV ns)),.p (.int 443),.p (.int ((e:Int)+1))] M=aa (.p (.int B),M):=dmo (k+18) M;simp[rd,N]
 have z7:aL (runN T G (k+20)) G (.call "_law_thing" (.cons (.v 0) (.cons (.j (.int 442)) .nil))) [aa (.p (.aB (cV ns))),aa (.p (dG pg)),aa (.p (.aB (cV J))),aa (.o 0),aa (.p (.int e)),aa (.p sm.enc),aa (.p (.int B)),af,af,af,af,af,af,af,af] M=aa (.p th.enc,M):=by have N:runN T G (k+20) "_law_thing" [.p (.aB (cV ns)),.p (.int 442)] M=aa (.p th.enc,M):=rt (k+17) M;simp[N]
 have top:∀y,evS (runN T G (k+20)) G (.seq (.for [(8,"_law_at")] .rng2 (.cons (.v 6) (.cons (.bin .add (.v 4) (.j (.int 1))) .nil)) rP) Qm) (s70 (.p (.aB (cV ns))) (.p (dG pg)) (.p (.aB (cV J))) 0 e sm B th af af af af af af af) M=aa (.rt (.p (.bl ah)) y)->∃h',runN T G (k+21) "law" [.p (.aB (cV ns))] []=aa (.p (.bl ah),h'):=λy hy=>by
  obtain⟨h6,f6,_⟩:=l9 [] (.bl ah) y;refine⟨h6,?_⟩;have bd:evS (runN T G (k+20)) G i6.body (fJ i6.ns.length [.p (.aB (cV ns))]) []=aa (.rt (.p (.bl ah)) y) :=
   (gr (z1 _)).trans ((gr (z2 _)).trans ((gr z3).trans ((gr z4).trans ((gr z5).trans ((gr z6).trans ((gr z7).trans hy))))))
  rw[run_eq L.law rfl,bd,mX,f6]
 have f1:=fr rP (.p (dG pg)) (.p (.aB (cV J))) af af af af af af af M;have lp:=l70 (t:=Tr.new pg J q e) (n:=0) (ro:=1) (rb:=5) (Pt:=pt0) P L k I hd (.p (.aB (cV ns))) (.p (.aB (cV J))) hs B th af af af af (e+1-B) B af af af M (by rw[en];lia) A2;rw[en]at lp;cases lp with
 |rt g eq=>exact top g (Nv (f1.trans eq))
 |nx F A U g eq A3 nr =>
  have Q:B<=e:=by lia
  have O:=I.each 0 _ hd;have R2:=R.shift Q;have K:∀j,j<=e-B->Sim th 5000 (itr (itr St.zero pg J B) pg J j) (itr (th.put (itr St.zero pg J B) 5000) pg J j):=λj hj=>by refine xA (.inr rfl) pg J j λi hi r hr m hm=>?_;rw[lK]at hr⊢;exact(nr (B+i) (by lia) (by lia)).2 (by lia) r hr m hm
  have R3:Run (th.put (itr St.zero pg J B) 5000) pg J (q-B) (e-B):=F3 R2 K;have a0:At B (itr St.zero pg J B):=I.at_ hd (by rw[en];exact Q);have w5:Wth 5000:=by constructor<;>decide
  obtain⟨bs3,A30⟩:=id A3;obtain⟨g4,b4,A4⟩:=CG P I A30 (k+7) hd (m:=B) (by rw[en];exact Q) th w5 R3;have W2:=JJ I hd (m:=B) (by rw[en];exact Q) (a0.put w5 th) R3 (show 1<100 by decide) (th:=th) (v:=5000) rfl;generalize u:Nd.of (Tr.new pg J q e) 0 B ⟨0,0,St.zero,e,itr St.zero pg J⟩ (th.put (itr St.zero pg J B) 5000) (e-B)=x at A4 W2;have x1:x.par=0:=by rw[←u];rfl
  have x2:x.fi=B:=by rw[←u];rfl
  have x3:x.en=e:=by rw[←u];show B+(e-B)=e;lia
  have x4:∀j,x.f j=if j<B then itr St.zero pg J j else itr (th.put (itr St.zero pg J B) 5000) pg J (j-B):=λj=>by rw[←u];rfl
  have C:((Tr.new pg J q e).add x).ds[0]?=aa ⟨0,0,St.zero,e,itr St.zero pg J⟩:=rfl;have s:((Tr.new pg J q e).add x).ds[1]?=aa x:=rfl;generalize ht:(Tr.new pg J q e).add x=t2 at A4 W2 C s;obtain⟨bs4,A40⟩:=id A4;have b4':runN T G (k+20) (.m "Tree" "part") [.o 0,.p (.int 0),.p (.int B),.p th.enc,.p (.int 5000)] g=aa (.p (.int 1),g4):=b4;obtain⟨E,b5,A5⟩:=uf P W2 A40 (k+10) s;rw[x3]at b5;have y1:aL (runN T G (k+20)) G (.aF (.v 3) "part" (.cons (.j (.int 0)) (.cons (.v 6) (.cons (.v 7) (.cons (.j (.int 5000)) .nil))))) (s70 (.p (.aB (cV ns))) (.p (dG pg)) (.p (.aB (cV J))) 0 e sm B th F A U af af af af) g=aa (.p (.int 1),g4):=by simp[s70,A30.ob,b4']
  have y2:aL (runN T G (k+20)) G (.z .ne (.aF (.v 3) "end" (.cons (.v 11) .nil)) (.v 4)) (s70 (.p (.aB (cV ns))) (.p (dG pg)) (.p (.aB (cV J))) 0 e sm B th F A U (aa (.p (.int 1))) af af af) g4=aa (.p (.bl ai),E):=by
   have b5':runN T G (k+20) (.m "Tree" "end") [.o 0,.p (.int 1)] g4=aa (.p (.int e),E):=b5;have e1:aL (runN T G (k+20)) G (.aF (.v 3) "end" (.cons (.v 11) .nil)) (s70 (.p (.aB (cV ns))) (.p (dG pg)) (.p (.aB (cV J))) 0 e sm B th F A U (aa (.p (.int 1))) af af af) g4=aa (.p (.int e),E):=by simp[s70,A40.ob,b5']
   exact fF e1 rfl (ne_self (qG _ _))
  have y3:aL (runN T G (k+20)) G JU (s70 (.p (.aB (cV ns))) (.p (dG pg)) (.p (.aB (cV J))) 0 e sm B th F A U (aa (.p (.int 1))) af af af) E=aa (.p (.aB (thA.map Th.enc)),E):=rfl;have S2:∀i,B<=i->i<=e->Sim th 5000 (itr St.zero pg J i) (x.f i):=λi w M=>by rw[x4 i,bK (by lia)];have:=K (i-B) (by lia);rw[lK,show B+(i-B)=i by lia]at this;exact this
  have mp:=m70 (n:=0) (ro:=1) (rb:=5) (Pt:=pt0) P L k W2 C s (by rw[en];exact x3) (.p (.aB (cV ns))) (.p (dG pg)) (.p (.aB (cV J))) hs B th A U (by rw[en];exact S2) (by rw[en];exact λi w M=>(nr i w M).1) (e+1-B) B F af af E (RQ _) (by rw[en];lia) A5;rw[en]at mp;obtain⟨u8,u13,u14,g6,b6,A6⟩:=mp;have zz:=z70 (n:=0) (ro:=1) (rb:=5) (Pt:=pt0) P L k W2 C s (by rw[en];exact x3) x1 (λj hj=>by rw[x4 j,bJ (by lia)]) (by rw[en,x2];exact Q) rfl (.p (.aB (cV ns))) (.p (dG pg)) (.p (.aB (cV J))) sm th u8 A U (aa (.p (.aB (thA.map Th.enc)))) u13 u14 A6;rw[en,x2]at zz;obtain⟨g7,b7⟩:=zz;have f2:=fr um (.p (dG pg)) (.p (.aB (cV J))) F A U (aa (.p (.int 1))) (aa (.p (.aB (thA.map Th.enc)))) af af E;exact top g7 ((qk (f1.trans eq)).trans ((gr y1).trans ((qk (mJ y2)).trans ((gr y3).trans ((qk (f2.trans b6)).trans (l5 b7))))))
end
end BT
end
section
namespace BF
open PySem PySem.Spec PyProof.Rows L2 BS
variable{K:RB}
def vC(P:Sb)(w:SH)(K:RB)(mg:ay->Option aA)(x:ay)(z:aN):Prop:=∃u v,mg x=aa u/\RelV v u/\∀m H,RW P w K m H v z
def CW(X:K.In h)(G:h.Ns R8 mg)(a:SN K R8 x=aa (aa (.int n t))):vC P w K mg x (.p (.int n)) :=
 ⟨_,.int n,UH X G a,⟨t,rfl⟩,λ_ _=>.p (.int n)⟩
inductive gh:List ay->List aA->Prop
 |nil:gh [] []
 |cons{x:ay}{xs:List ay}{t:Tok}{vs:List aA}(h:PyData.strOk x=ah)(r:gh xs vs):gh (x::xs) (.str x t::vs)
theorem gh.vals:∀{xs:List ay}{vs:List aA},gh xs vs->dg (xs.map V.str) vs
 |_,_,.nil=>.nil|_,_,.cons _ r=>.cons ⟨_,rfl⟩ r.vals
theorem gh.rds{K:RB}:∀{xs:List ay}{vs:List aA},gh xs vs->RDs K m H (xs.map V.str) (xs.map aM.str)
 |_,_,.nil=>.nil|_,_,.cons h r=>.cons (.str _ h) r.rds
theorem gh.len:∀{xs:List ay}{vs:List aA},gh xs vs->vs.length=xs.length
 |_,_,.nil=>rfl
 |_,_,.cons _ r=>by simp[r.len]
def CY(X:K.In h)(G:h.Ns R8 mg)(a:SN K R8 x=aa (aa (.ref f)))
(l:K.lookup f=aa ⟨.type "tuple",af,.seq its n,sl⟩)(q:xs.length<=1000)(r:gh xs its.toList):vC P w K mg x (.p (.aC (xs.map aM.str))):=by
 refine⟨_,.ref f,UH X G a,rfl,λm H=>.p (.aC (.inr ⟨_,its,n,⟨l,rfl,rfl,?_,r.vals⟩,rfl⟩) r.rds)⟩;have:=r.len;have e:its.size=xs.length:=by rw[←this];simp
 rw[e];exact Ub (xW q)
inductive iP(w:SH):List (ay×Int)->List WK->Prop
 |nil:iP w [] []
 |cons{x:ay}{n:Int}{kvs:List (ay×Int)}{t u:Tok}{es:List WK}(r:iP w kvs es):iP w ((x,n)::kvs) (⟨PyData.keyHash w.params x,.str x t,.int n u⟩::es)
theorem iP.ex:∀{kvs:List (ay×Int)}{es:List WK},iP w kvs es->∃vs:List (Key×aA),KV ((kvs.map λq=>(q.1,V.int q.2)).map λq=>((Sum.inr q.1:Key),q.2)) vs/\Pairs (dF P w) es vs/\vs.map (·.1)=kvs.map (λq=>(Sum.inr q.1:Key))/\(∀e∈es,∃k,(dF P w).is k e.key=ah/\e.hash=(dF P w).hash k)
 |_,_,.nil=>⟨[],.nil,.nil,rfl,λe B=>nomatch B⟩
 |_,_,@iP.cons _ x n kvs t u es r=>by
  obtain⟨vs,M,L,J,D⟩:=r.ex (P:=P);have is:(dF P w).is (Sum.inr x) (.str x t)=ah:=by show V7 x (.str x t)=ah;simp[V7]
  refine⟨(Sum.inr x,.int n u)::vs,.cons ⟨rfl,u,rfl⟩ M,.cons is rfl L,by simp[J],λe B=>?_⟩;rcases List.mem_cons.mp B with rfl|B
  exact⟨Sum.inr x,is,rfl⟩;exact D e B
def zc{P:Sb}{w:SH}{h:aq}{mg:ay->Option aA}(X:K.In h)(G:h.Ns R8 mg){x:ay}{f:az}{es:Array WK}{n:Nat}{kvs:List (ay×Int)}(a:SN K R8 x=aa (aa (.ref f)))
(l:K.lookup f=aa {cls:=.type "dict",data:=.dict es n})(W:(f==U4)=ai)(r:iP w kvs es.toList)(B:(kvs.map (·.1)).Nodup):vC P w K mg x (.k (.t (kvs.map λq=>(q.1,aM.int q.2)))):=by
 obtain⟨O,M,L,J,D⟩:=r.ex (P:=P);refine⟨_,.ref f,UH X G a,rfl,λm H=>.k (es:=kvs.map λq=>(q.1,V.int q.2)) ⟨W,O,M,λb Z=>⟨_,es,n,Z _ _ l,⟨rfl,rfl,rfl⟩,rfl,λe Y=>D e (by simpa using Y),L,?_⟩⟩ ?_⟩
 ·rw[J];have e:(kvs.map λq=>(Sum.inr q.1:Key))=(kvs.map (·.1)).map Sum.inr:=by simp
  rw[e];exact List.pairwise_map.mpr (B.imp λh z=>h (Sum.inr.inj z))
 ·clear r B M L J D l
  induction kvs with
  |nil=>exact .nil|cons q kvs U=>exact .cons (λ_ _=>.int _) U
noncomputable def look{κ q:Type}[DecidableEq κ](l:List (κ×q))(x:κ):Option q:=match l with
 |[]=>af
 |(y,a)::r=>if y=x then aa a else look r x
theorem jR{κ q:Type}[DecidableEq κ]{Q:κ->q->Prop}:∀{l:List (κ×q)} (_:∀p∈l,Q p.1 p.2) {x:κ}{a:q},look l x=aa a->Q x a
 |[],_,_,_,e=>by exact bI e
 |(y,b)::r,h,x,a,e=>by
  rw[look]at e;split at e
  ·rename_i z;cases e;subst z;exact h (y,b) RZ
  exact jR (λp B=>h p (RP _ B)) e
theorem fY{K:RB}:∀ns:List Int,RDs K m H (ns.map V.int) (BT.cV ns)
 |[]=>.nil|n::r=>.cons (.int n) (fY r)
def CZ(tb:TB K H)(B:LL K H a (ns.map V.int))(e:∃h',g [.p (.aB (BT.cV ns))] []=aa (.p (.bl ah),h')):spF P w K g [.ref a] H (λv _=>v=.bl ah) λ_ _ _=>False:=by obtain⟨h',e⟩:=e;refine⟨[],_,[],_,h',⟨VX,rfl,λi a D z=>by simp at z,tb⟩,.cons (.p (.aB (B.elim (λq=>.inl ⟨q,by simp⟩) .inr) (fY ns))) .nil,e,λv L J _ _ r=>lU r⟩
end BF
end
section
namespace BG
open PySem PySem.Spec PySem.Calls PyProof.Rows L2 BS BF
variable{K:RB}{st:W0}
def F4(H:∀p∈K,h.get? p.1=aa p.2):K.In h:=by
 intro a o e;obtain⟨p,D,B⟩:∃p∈K,p.1=a/\p.2=o:=by
  clear H
  induction K with
  |nil=>exact bI e
  |cons q r J =>
   rw[T3]at e;split at e
   ·rename_i c;cases e;exact⟨q,RZ,(bQ c).symm,rfl⟩
   ·obtain⟨p,D,B⟩:=J e;exact⟨p,RP _ D,B⟩
 rw[←B.1,←B.2];exact H p D
inductive Nx(K:RB)(x qual:ay)(st:W0)(f:az):Prop
 |mk(fd:Uv)(F:Fun K x qual st f fd)(kV doc pm:aA)(an:Option az)(cdv ct:aA)(e:fd=TV x qual (fR st) (dP st) (c6 st) .none kV doc pm an cdv ct):Nx K x qual st f
def C1(e:Dg K f=aa (vE x qual st)):Nx K x qual st f:=by
 unfold Dg at e;split at e
 ·rename_i Z Y O U l;have q:=RO e;unfold vE at q;obtain⟨nm,L,W,d,V,a,cl,b,B,D,pm,an,J,ct,c⟩:=O;simp only[FS.mk.injEq]at q;obtain⟨rfl,rfl,rfl,rfl,rfl,rfl,rfl,rfl,rfl,M⟩:=q;have F:=Hz (K:=K) (x:=nm) (qual:=L) (st:=st) (f:=f) (kV:=B) (doc:=D) (pm:=pm) (an:=an) (cdv:=J) (ct:=ct) l M (by simp only[Tw,l]);exact⟨_,F,B,D,pm,an,J,ct,rfl⟩
 exact bI e
def nth{q:Type}{l:List q}{a:q}(i:Nat)(h:l[i]?=aa a):a∈l:=RU h
noncomputable def uq(ns:List ay):Bool:=ns.all λn=>!(n.cps[0]?==aa 60)
def Ny(y:ay):(BT.jD y).cps[0]?=aa 60:=by show(((#[60]:Array Nat)++y.cps)++#[62])[0]?=aa 60;rw[←XM];simp
def C2(h:uq ns=ah)(y:ay):ns.contains (BT.jD y)=ai:=by
 cases e:ns.contains (BT.jD y)with
 |false=>rfl
 |true =>
  have:=List.all_eq_true.mp h _ (List.contains_iff_mem.mp e);rw[Ny]at this;exact aT this
def C3(h:uq fn.ns=ah):oB K q fd fn:=λy B=>by rw[C2 h y]at B;exact aT B
section
variable{K:RB}
def rR(e:refOf o=aa f):o=aa (aa (.ref f)):=by unfold refOf at e;split at e;cases e;rfl;exact bI e
def JY(X:K.In h)(G:h.Ns R8 mg)(e:fG K (.fn x f st)=fH w (.fn x f st))
(sc:fS fn.ns fn.ps (c6 st))(L:∀(kV doc pm:aA)(an:Option az)(cdv ct:aA)(us:List aA),us.length=fn.ps.length->Yq (TV x x (fR st) (dP st) (c6 st) .none kV doc pm an cdv ct) ⟨us,[]⟩=pure (fn.ps.zip us))
(M:CSs (c6 st) fn.ns fn.body (dP st))(tg:∀fd,SN K R8 x=aa (aa (.ref f))->(∃B q D,K.lookup f=aa ⟨B,q,.func fd,D⟩)->oB K x fd fn):Def K mg x fn:=by
 simp only[fG,fH,Ov.fn.injEq]at e;obtain⟨fd,F,kV,doc,pm,an,cdv,ct,rfl⟩:=C1 e.2;refine⟨f,_,st,UH X G (rR e.1),F,sc,F.binds L,M,tg _ (rR e.1) ?_⟩;obtain⟨B,q,kV,doc,pm,an,cdv,ct,osl,e1,J,_⟩:=F.ex;exact⟨B,q,osl,J⟩
def C4(e:fG K (.cls c C)=fH w (.cls c C)):nV K c C:=by simp only[fG,fH,Ov.b.injEq,KO,RK,bM]at e;obtain⟨⟨⟨⟨⟨⟨V,U⟩,O⟩,M⟩,L⟩,J⟩,D⟩:=e;refine⟨V,⟨U,O,M,L⟩,λf B=>?_,D⟩;have q:f∈attrs:=List.contains_iff_mem.mp B;exact bP (p:=Sk K (.ref C) f=aa af) (List.all_eq_true.mp J f q)
def F5(X:K.In h)(G:h.Ns R8 mg)(M:fG K (.cls c C)=fH w (.cls c C))(D:fG K (.mk C)=fH w (.mk C))(e:fG K (.me C m x qual f st)=fH w (.me C m x qual f st))
(sc:fS fn.ns fn.ps (c6 st))(L:∀(kV doc pm:aA)(an:Option az)(cdv ct:aA)(us:List aA),us.length=fn.ps.length->Yq (TV x qual (fR st) (dP st) (c6 st) .none kV doc pm an cdv ct) ⟨us,[]⟩=pure (fn.ps.zip us))
(O:CSs (c6 st) fn.ns fn.body (dP st))(tg:uq fn.ns=ah):BZ K mg c m fn:=by
 have J:=C4 M;simp only[fG,fH,Ov.fn.injEq]at e;obtain⟨e1,e2⟩:=e;obtain⟨U,F,kV,doc,pm,an,cdv,ct,rfl⟩:=C1 e2;have B:meB K C m f=ah:=by
  cases q:meB K C m f with
  |true=>rfl|false=>rw[q]at e1;exact bI e1
 simp only[meB,RK,bM]at B;simp only[fG,fH,Ov.b.injEq,mkB,RK]at D;refine⟨C,f,_,x,qual,st,J,UH X G J.cn,⟨B.1,B.2,F.kp⟩,λz=>?_,F,sc,F.binds L,O,C3 tg⟩;subst z;exact⟨D.1,B.1,B.2,D.2⟩
def none_of(X:K.In h)(G:h.Ns R8 mg)(e:fG K (.no x)=fH w (.no x)):mg x=af:=by simp only[fG,fH,Ov.b.injEq,bM]at e;exact PySem.W.mg_none_of X G e
def C5(h:intOf v=aa x):∃t,v=.int x t:=by cases v<;>simp[intOf]at h;exact⟨_,by rw[h]⟩
def C6(h:strOf v=aa x):∃t,v=.str x t:=by cases v<;>simp[strOf]at h;exact⟨_,by rw[h]⟩
def fD(X:K.In h)(G:h.Ns R8 mg)(e:fG K (.int x n)=fH w (.int x n)):vC P w K mg x (.p (.int n)):=by
 simp only[fG,fH,Ov.int.injEq]at e;split at e
 ·rename_i v q;obtain⟨t,rfl⟩:=C5 e;exact CW X G q
 exact bI e
theorem xC:∀{xs:List ay}{vs:List aA},xs.all PyData.strOk=ah->vs.map strOf=xs.map aa->gh xs vs
 |[],[],_,_=>.nil
 |[],_::_,_,h=>by simp at h
 |_::_,[],_,h=>by simp at h
 |x::xs,v::vs,k,h=>by simp only[Sf,U0]at h;simp only[List.all_cons,RK]at k;obtain⟨t,rfl⟩:=C6 h.1;exact .cons k.1 (xC k.2 h.2)
theorem xD:∀{kvs:List (ay×Int)}{es:List WK},es.map (λe=>(e.hash,strOf e.key,intOf e.val))=kvs.map (λq=>(PyData.keyHash w.params q.1,aa q.1,aa q.2))->iP w kvs es
 |[],[],_=>.nil
 |[],_::_,h=>by simp at h
 |_::_,[],h=>by simp at h
 |(x,n)::kvs,⟨ha,k,v⟩::es,h=>by simp only[Sf,U0,W6]at h;obtain⟨⟨rfl,J,D⟩,B⟩:=h;obtain⟨t,rfl⟩:=C6 J;obtain⟨u,rfl⟩:=C5 D;exact .cons (xD B)
def C7(X:K.In h)(G:h.Ns R8 mg)(e:fG K (.aC x f xs)=fH w (.aC x f xs))(L:xs.length<=1000)(J:xs.all PyData.strOk=ah):vC P w K mg x (.p (.aC (xs.map aM.str))):=by simp only[fG,fH,Ov.seq.injEq]at e;obtain⟨e1,e2,q⟩:=e;obtain⟨o,l,B⟩:=Option.map_eq_some_iff.mp e2;rw[l]at q;obtain⟨cl,U,O,D⟩:=o;simp only[shp,W6]at B;obtain⟨rfl,rfl,M⟩:=B;have:D=#[]:=Wm M;subst this;simp only[SW,zh]at q;cases O<;>simp only[Vc,reduceCtorEq]at q;exact CY X G (rR e1) l L (xC J q)
def C8(X:K.In h)(G:h.Ns R8 mg){x:ay}{f:az}{kvs:List (ay×Int)}(e:fG K (.dct x f kvs)=fH w (.dct x f kvs))(M:(f==U4)=ai)(L:(kvs.map (·.1)).Nodup):vC P w K mg x (.k (.t (kvs.map λq=>(q.1,aM.int q.2)))):=by simp only[fG,fH,Ov.dct.injEq]at e;obtain⟨e1,e2,B⟩:=e;obtain⟨o,l,D⟩:=Option.map_eq_some_iff.mp e2;rw[l]at B;obtain⟨cl,V,U,J⟩:=o;simp only[shp,W6]at D;obtain⟨rfl,rfl,O⟩:=D;have:J=#[]:=Wm O;subst this;simp only[SW,Gg]at B;cases U<;>simp only[Vc,reduceCtorEq]at B;exact zc X G (rR e1) l M (xD B) L
end
def zd{q:Type}{us:List q}{n:Nat}(h:us.length=n+1):∃a r,us=a::r/\r.length=n:=by
 cases us with
 |nil=>simp at h|cons a r=>exact⟨a,r,rfl,by simpa using h⟩
def len0{q:Type}{us:List q}(h:us.length=0):us=[]:=WA h
def Nz{B:Type}{us:List B}(h:us.length=1):∃q,us=[q]:=by obtain⟨q,r,rfl,g⟩:=zd h;exact⟨q,by rw[len0 g]⟩
def NB{D:Type}{us:List D}(h:us.length=2):∃B q,us=[B,q]:=by obtain⟨B,r,rfl,g⟩:=zd h;obtain⟨q,rfl⟩:=Nz g;exact⟨B,q,rfl⟩
def NC{J:Type}{us:List J}(h:us.length=3):∃D B q,us=[D,B,q]:=by obtain⟨D,r,rfl,g⟩:=zd h;obtain⟨B,q,rfl⟩:=NB g;exact⟨D,B,q,rfl⟩
def ND{L:Type}{us:List L}(h:us.length=4):∃J D B q,us=[J,D,B,q]:=by obtain⟨J,r,rfl,g⟩:=zd h;obtain⟨D,B,q,rfl⟩:=NC g;exact⟨J,D,B,q,rfl⟩
def NF{M:Type}{us:List M}(h:us.length=5):∃L J D B q,us=[L,J,D,B,q]:=by obtain⟨L,r,rfl,g⟩:=zd h;obtain⟨J,D,B,q,rfl⟩:=ND g;exact⟨L,J,D,B,q,rfl⟩
def Qn{O:Type}{us:List O}(h:us.length=6):∃M L J D B q,us=[M,L,J,D,B,q]:=by obtain⟨M,r,rfl,g⟩:=zd h;obtain⟨L,J,D,B,q,rfl⟩:=NF g;exact⟨M,L,J,D,B,q,rfl⟩
noncomputable abbrev BdT(x qual:ay)(st:W0)(fn:bz):Prop:=∀(kV B J:aA)(L:Option az)(D ct:aA)(q:List aA),q.length=fn.ps.length->Yq (TV x qual (fR st) (dP st) (c6 st) .none kV B J L D ct) ⟨q,[]⟩=pure (fn.ps.zip q)
structure CkB(x qual:ay)(s:W0)(f:bz):Prop where
 ck:CSs (c6 s) f.ns f.body (dP s):=by repeat' (first|rfl|constructor|decide +kernel)
 sc:fS f.ns f.ps (c6 s):=by constructor<;>first|rfl|decide +kernel
 bd:BdT x qual s f:=by intro _ _ _ _ _ _ us hl;first|(obtain⟨a0,a1,rfl⟩:=NB hl;rfl)|(obtain⟨a0,rfl⟩:=Nz hl;rfl)|(obtain⟨a0,a1,a2,rfl⟩:=NC hl;rfl)|(obtain⟨a0,a1,a2,a3,rfl⟩:=ND hl;rfl)|(obtain rfl:=len0 hl;rfl)|(obtain⟨a0,a1,a2,a3,a4,rfl⟩:=NF hl;rfl)|(obtain⟨a0,a1,a2,a3,a4,a5,rfl⟩:=Qn hl;rfl)
def hn{w:SH}{B:List Qy}(D:∀q∈B,fG K q=fH w q)(i:Nat){a:Qy}(h:B[i]?=aa a):fG K a=fH w a:=D _ (nth i h)
def ur(K:RB)(mg:ay->Option aA)(p:BT.FK×bz):Prop:=(∀x,p.1=.f x->Def K mg x p.2)/\(∀c m,p.1=.m c m->BZ K mg c m p.2)/\∀L,p.1=.l L->False
def dd(d:Def K mg x fn):ur K mg (.f x,fn):=⟨λy e=>by cases e;exact d,λc m e=>(by cases e),λL e=>by cases e⟩
def dm(d:BZ K mg c m fn):ur K mg (.m c m,fn):=⟨λy e=>(by cases e),λc m e=>by cases e;exact d,λL e=>by cases e⟩
def c5{q:Type}{Q:q->Prop}{a:q}{l:List q}(h:Q a)(t:∀p∈l,Q p):∀p∈a::l,Q p:=List.forall_mem_cons.mpr ⟨h,t⟩
def C9{q:Type}{Q:q->Prop}:∀p∈([]:List q),Q p:=λ_ h=>bL h Vy
section
variable{K:RB}
def dd0(X:K.In h)(G:h.Ns R8 mg)(e:fG K (.fn x f st)=fH w (.fn x f st))(c:CkB x x st fn)(tg:uq fn.ns=ah:=by decide +kernel):ur K mg (.f x,fn) :=
 dd (JY X G e c.sc c.bd c.ck λ_ _ _=>C3 tg)
def dm0(X:K.In h)(G:h.Ns R8 mg)(B:fG K (.cls c C)=fH w (.cls c C))(q:fG K (.mk C)=fH w (.mk C))(e:fG K (.me C m x qual f st)=fH w (.me C m x qual f st))(k:CkB x qual st fn)(tg:uq fn.ns=ah:=by decide +kernel):ur K mg (.m c m,fn) :=
 dm (F5 X G B q e k.sc k.bd k.ck tg)
end
structure JZ(K:RB)(tl:List (ay×az×az)):Prop where
 all:∀z∈BT.iE,(∃c P,(z,c,P)∈tl/\TU K z=aa (c,P))\/TU K z=af
 hd:∀q∈tl,Wd K q.2.1 q.2.2=ah
def dW(e:fG K (.no x)=fH w (.no x)):TU K x=af:=by simp only[fG,fH,Ov.b.injEq,bM]at e;unfold TU;rw[e]
def vD(e:K.lookup b=aa o):b∈K.map (·.1):=List.mem_map.mpr ⟨(b,o),PySem.W.mem_of_lookupK e,rfl⟩
def ze 
(A:K.In s₁.heap)(I:s₁.heap.Ns R8 mg)(R:s₁.heap.Ns UT mb)(Q:∀x:ay,x≠"__name__"->mb x=Vu x)(f:s₁.heap.NoLimit)(hg:s₁.gens=#[])
(g:s₁.heap.get? a=aa {cls:=.type "list",data:=.seq vs.toArray})(hi:Vp vs ns)(hl:ns.length<=aj)(hr:fQ k Yp)
(hT:JZ K tl)(M:∀p∈tl,s₁.heap.get? p.2.2=aa (VG #[]))(S:∀p∈tl,K.lookup p.2.2=af)
(F:∀base:aq,i8 P w K mg base CX0 k fa fd [x] sp)(W:∀(s:RI)(u:aA),K.In s.heap->BindsTo s fd ⟨[u],[]⟩ [(x,u)])
(G:∀H:Hp,TB K H->LL K H a (ns.map V.int)->sp [.ref a] H (λv _=>v=.bl ah) λ_ _ _=>False):
 ak (R6 P w) Yp (.call (.ref fa) ⟨[.ref a],[]⟩) (λr s'=>r=.ok (.ret (.bool ah))/\OldK s₁.heap s'.heap/\s'.os=s₁.os/\XQ s'.gens) s₁:=by
 have rv:=jV hi;have Z:=hi.length;have C:∀p∈tl,p.2.2≠a:=λp D z=>by have:=M p D;rw[z,g]at this;cases this
 let t:HO:=.frz {cls:=.type "list",data:=.seq vs.toArray} (.aB (ns.map V.int))
 let H:Hp:=λb=>if ∃p∈tl,p.2.2=b then aa (.tbl #[])else if b=a/\K.lookup a=af then aa t else af
 have Ht:∀p∈tl,H p.2.2=aa (.tbl #[]):=λp D=>bJ ⟨p,D,rfl⟩;have J:∀b u,H b=aa u->(∃p∈tl,p.2.2=b/\u=.tbl #[])\/(b=a/\K.lookup a=af/\u=t):=λb u e=>by
  by_cases X:∃p∈tl,p.2.2=b
  ·have Y:aa (HO.tbl #[])=aa u:=(bJ X).symm.trans e;obtain⟨p,D,L⟩:=X;exact .inl ⟨p,D,L,(RO Y).symm⟩
  ·have Y:(if b=a/\K.lookup a=af then aa t else af)=aa u:=(bK X).symm.trans e
   by_cases y:b=a/\K.lookup a=af
   ·rw[bJ y]at Y;exact .inr ⟨y.1,y.2,(RO Y).symm⟩
   rw[bK y]at Y;exact bI Y
 have E:∀{b:az}{o:ao}{i:Array WK}{j:Nat},s₁.heap.get? b=aa o->o.data=.dict i j->H b=af:=λ{b o i j} e d=>by
  cases q:H b with
  |none=>rfl
  |some u =>
   rcases J b u q with⟨p,D,L,_⟩|⟨L,_⟩
   ·have z:=M p D;rw[L,e]at z;cases z;cases d
   ·rw[L,g]at e;cases e;have d':Data.seq vs.toArray _=Data.dict i j:=d;cases d'
 have U:∀ {b:az}{m:ay->Option aA},s₁.heap.Ns b m->(rV s₁.heap H).Ns b m:=λ{b m} ⟨o,i,j,e,d,r⟩=>⟨o,i,j,rW e (E e d),d,r⟩;have T:K.In (rV s₁.heap H):=λb o e=>rW (A b o e) (by
  cases q:H b with
  |none=>rfl
  |some u =>
   rcases J b u q with⟨p,D,L,_⟩|⟨L,h3,_⟩
   rw[←L,S p D]at e;exact bI e
   ·rw[L,h3] at e;exact bI e)
 have hM:Mod K mg (rV s₁.heap H):=⟨T,U I,⟨mb,U R,Q⟩,let ⟨mc,h1,L⟩:=f;⟨mc,U h1,L⟩⟩;have aJ:HOk P w H s₁.heap:=λb u e=>by
  rcases J b u e with⟨p,D,L,rfl⟩|⟨L,_,rfl⟩
  subst L;exact M p D;subst L;exact⟨g,by rw[RX];exact hl,vs,_,rv,g⟩
 have e0:r8 P w K mg (rV s₁.heap H) Yp [] s₁ H:=⟨rfl,hM,λb o e=>Dh e,Nat.le_of_eq (xG _ _),trivial,λb R=>bL (show b∈([]:List az) from R) (by simp),aJ,.of_eq hg⟩;have tb:TB K H:=λz hz c Pt e=>by
  rcases hT.all z hz with⟨c3,P3,m3,l⟩|l
  ·rw[e]at l;cases l;exact⟨#[],Ht _ m3,trivial,λpos v q=>by cases q⟩
  rw[e]at l;cases l
 have hS:LL K H a (ns.map V.int):=by
  cases N:K.lookup a with
  |some o =>
   have e:=A a o N;rw[g]at e;cases e;exact .inr ⟨vs,_,N,by rw[Z];exact hl,rv⟩
  |none =>
   refine .inl (.inr ⟨{cls:=.type "list",data:=.seq vs.toArray},?_⟩);have e1:H a=(if a=a/\K.lookup a=af then aa t else af):=bK λ⟨p,D,z⟩=>C p D z;rw[e1,bJ ⟨rfl,N⟩]
 refine codeAny_mono ((F _).run Yp [] s₁ H ⟨[.ref a],[]⟩ [.ref a] [.ref a] _ _ hr e0 (W s₁ (.ref a) A) (.cons rfl .nil) (G H tb hS)) λr s' h=>?_;cases r with
 |error e=>exact TY h
 |ok fl =>
  cases fl with
  |ret u =>
   obtain⟨v,H',os,n,un,O,r',q⟩:=h;have q':v=.bl ah:=q;subst q';obtain rfl:u=Vn ah:=r';have kp:∀b o,s₁.heap.get? b=aa o->(s'.heap.get? b=aa o)\/∃p∈tl,p.2.2=b/\∃B,s'.heap.get? b=aa (VG (#[]++B)):=λb o e=>by
    cases q:H b with
    |none=>exact .inl (un.keep b o e q (by intro z;exact bL (show b∈([]:List az) from z) (by simp)) (by simp))
    |some u =>
     rcases J b u q with⟨p,D,L,rfl⟩|⟨L,h3,rfl⟩
     ·obtain⟨B,z⟩:=un.tbls b _ q;exact .inr ⟨p,D,L,B,O b _ z⟩
     ·have z2:=un.frzs b _ _ q;obtain⟨e1,_⟩:=aJ b _ q;obtain⟨e2,_⟩:=O b _ z2;rw[e]at e1;cases e1;exact .inl e2
   refine⟨rfl,⟨λb o e=>?_,λb o e=>?_⟩,os,n⟩
   ·rcases kp b o e with z|⟨p,D,rfl,B,z⟩
    exact .inl z
    ·have e2:=M p D;rw[e]at e2;cases e2;have tA:=(XH A (hT.hd p D)).tab e;exact .inr (.inl ⟨tA.isCodeTable,rfl,#[],B,rfl,z⟩)
   ·rcases kp b o e with z|⟨p,D,rfl,B,z⟩
    exact⟨o,z⟩;exact⟨_,z⟩
  |_=>exact TY h
def Dc{l:PySem.W.OpenLaw}{n k:Nat}{q:Sb}{loose:List ay}{XP:(ay->Option aA)->aq->Prop}{d:DefRec}{as:List az}{V:List Qy}{ts:List az}{tl:List (ay×az×az)}{T:BT.FK->Option bz}{G:ay->Option aN}{fn:bz}{x:ay}
(hn:l.most=aa n)(j:n<=aj)(t:d.params.defaults=[])(N:fQ (2*k) Yp)(D:fn.ps=[x])(y:T (.f d.name)=aa fn)(Z:ts=tl.map (·.2.2))(c:tl.all (λp=>!as.contains p.2.2)=ah)
(FT:∀(w:SH)(K:RB),(∀q∈V,fG K q=fH w q)->JZ K tl)
(F:∀(P:Sb)(w:SH)(mg:ay->Option aA)(K:RB) (h:aq),K.In h->h.Ns R8 mg->(∀q∈V,fG K q=fH w q)->Txt P w K mg T G)
(M:∀ns:List Int,ns.length<=n->∃h',aV T G k (.f d.name) [.p (.aB (BT.cV ns))] []=aa (.p (.bl ah),h')):
 PySem.W.WalkO q loose XP (sees as V ts).says l.row.toRowW d [] (λf vs=>Yu f vs):=by
 refine Att.su hn t λw v L mg mb fa o pm cd doc a vs ns U Y ho hd R r O J B Q=>?_;obtain⟨K,I,E,k2,C⟩:=Y;have A:=F4 E;have X:=F l.prog w mg K L.heap A U.T.g k2;obtain⟨f,fd,st,z,h2,h3,h4,h5,h6⟩:=(X.defs _ fn y).ex;rw[r]at z;cases z;refine ze (sp:=spF l.prog w K (aV T G k (.f d.name))) (x:=x) (k:=2*k) (fd:=fd) (tl:=tl) A U.T.g U.T.b U.T.builtins U.T.nolimit Q O J (Sz B j) N (FT w K k2) (λp i=>C _ (by rw[Z];exact List.mem_map_of_mem i)) (λp i=>?_) (λbase=>?_) (λs u hK=>?_) (λH tb S=>CZ tb S (M ns B))
 ·cases e:K.lookup p.2.2 with
  |none=>rfl
  |some o =>
   have m:=vD e;rw[I]at m;have:=List.all_eq_true.mp c p i;rw[List.contains_iff_mem.mpr m]at this;exact aT this
 ·have:=Jo (base:=base) X k (.f d.name) fn y _ fd d.name d.name st h2 h3 h5 h6;rw[D]at this;exact this
 ·have:=h4 s [u] hK (by rw[D];rfl);rw[D]at this;exact this
end BG
end
section
namespace BL
open PySem PySem.Spec PyProof.Rows L2 BS BF BG
def Qo:CkB "is_whole" "is_whole" (top 11) BT.iL:={}
def Qp:CkB "is_name" "is_name" (top 12) BT.g8:={}
def Qq:CkB "is_cell" "is_cell" (top 13) BT.jr:={}
def Qs:CkB "inner_sums" "inner_sums" (top 14) BT.fy:={}
def Qt:CkB "begun" "begun" (top 23) BT.lD:={}
def Qu:CkB "check_thing" "check_thing" (top 24) BT.ff:={}
def Qv:CkB "worth_in" "worth_in" (top 25) BT.iH:={}
def Qw:CkB "laid_out" "laid_out" (top 26) BT.iG:={}
def Qx:CkB "of_two" "of_two" (top 27) BT.j4:={}
def Qz:CkB "worth_of" "worth_of" (top 28) BT.e9:={}
def QA:CkB "reckoned" "reckoned" (top 29) BT.iI:={}
def QB:CkB "cell_by" "cell_by" (top 30) BT.jj:={}
def QC:CkB "is_over" "is_over" (top 31) BT.g9:={}
def QD:CkB "place_behind" "place_behind" (top 32) BT.fE:={}
def QE:CkB "with_worth" "with_worth" (top 33) BT.gw:={}
def QF:CkB "with_name" "with_name" (top 34) BT.gK:={}
def QG:CkB "with_thing" "with_thing" (top 35) BT.fz:={}
def QH:CkB "brought" "brought" (top 36) BT.ig:={}
def QI:CkB "stepped" "stepped" (top 37) BT.jk:={}
def QJ:CkB "_law_cell" "_law_cell" (top 45) BT.gF:={}
def QK:CkB "_law_drawn" "_law_drawn" (top 46) BT.gM:={}
def QL:CkB "_law_sum" "_law_sum" (top 47) BT.fL:={}
def QM:CkB "_law_row" "_law_row" (top 48) BT.jn:={}
def QN:CkB "_law_program" "_law_program" (top 49) BT.fc:={}
def QO:CkB "_law_asked" "_law_asked" (top 50) BT.gO:={}
def QS:CkB "_law_thing" "_law_thing" (top 51) BT.f9:={}
def QT:CkB "_law_of" "_law_of" (top 52) BT.j6:={}
def QU:CkB "_law_reads" "_law_reads" (top 53) BT.dZ:={}
def QV:CkB "law" "law" (top 54) BT.i6:={}
def J0:CkB "__init__" "Tape.__init__" (ef 40 0) BT.gP:={}
def J1:CkB "at" "Tape.at" (ef 40 1) BT.jo:={}
def J2:CkB "end" "Tape.end" (ef 40 2) BT.iM:={}
def F6:CkB "behind" "Tape.behind" (ef 40 10) BT.fZ:={}
def F7:CkB "is_last" "Tape.is_last" (ef 40 11) BT.eU:={}
def F8:CkB "keep" "Tape.keep" (ef 40 12) BT.f7:={}
def F9:CkB "reach" "Tape.reach" (ef 40 13) BT.gy:={}
def Ga:CkB "has" "Tape.has" (ef 40 14) BT.iN:={}
def Gb:CkB "check" "Tape.check" (ef 40 15) BT.gA:={}
def J3:CkB "__init__" "Branch.__init__" (ef 42 0) BT.gc:={}
def J4:CkB "__init__" "Tree.__init__" (ef 43 0) BT.gQ:={}
def J5:CkB "part" "Tree.part" (ef 43 1) BT.gR:={}
def J6:CkB "at" "Tree.at" (ef 43 2) BT.jt:={}
def J7:CkB "end" "Tree.end" (ef 43 3) BT.iO:={}
def J8:CkB "path" "Tree.path" (ef 43 5) BT.fh:={}
def J9:CkB "apart" "Tree.apart" (ef 43 8) BT.fC:={}
def Gc:CkB "check_run" "Tree.check_run" (ef 43 10) BT.eX:={}
def Gd:CkB "first" "Tree.first" (ef 43 11) BT.fB:={}
def Ge:CkB "holder" "Tree.holder" (ef 43 12) BT.gf:={}
def Gf:CkB "found" "Tree.found" (ef 43 13) BT.gB:={}
def tab:List (BT.FK×bz):=[(.f "is_whole",BT.iL),(.f "is_name",BT.g8),(.f "is_cell",BT.jr),(.f "inner_sums",BT.fy),(.f "begun",BT.lD),(.f "check_thing",BT.ff),(.f "worth_in",BT.iH),(.f "laid_out",BT.iG),(.f "of_two",BT.j4),(.f "worth_of",BT.e9),(.f "reckoned",BT.iI),(.f "cell_by",BT.jj),(.f "is_over",BT.g9),(.f "place_behind",BT.fE),(.f "with_worth",BT.gw),(.f "with_name",BT.gK),(.f "with_thing",BT.fz),(.f "brought",BT.ig),(.f "stepped",BT.jk),(.f "_law_cell",BT.gF),(.f "_law_drawn",BT.gM),(.f "_law_sum",BT.fL),(.f "_law_row",BT.jn),(.f "_law_program",BT.fc),(.f "_law_asked",BT.gO),(.f "_law_thing",BT.f9),(.f "_law_of",BT.j6),(.f "_law_reads",BT.dZ),(.f "law",BT.i6),(.m "Tape" "__init__",BT.gP),(.m "Branch" "at",BT.jo),(.m "Branch" "end",BT.iM),(.m "Branch" "behind",BT.fZ),(.m "Branch" "is_last",BT.eU),(.m "Branch" "keep",BT.f7),(.m "Branch" "reach",BT.gy),(.m "Branch" "has",BT.iN),(.m "Branch" "check",BT.gA),(.m "Branch" "__init__",BT.gc),(.m "Tree" "__init__",BT.gQ),(.m "Tree" "part",BT.gR),(.m "Tree" "at",BT.jt),(.m "Tree" "end",BT.iO),(.m "Tree" "path",BT.fh),(.m "Tree" "apart",BT.fC),(.m "Tree" "check_run",BT.eX),(.m "Tree" "first",BT.fB),(.m "Tree" "holder",BT.gf),(.m "Tree" "found",BT.gB)]
noncomputable def aE:List (ay×aN):=[("CELL_COUNT",.p (.int 4)),("WORTH_COUNT",.p (.int 10007)),("ROW",.p (.int 0)),("NAMES",.p (.int 1)),("CELLS",.p (.int 2)),("CALLS",.p (.int 3)),("ASKED",.p (.int 4)),("SAID",.p (.int 5)),("MOST_CALLS",.p (.int 6)),("MOST_MARKS",.p (.int 8)),("LETTERS",.p (.aC ((["a","b","c","d","e","f"]:List ay).map aM.str))),("INNER_COUNTS",.k (.t (([("num",0),("name",0),("cell",1),("add",2),("sub",2),("mul",2),("less",2)]:List (ay×Int)).map λq=>(q.1,aM.int q.2))))]
noncomputable abbrev T:BT.FK->Option bz:=look tab
noncomputable abbrev G:ay->Option aN:=look aE
def prg:BT.Prg T G:=⟨rfl,rfl,rfl,rfl,rfl,rfl,rfl,rfl,rfl,rfl,rfl,rfl,rfl,rfl,rfl,rfl,rfl,rfl,rfl,rfl,rfl,rfl,rfl,rfl,rfl,rfl⟩
def tpp:BT.TpP "Branch" T G:=⟨prg,rfl,rfl,rfl,rfl,rfl,rfl,rfl,rfl,rfl⟩
def trp:BT.TrP T G:=⟨tpp,⟨rfl⟩,rfl,rfl,rfl,rfl,rfl,rfl,rfl,rfl,rfl,⟨rfl,rfl⟩,⟨rfl⟩⟩
def lws:BT.rQ T:=⟨⟨rfl,rfl,rfl,rfl,rfl⟩,rfl,rfl,rfl,rfl,rfl,rfl,rfl,⟨rfl⟩⟩
def run(ns:List Int)(h:ns.length<=1000):∃h',aV T G 40 "law" [.p (.aB (BT.cV ns))] []=aa (.p (.bl ah),h'):=BT.zb trp lws ns h 19
def NG(w:SH)(K:RB)(B:∀q∈qys,fG K q=fH w q):JZ K tl:=by
 refine⟨λz D=>?_,λp J=>?_⟩
 ·simp only[BT.iE,Xq,Vy,or_false]at D;rcases D with rfl|rfl|rfl|rfl|rfl|rfl|rfl|rfl|rfl|rfl|rfl|rfl|rfl|rfl|rfl
  exact .inr (dW (w:=w) (hn B 62 rfl));exact .inr (dW (w:=w) (hn B 63 rfl));exact .inr (dW (w:=w) (hn B 64 rfl));exact .inr (dW (w:=w) (hn B 65 rfl));exact .inr (dW (w:=w) (hn B 66 rfl));exact .inr (dW (w:=w) (hn B 67 rfl));exact .inr (dW (w:=w) (hn B 68 rfl));exact .inr (dW (w:=w) (hn B 69 rfl));exact .inr (dW (w:=w) (hn B 70 rfl));exact .inr (dW (w:=w) (hn B 71 rfl));exact .inr (dW (w:=w) (hn B 72 rfl));exact .inr (dW (w:=w) (hn B 73 rfl));exact .inr (dW (w:=w) (hn B 74 rfl));exact .inr (dW (w:=w) (hn B 75 rfl));exact .inr (dW (w:=w) (hn B 76 rfl))
 simp[tl]at J
def txt(P:Sb)(w:SH)(mg:ay->Option aA)(K:RB)(h:aq)(X:K.In h)(D:h.Ns R8 mg)(B:∀q∈qys,fG K q=fH w q):Txt P w K mg T G:=by have M:=NG w K B;have all:∀p∈tab,ur K mg p:=c5 (dd0 X D (hn B 0 rfl) Qo) <|c5 (dd0 X D (hn B 1 rfl) Qp) <|c5 (dd0 X D (hn B 2 rfl) Qq) <|c5 (dd0 X D (hn B 3 rfl) Qs) <|c5 (dd0 X D (hn B 4 rfl) Qt) <|c5 (dd0 X D (hn B 5 rfl) Qu) <|c5 (dd0 X D (hn B 6 rfl) Qv) <|c5 (dd0 X D (hn B 7 rfl) Qw) <|c5 (dd0 X D (hn B 8 rfl) Qx) <|c5 (dd0 X D (hn B 9 rfl) Qz) <|c5 (dd0 X D (hn B 10 rfl) QA) <|c5 (dd0 X D (hn B 11 rfl) QB) <|c5 (dd0 X D (hn B 12 rfl) QC) <|c5 (dd0 X D (hn B 13 rfl) QD) <|c5 (dd0 X D (hn B 14 rfl) QE) <|c5 (dd0 X D (hn B 15 rfl) QF) <|c5 (dd0 X D (hn B 16 rfl) QG) <|c5 (dd0 X D (hn B 17 rfl) QH) <|c5 (dd0 X D (hn B 18 rfl) QI) <|c5 (dd0 X D (hn B 19 rfl) QJ) <|c5 (dd0 X D (hn B 20 rfl) QK) <|c5 (dd0 X D (hn B 21 rfl) QL) <|c5 (dd0 X D (hn B 22 rfl) QM) <|c5 (dd0 X D (hn B 23 rfl) QN) <|c5 (dd0 X D (hn B 24 rfl) QO) <|c5 (dd0 X D (hn B 25 rfl) QS) <|c5 (dd0 X D (hn B 26 rfl) QT) <|c5 (dd0 X D (hn B 27 rfl) QU) <|c5 (dd0 X D (hn B 28 rfl) QV) <|c5 (dm0 X D (hn B 77 rfl) (hn B 78 rfl) (hn B 83 rfl) J0) <|c5 (dm0 X D (hn B 79 rfl) (hn B 80 rfl) (hn B 84 rfl) J1) <|c5 (dm0 X D (hn B 79 rfl) (hn B 80 rfl) (hn B 85 rfl) J2) <|c5 (dm0 X D (hn B 79 rfl) (hn B 80 rfl) (hn B 86 rfl) F6) <|c5 (dm0 X D (hn B 79 rfl) (hn B 80 rfl) (hn B 87 rfl) F7) <|c5 (dm0 X D (hn B 79 rfl) (hn B 80 rfl) (hn B 88 rfl) F8) <|c5 (dm0 X D (hn B 79 rfl) (hn B 80 rfl) (hn B 89 rfl) F9) <|c5 (dm0 X D (hn B 79 rfl) (hn B 80 rfl) (hn B 90 rfl) Ga) <|c5 (dm0 X D (hn B 79 rfl) (hn B 80 rfl) (hn B 91 rfl) Gb) <|c5 (dm0 X D (hn B 79 rfl) (hn B 80 rfl) (hn B 92 rfl) J3) <|c5 (dm0 X D (hn B 81 rfl) (hn B 82 rfl) (hn B 93 rfl) J4) <|c5 (dm0 X D (hn B 81 rfl) (hn B 82 rfl) (hn B 94 rfl) J5) <|c5 (dm0 X D (hn B 81 rfl) (hn B 82 rfl) (hn B 95 rfl) J6) <|c5 (dm0 X D (hn B 81 rfl) (hn B 82 rfl) (hn B 96 rfl) J7) <|c5 (dm0 X D (hn B 81 rfl) (hn B 82 rfl) (hn B 97 rfl) J8) <|c5 (dm0 X D (hn B 81 rfl) (hn B 82 rfl) (hn B 98 rfl) J9) <|c5 (dm0 X D (hn B 81 rfl) (hn B 82 rfl) (hn B 99 rfl) Gc) <|c5 (dm0 X D (hn B 81 rfl) (hn B 82 rfl) (hn B 100 rfl) Gd) <|c5 (dm0 X D (hn B 81 rfl) (hn B 82 rfl) (hn B 101 rfl) Ge) <|c5 (dm0 X D (hn B 81 rfl) (hn B 82 rfl) (hn B 102 rfl) Gf) <|C9;refine⟨λx fn e=>?_,λc m fn e=>?_,λL fn e=>?_,λx z e=>?_,?_⟩;exact jR (Q:=λk fn=>∀x,k=.f x->Def K mg x fn) (l:=tab) (λp J=>(all p J).1) e x rfl;exact jR (Q:=λk fn=>∀c m,k=.m c m->BZ K mg c m fn) (l:=tab) (λp J=>(all p J).2.1) e c m rfl;exact jR (Q:=λk fn=>∀L,k=.l L->False) (l:=tab) (λp J=>(all p J).2.2) e L rfl;exact jR (Q:=λx z=>vC P w K mg x z) (l:=aE) (c5 (fD X D (hn B 29 rfl)) <|c5 (fD X D (hn B 30 rfl)) <|c5 (fD X D (hn B 31 rfl)) <|c5 (fD X D (hn B 32 rfl)) <|c5 (fD X D (hn B 33 rfl)) <|c5 (fD X D (hn B 34 rfl)) <|c5 (fD X D (hn B 35 rfl)) <|c5 (fD X D (hn B 36 rfl)) <|c5 (fD X D (hn B 37 rfl)) <|c5 (fD X D (hn B 38 rfl)) <|c5 (C7 X D (hn B 39 rfl) (by decide) (by decide +kernel)) <|c5 (C8 X D (hn B 40 rfl) (by decide) (by decide +kernel)) <|C9) e;exact c5 (none_of X D (hn B 41 rfl)) <|c5 (none_of X D (hn B 42 rfl)) <|c5 (none_of X D (hn B 43 rfl)) <|c5 (none_of X D (hn B 44 rfl)) <|c5 (none_of X D (hn B 45 rfl)) <|c5 (none_of X D (hn B 46 rfl)) <|c5 (none_of X D (hn B 47 rfl)) <|c5 (none_of X D (hn B 48 rfl)) <|c5 (none_of X D (hn B 49 rfl)) <|c5 (none_of X D (hn B 50 rfl)) <|c5 (none_of X D (hn B 51 rfl)) <|c5 (none_of X D (hn B 52 rfl)) <|c5 (none_of X D (hn B 53 rfl)) <|c5 (none_of X D (hn B 54 rfl)) <|c5 (none_of X D (hn B 55 rfl)) <|c5 (none_of X D (hn B 56 rfl)) <|c5 (none_of X D (hn B 57 rfl)) <|c5 (none_of X D (hn B 58 rfl)) <|c5 (none_of X D (hn B 59 rfl)) <|c5 (none_of X D (hn B 60 rfl)) <|c5 (none_of X D (hn B 61 rfl)) <|C9
noncomputable abbrev lw:DefRec:=⟨"law",fR (top 54),dP (top 54),c6 (top 54),OE (top 54)⟩
def df:PySem.W.defOf qg "law"=aa (lw,[]):=by kernel_rfl
def th:pg.theDef "law"=aa (lw.params,lw.body,lw.scope):=by kernel_rfl
def walk:PySem.W.WalkO qg loo (PySem.W.XL qg []) (sees adr qys tas).says PySem.Challenge.rw_backtape_k70_whole_runs_and_reasons.row.toRowW lw [] (λf vs=>Yu f vs) :=
 Dc (l:=PySem.Challenge.rw_backtape_k70_whole_runs_and_reasons) (n:=63) (k:=40) (x:="_law_script") (d:=lw) (T:=T) (G:=G) (ts:=tas) (fn:=BT.i6) rfl (by decide) rfl ⟨rfl,by decide,by decide⟩ rfl rfl (tl:=tl) rfl (by decide +kernel) NG txt λq B=>run q (by lia)
end BL
open PySem PySem.W PyProof.Rows
set_option maxRecDepth 100000 in
set_option maxHeartbeats 0 in
theorem PySem.Challenge.cw_backtape_k70_whole_runs_and_reasons_holds : PySem.Challenge.rw_backtape_k70_whole_runs_and_reasons.Holds := by
 w_on;refine PySem.W.holds_law (by decide +kernel) λsaid=>?_
 refine PySem.W.holds_open (q:=BL.qg) (loose:=BL.loo) (XP:=XL BL.qg []) (YP:=(BG.sees BL.adr BL.qys BL.tas).says) (d:=BL.lw) (kwd:=[]) BL.left (BG.sees BL.adr BL.qys BL.tas).of (BG.sees BL.adr BL.qys BL.tas).keeps (λs e=>xl_of s (Bool.and_eq_true_iff.mp e).1) XL.keeps BL.df BL.th (by kernel_rfl) (λs e=>recFacts_of (Bool.and_eq_true_iff.mp e).2) rfl (by first|assumption|decide +kernel) (by decide +kernel) ⟨rfl,rfl,rfl,rfl,rfl,by decide +kernel⟩ ?hw BL.walk
 (case hw=>w_witness2)
#print axioms PySem.Challenge.cw_backtape_k70_whole_runs_and_reasons_holds
end
end

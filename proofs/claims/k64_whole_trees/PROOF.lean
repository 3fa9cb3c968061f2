import PyProof.Rows.All
import Wide.All
import OpenK.AllK
import Wide.FinOn
import PyProof.EqAt
import PyProof.EqKinds
import PyProof.TupleCall
import Open.Tree
import Wide.Once
import KE.KLam
import KE.KNestM
import KE.KIsAll
import OpenK.KMore
import KE.KSortTup
import PyProof.Rows.SetFrom
import PyProof.IsiH_list
import PyProof.Rows.Exc
import KE.KDictOf
import PySem.Syntax
import PySem.Builtin.Str.Common
import PyProof.SliceList
import PyProof.StrCalls2
import KE.KIntText
import PyProof.NeData
import PyProof.ExcAttrAll.ValueError
import PyProof.ZipIter
import KE.KRevIter
import KE.KItemsList
import KE.KDictSum
import PyProof.DictWalks
import KE.KPairComp
import KE.KEqDict
import PyProof.StrBlock2
import PyProof.StrBlockL
import PyProof.ConsumeWalk
import PyProof.ListRange
import PyProof.EnumFor
import PyProof.EnumMake
import PyProof.EnumStmt
import PyProof.CompFree
import PyProof.PlainList
import PyProof.Draws
import PyProof.StrWalks
import PyProof.StrLawsTight
import Lean
import PySem.Challenge.RW_backtape_k64_whole_trees
set_option autoImplicit true
set_option Elab.async false
set_option linter.all false
set_option maxRecDepth 100000
set_option maxHeartbeats 8000000
set_option genSizeOf false
set_option compiler.extract_closed false
set_option bootstrap.genMatcherCode false
noncomputable section
def bJ:=@if_pos
def bK:=@if_neg
def bL:=@absurd
def bM:=@decide_eq_true_eq
def bN:=@decide_eq_false
def bO:=@decide_eq_true
def bP:=@of_decide_eq_true
def bQ:=@eq_of_beq
def bR:=@congrArg
def bS:=@beq_eq_false_iff_ne
open PySem renaming Value->aA,Addr->az,Str->ay,wpAny->av,wpAny_pure->au,Heap->aq,Obj->ao,codeAny->ak,sizeLine->aj
open Option renaming some->aa,none->af
open Bool renaming true->ah,false->ai
open PySem renaming wpAny_bind->RP,Shared->RV,Expr->Sd,Program->So,mainGlobals->Ss,model->Su,wpAny_newObj_type->SL,starEach->SM,World->SQ,sliceBounds->SR,wpAny_callSpecial?_slot->SZ,wpAny_holding->Tf,Stmt->Tw,Around->TF,compareOp->TL,wpAny_call_entry->TM,wpAny_field->TR,Scope->TV,wpAny_seqItems->T6,wpAny_truthy_bool->Uc,binaryOp->Uq,wpAny_setField->Us,FuncData->Uv,wpAny_updateSeq->Uw,wpAny_setState_of->Ux,wpAny_mono->Uy,wpAny_Call_Name_kw->UN,wpAny_passesOwn->UQ,assignEach->UT,mem_of_lookup->UU,rawInt->U1,wpAny_isInstance->U3,wpAny_typeOf->U6,call_meets->U7,builtinsNs->U8,wpAny_loadPart'->Va,backTo->Vb,NameKind->Vd,IsPair->Vi,sysModules->Vj,fits_of_scanBound->Vk,Expr->Vo,scanBound->Vq,builtinLookup_eq_fast->Vr,pyNext->Vy,wpAny_rule->VB,swapsWith->VC,pickOrder->VD,wpAny_setField_rec->VL,bootBuiltins->VM,Operator->VN,sliceRange->VY,wpAny_attempt->V4,keywordEach->V5,holding->V6,attributeBase->V7,wpAny_ite_split->Wk,wpAny_execs_nil->Wl,updateSeq->Wm,typeLookup_type->Wn,letOwnedTupleGo->Wo,importedModules->Wp,Keyword->Wv,firstArgMember->Wz,wpAny_setEntries_of->WH,sizeLine_eq->WI,Stmt->WJ,Builtin->WR,wpAny_standAt->WY,wpAny_pyIter_tuple->WZ,storeSet->W0,DictEntry->W7,Arguments->W9,wpAny_call->Xj,typeLookup->Xk,getItem->Xl,assign->Xx,Result->Xy,IsPart->XG,noFill_tuple_add->XH,backToKw->XQ,wpAny_specialOf->XZ,wpAny_in_of->X0,standAt->X3,getMethod->X4,Within->X7,wpAny_binaryOp_repeat_ref->Yj,setAddHashedIn->Yk,bltViewBooted->Yl,IsZip->Yp,wpAny_getItem_list_slice->Yt,seq_tuple_add->YD,nums_intItems->YF,evalPart_none->YG,compEnvC->YH,callerA->YI,bindArgs->YJ,behindInMarks->YK,ZipApart->YL,call->YN
open PySem.W renaming Frag->RQ,findIn->SD,nsIn->Te,emptyDict->TX,keepIn->TY,tabIn->Ud,fnOf->Ue,kitOne->Uj,instObj->Uo,specialIn->UD,hasDictIn->UE,mg_of->UX,kia_one->UY,plainGet->Vc,callWith_K->Vu,takesIn->VO,methodCall_KW->VP,isFn->VQ,tabObj->VZ,lookIn->V0,codeIn->V1,plainGet_of->V8,callWith_K0->V9,mroIn->Wd,plainOver->Wr,methodObj->Ws,ksm_same->Ww,codeHdIn->Wx,takerIn->WK,readsIn->WL,makesIn->WM,byRow2->W4,absHeap->Xm,SharedT->Xn,recOk->Xo,cellsFrom_some->Xz,xlAt->XI,envX->XJ,codeHd_of_K->X8,wideGood->Yu,handedIn->Yv,clsGoodW->Yw,openSeen->YE,findCls->YO
open PySem.Heap renaming get?_push_of_some->RT,lt_size->R6,get?_push_size->R8,get?_update_self->SB,size_push->SY,get?_update_other->Ti,SameBut->Tv,ExtBut->Xg
open List renaming getElem?_append_left->RU,getElem?_eq_getElem->RY,size_toArray->RZ,mem_cons_of_mem->Sb,length_map->Se,map_cons->Sf,mem_of_getElem?->Sg,length_cons->Sh,getElem?_eq_none->Si,mem_cons_self->Sj,range->Sk,getElem?_map->Sv,replicate->Sw,getElem?_set_ne->Sy,length_append->Sz,filterMap_cons->SC,getElem?_set_self->SN,getElem?_append_right->SS,length_nil->SW,mem_append_right->S9,map_nil->Tc,append_assoc->Tg,sum_cons->Tn,length_set->TH,append_nil->TJ,length_range->T9,replicate_succ->Ua,map_congr_left->Ub,getD_eq_getElem?_getD->Uh,lookup_cons->Uk,singleton_append->Um,getElem?_of_mem->Ur,all_eq_true->Uz,nil_append->UF,map_map->UG,length_singleton->UH,foldl_cons->UI,flatten_cons->UO,mem_or_eq_of_mem_set->US,lookup->UV,getElem?_take_of_lt->UZ,getElem?_replicate->U4,find?_cons->U5,length_replicate->Ve,length_filter_le->Vf,mem_append_left->Vl,map_append->Vv,getElem?_range->Vw,not_mem_nil->VR,length_take->VS,getElem_mem->VT,reverse_singleton->VV,range_succ_eq_map->VW,find?_cons_of_neg->VX,map_set->V2,forIn_cons->V3,nodup_nil->We,foldl->WD,getElem_map->WU,getElem_inj->WV,eq_nil_of_length_eq_zero->WW,of_mem_zip->Xc,mem_append->Xd,length->Xe,countP_map->Xf,length_eraseIdx_of_lt->Xu,getElem?_zip_eq_some->XA,getElem?_eq_none_iff->XC,forIn_nil->XD,drop_eq_getElem_cons->XF,mem_cons->XR,head_eq_of_cons_eq->XS,getElem?_cons_succ->XU,take_of_length_le->X9,take_append_drop->Ye,set_set->Yg,getElem?_toArray->Yh,range'->Yz,zip_cons_cons->YS,contains_cons->YT
open Bool renaming and_eq_true->RX,false_ne_true->SE,false_eq_true->UC,or_eq_true->UK,or_false->Vp,not_eq_true'->WE,or_eq_false_iff->Yq
open Nat renaming le_refl->R0,lt_or_ge->Sq,lt_of_lt_of_le->Sx,ne_of_lt->SA,le_trans->SK,lt_irrefl->To,ne_of_gt->Tt,zero_le->Tu,le_succ->T3,eq_zero_or_pos->T7,lt_succ_self->Ul,le_of_lt->Uu,le_add_right->UA,mul_comm->U0,lt_trans->Wb,add_lt_add_left->Wu,mul_div_cancel->Wy,mod_lt->WN,lt_succ_of_lt->WO,zero_add->WS,succ_pos->WT,not_lt_zero->Xr,div_add_mod->Xs,sub_zero->Yn,le_of_ble_eq_true->Yo,div_le_div_right->Yy
open Option.some renaming inj->Sa,injEq->Vt
open PySem.Str renaming ofString->Sn,ofString_eq_toList->Yd
open Array renaming length_toList->SG,getElem?_eq_getElem->SI,getElem?_eq_none->Tz,eq_empty_of_size_eq_zero->WG,getElem?_append_left->Xi,getElem?_extract->XX,getElem?_toList->Yb,getElem?_push->Ys,forIn_toList->YA,toList_push->YU
open Option renaming bind_some->SH,map_some->VU,getD_some->YQ,getD_none->YR
open PyProof.Rows renaming callWith_type1->SJ,slot_tuple_getitem->Ug,firstMet->Up,IntsAre->VG,callWith_builtin1->Wa,plainGoodE->WA,plainGoodD->WB,expectedOf->WC,drecsOf->W5,envOfC->X5,AllBare->Yc,tail_any->YB,subscriptTail->YC
open PySem.Builtin.SmallTypes renaming nextOf->SO,ownedTupleIsFree->S6,ownedTupleHandOut->Vx
open PySem.Heap.SameBut renaming update->SV,refl->Vn
open PySem.F renaming plain_extend_loop->SX,plainAttrs_list->Ut,entry_extend_loop->UP,args_tuple_add_2->VA,entry_tuple_add->VF,slot_tuple_add->VI,type_list_append->Xa,slot_list_append->Xb,plain_list_iadd->Xp,slot_set_iter->XM
open PySem.Value renaming ref->S7,none->T5,type->UL,int->Vs,bool->VE,isStrOf->Wq,isInt->W3,str->X6,isInt_shape->YM
open Ne renaming symm->Td
open PySem.Builtin.List renaming listExtendWith->Tj,listTooLong->TZ,listSameRef->UM,listLengthHint->U9,listItems->WQ
open PySem.Obj renaming mapSeq->TN,mapFields->T4
open Int renaming toNat_natCast->TQ,zero_add->WX
open PySem.Around renaming under_plainId->TU,under->XY
open PySem.NameKind renaming free->T8,cell->Wc
open False renaming elim->Ui
open PySem.Builtin.Slice renaming slicePlaces->UB,sliceAdjust->Vh,sliceApplied->Wj
open PySem.Builtin.Tuple renaming tupleExact->UJ,tupleTooMany->Wh,tupleItemsOf->Wi
open PySem.Builtin.Str renaming occurrences->UR
open True renaming intro->UW
open List.cons renaming injEq->Vg
open PySem.pickOrder renaming go->Vm
open PySem.Calls renaming spliced_cons->Vz,spliced_nil->VH,Name_function_global->Xh,callWith_builtin->XW
open ForInStep renaming yield->VJ
open List.Nodup renaming length_le_of_subset->Wg
open PySem.Heap.IsSliceOf renaming new->W6
open Classical renaming axiomOfChoice->W8
open Prod.mk renaming injEq->Xq
open List.Pairwise renaming nil->Xv,map->Xw
open Char renaming toNat->XN
open PySem.Code renaming isFrame->Yi
open PySem.PassesOwn renaming never->Ym
open PySem.AutoSeq1 renaming idx_int->Yr
open PyProof.Rows.IntsAre renaming length->Yx
section
namespace L2
open PySem PySem.Spec PyProof.Rows
def fX(s:WJ):W9:=match s with
 |.FunctionDef _ a _ _ _ _ _ _ _ _=>a|_=>{posonlyargs:=[],args:=[],vararg:=af,kwonlyargs:=[],kw_defaults:=[],kwarg:=af,defaults:=[]}
def dS(s:WJ):List WJ:=match s with
 |.FunctionDef _ _ b _ _ _ _ _ _ _=>b|_=>[]
def c6(s:WJ):TV:=match s with
 |.FunctionDef _ _ _ _ _ _ q _ _ _=>q|_=>{kind:=.function,names:=[],isGenerator:=ai,isCoroutine:=ai}
end L2
end
section
namespace BR
open PySem PySem.W PyProof.Rows
noncomputable def r6:List ao->BT->Nat->Option (BT×Nat)
 |[],T,n=>aa (T,n)
 |o::r,T,n=>match ((T.ins n o).get n).isSome with
  |true=>r6 r (T.ins n o) (n+1)|false=>af
theorem qb(q:Life):∀{l:List ao}{T D:BT}{n B:Nat},r6 l T n=aa (D,B)->(Xm D B q).objs.toList=(Xm T n q).objs.toList++l
 |[],T,D,n,B,h=>by cases h;simp
 |o::r,T,D,n,B,h=>by
  unfold r6 at h;cases g:((T.ins n o).get n).isSome with
  |false=>rw[g]at h;cases h
  |true =>
   rw[g]at h;rw[qb q h,absHeap_ins g];show((Xm T n q).objs.push o).toList++r=_;simp
def toT(s:RV):Option Xn:=match r6 s.heap.objs.toList .nil 0 with
 |some (T,n)=>aa ⟨T,n,s.heap.life,s.gens,s.drawn,s.toks,s.os⟩|none=>af
def DC(h:toT s=aa t):t.abs=s:=by
 unfold toT at h;cases e:r6 s.heap.objs.toList .nil 0 with
 |none=>rw[e]at h;cases h
 |some r =>
  obtain⟨T,n⟩:=r;rw[e]at h;cases h;have:=qb s.heap.life e;obtain⟨⟨objs,life⟩,g,d,k,o⟩:=s;show Shared.mk (Xm T n life) g d k o=Shared.mk ⟨objs,life⟩ g d k o;have e2:(Xm T n life).objs.toList=objs.toList:=by rw[this];simp[Xm,BT.list]
  have B:(Xm T n life).objs=objs:=Array.toList_inj.mp e2;have q:Xm T n life=⟨objs,life⟩:=by show Heap.mk _ _=Heap.mk _ _;exact bR (Heap.mk · life) B
  rw[q]
noncomputable def m6(tb:String->Option WR)(p:So)(w:SQ)(n₀:Nat)(ann:Option aA):Nat->Xn->Thread->Option Xn
 |0,_,_=>af
 |n+1,s,t=>match through t with
  |true=>aa s
  |false=>match stepOk n₀ ann t with
   |false=>af
   |true=>match stepT (denote tb) p w s t with
    |some (s',t')=>m6 tb p w n₀ ann n s' t'|none=>af
section
variable{tb:String->Option WR}{p:So}{w:SQ}{n₀:Nat}{ann:Option aA}
theorem qc:∀{n:Nat}{s s':Xn}{t:Thread},m6 tb p w n₀ ann n s t=aa s'->topRun tb p w n₀ ann n s.abs t=aa s'.abs
 |0,_,_,_,h=>by cases h
 |n+1,s,s',t,h=>by
  unfold m6 at h;unfold topRun;cases L:through t with
  |true=>rw[L]at h;cases h;rfl
  |false =>
   rw[L]at h;cases J:stepOk n₀ ann t with
   |false=>rw[J]at h;cases h
   |true =>
    rw[J]at h;cases q:stepT (denote tb) p w s t with
    |none=>rw[q]at h;cases h|some r=>obtain⟨D,B⟩:=r;rw[q]at h;dsimp only;rw[stepT_spec q];exact qc h
end
def nC(tb:String->Option WR)(p:So)(w:SQ)(N:Nat)(s₀:RV):Option Xn :=
 match s₀.heap.isNs Ss&&s₀.gens.size==0 with
 |true=>(toT s₀).bind λB=>(m6 tb p w s₀.heap.objs.size (s₀.heap.nsMap Ss "__annotations__") N B (topStub p)).bind λq =>
  match staticsOk (Wp p.main.body) s₀.heap q.abs.heap&&namesBound p q.abs.heap&&gensDone q.abs&&laidKept s₀.heap q.abs.heap with
   |true=>aa q|false=>af
 |false=>af
def uD(h:nC tb p w N s₀=aa t):topFrom tb p w N s₀=aa t.abs:=by
 unfold nC at h;unfold topFrom;cases e:(s₀.heap.isNs Ss&&s₀.gens.size==0)with
 |false=>rw[e]at h;cases h
 |true =>
  rw[e]at h;obtain⟨B,L,h⟩:=Option.bind_eq_some_iff.mp h;obtain⟨q,J,h⟩:=Option.bind_eq_some_iff.mp h;have D:=qc J;rw[DC L]at D;dsimp only;rw[D];show(match _ with|true=>aa q.abs|false=>af)=_;cases e2:(staticsOk (Wp p.main.body) s₀.heap q.abs.heap&&namesBound p q.abs.heap&&gensDone q.abs&&laidKept s₀.heap q.abs.heap)with
  |false=>rw[e2]at h;cases h|true=>rw[e2]at h;cases h;rfl
def j6(tb:String->Option WR)(p:So)(w:SQ)(N:Nat):Option Xn:=(fencedOpening tb p w N).bind (nC tb p w N)
def DE{tb:String->Option WR}{p:So}{w:SQ}{N:Nat}{B:Type}{f:RV->B}{x:B}(h:(j6 tb p w N).map (λt=>f t.abs)=aa x):(openEnds tb p w N).map f=aa x:=by obtain⟨t,D,e⟩:=Option.map_eq_some_iff.mp h;obtain⟨q,L,J⟩:=Option.bind_eq_some_iff.mp D;unfold openEnds;rw[L];show(topFrom tb p w N q).map f=aa x;rw[uD J];exact bR aa e
def zI{q J D B:Type}{o:Option q}{f:q->J×D}{g:q->B}{x:J}{y:D}{z:B}(h1:o.map (λt=>(f t).1)=aa x)(h2:o.map (λt=>(f t).2)=aa y)(L:o.map g=aa z):o.map (λt=>(f t,g t))=aa ((x,y),z):=by
 cases o with
 |none=>cases h2
 |some t =>
  have e1:(f t).1=x:=Sa h1;have e2:(f t).2=y:=Sa h2;have M:g t=z:=Sa L;show aa (f t,g t)=_;rw[←e1,←e2,←M]
theorem good(q:So)(loose:List ay):openGood q loose=(WC q,Yl,ah,ah,PySem.pinGoodD (W5 q),WA q (PySem.W.looseW q loose),WB q loose,Yu q,Yw q loose):=rfl
def LA(tb:String->Option WR)(p q:So)(loose B:List ay)(J:RV->Bool)(D:Bool)(N:Nat)(w:SQ):Prop :=
 (j6 tb p w N).map (λt=>(YE q loose B J D t.abs).1)=aa (WC q)
def LB(tb:String->Option WR)(p q:So)(loose B:List ay)(J:RV->Bool)(D:Bool)(N:Nat)(w:SQ):Prop :=
 (j6 tb p w N).map (λt=>(YE q loose B J D t.abs).2)=aa (Yl,ah,ah,PySem.pinGoodD (W5 q),WA q (PySem.W.looseW q loose),WB q loose,Yu q,Yw q loose)
def LO(tb:String->Option WR)(p:So)(N:Nat){q:Type}(B:RV->q)(D:SQ->q)(w:SQ):Prop:=(j6 tb p w N).map (λt=>B t.abs)=aa (D w)
def DF{tb:String->Option WR}{p q:So}{loose B:List ay}{J:RV->Bool}{D:Bool}{N:Nat}{M:Type}{L:RV->M}{O:SQ->M}{w:SQ}(h1:LA tb p q loose B J D N w)(h2:LB tb p q loose B J D N w)(U:LO tb p N L O w):
 (openEnds tb p w N).map (λs=>(YE q loose B J D s,L s))=aa (openGood q loose,O w):=by
 rw[good];have h:=zI (f:=λt:Xn=>YE q loose B J D t.abs) (g:=λt:Xn=>L t.abs) h1 h2 U;exact DE (f:=λs=>(YE q loose B J D s,L s)) h
end BR
end
section
namespace BG
open PySem PySem.Spec PySem.Calls PyProof.Rows L2
structure FS where
 name:ay
 qual:ay
 params:W9
 body:FuncBody
 scope:TV
 globals:az
 closure:List (ay×az)
 defaults:aA
 builtins:az
 code:Bool
noncomputable def DG(K:RQ)(f:az):Option FS:=match K.lookup f with
 |some ⟨_,_,.func fd,_⟩=>aa ⟨fd.name,fd.qualname,fd.params,fd.body,fd.scope,fd.globals,fd.closure,fd.defaults,fd.builtins,V1 K fd.code fd.qualname⟩|_=>af
noncomputable def vL(x qual:ay)(st:WJ):FS:=⟨x,qual,fX st,.stmts (dS st),c6 st,Ss,[],.none,U8,ah⟩
noncomputable def strOf:aA->Option ay
 |.str x _=>aa x|_=>af
noncomputable def intOf:aA->Option Int
 |.int i _=>aa i|_=>af
noncomputable def refOf:Option (Option aA)->Option az
 |some (aa (.ref a))=>aa a|_=>af
inductive Qy
 |fn(x:ay)(f:az)(st:WJ)|int(x:ay)(n:Int)|aC(x:ay)(f:az)(xs:List ay)|dct(x:ay)(f:az)(kvs:List (ay×Int))|no(x:ay)|cls(c:ay)(C:az)|me(C:az)(m x qual:ay)(f:az)(st:WJ)|mk(C:az)
 |tab(x:ay)(c P:az)|bm(b:az)|fv(x:ay)(f:az)|exc(D:az)(xs:List (ay×az))
 |str(x s:ay)|stp(f:az)(xs:List ay)|dtp(x:ay)(f:az)(kvs:List (ay×az))
inductive Ov
 |fn(a:Option az)(o:Option FS)|int(n:Option Int)|seq(a:Option az)(c:Option (aA×Option az×Nat))(xs:Option (List (Option ay)))|dct(a:Option az)(c:Option (aA×Option az×Nat))(xs:Option (List (Int×Option ay×Option Int)))|b(x:Bool)
noncomputable def shp(o:ao):aA×Option az×Nat:=(o.cls,o.dict,o.slots.size)
def zJ(o:ao):Option (List (Option ay)):=match o.data with
 |.seq q _=>aa (q.toList.map strOf)|_=>af
def Gv(o:ao):Option (List (Int×Option ay×Option Int)):=match o.data with
 |.dict q _=>aa (q.toList.map λe=>(e.hash,strOf e.key,intOf e.val))|_=>af
noncomputable def K3:aA->Option Int
 |.ref a=>aa (a:Int)|_=>af
def K4(o:ao):Option (List (Int×Option ay×Option Int)):=match o.data with
 |.dict q _=>aa (q.toList.map λe=>(e.hash,strOf e.key,K3 e.val))|_=>af
noncomputable def attrs:List ay:=["program","asked","gap","most","kept","farthest","front","now","origins","branches","tape","named"]
def K5(K:RQ)(c:ay)(C:az):Bool:=decide (Te K Ss c=aa (aa (.ref C)))&&Vc K C Str.empty&&UE K C&&Wr K C&&decide (SD K (.ref C) "__setattr__"=aa (aa (.builtin "object.__setattr__"))) &&
 (attrs.all λf=>decide (SD K (.ref C) f=aa af))&&WL K C (.type "type")
noncomputable def meB(K:RQ)(C:az)(m:ay)(f:az):Bool:=decide (SD K (.ref C) m=aa (aa (.ref f)))&&VQ K (.ref f)
noncomputable def mkB(K:RQ)(C:az):Bool:=WM K C&&TY K (.ref C)
noncomputable def bmB(K:RQ)(b:az):Bool:=decide (Te K Ss "__builtins__"=aa (aa (.ref b)))&&decide (b≠U8)&&(match K.lookup b with
 |some ⟨.type "module",aa d,.plain,_⟩=>d==U8
 | _=>ai)
noncomputable def OO(K:RQ)(C D:az):Bool:=match K.lookup C with
 |some ⟨_,_,.cls cd,_⟩=>cd.mro.contains (.ref D)|_=>ai
noncomputable def K6(K:RQ)(c:ay)(C:az):Bool:=decide (Te K Ss c=aa (aa (.ref C)))&&PySem.W.excIn K C [.type "ValueError",.type "Exception",.type "BaseException",.type "object"] "ValueError.__new__"
def OP(K:RQ)(D:az)(xs:List (ay×az))(c:ay)(C:az):Bool:=K6 K c C&&OO K C D&&decide (SD K (.ref C) "__getattribute__"=aa (aa (.builtin "BaseException.__getattribute__")))&&decide (SD K (.ref C) "__getattr__"=aa af) &&
 decide (Wd K C (.type "BaseException")=aa ah)&&UE K C&&decide (SD K (.ref C) "__class__"=aa (aa (.builtin "object.__class__")))&&decide (UD K (.builtin "object.__class__") "__get__"=aa (aa (.builtin "getset_descriptor.__get__"))) &&
 decide (VO K (.builtin "object.__class__")=aa ah)&&decide (Wd K C (.type "object")=aa ah)&&decide (Uj K (.ref C) (.type "ValueError")=aa ah)&&xs.all λq=>decide (Uj K (.ref C) (.ref q.2)=aa (q.1==c))
def OQ(K:RQ)(D:az)(xs:List (ay×az)):Bool:=K6 K "TapeError" D&&xs.all λq=>OP K D xs q.1 q.2
def fN(K:RQ):Qy->Ov
 |.fn x f _=>.fn (refOf (Te K Ss x)) (DG K f)|.int x _=>.int (match Te K Ss x with|some (aa v)=>intOf v|_=>af)|.aC x f _=>.seq (refOf (Te K Ss x)) ((K.lookup f).map shp) ((K.lookup f).bind zJ)|.dct x f _=>.dct (refOf (Te K Ss x)) ((K.lookup f).map shp) ((K.lookup f).bind Gv)|.no x=>.b (decide (Te K Ss x=aa af))|.cls c C=>.b (K5 K c C)|.me C m _ _ f _=>.fn (if meB K C m f then aa f else af) (DG K f)|.mk C=>.b (mkB K C)|.tab x c P=>.b (decide (Ud K x=aa (c,P))&&Wx K c P)|.bm b=>.b (bmB K b)|.fv x f=>.b (decide (Te K Ss x=aa (aa (.ref f)))&&TY K (.ref f))|.exc D q=>.b (OQ K D q)|.str x _=>.seq af af (match Te K Ss x with|some (aa v)=>aa [strOf v]|_=>af)|.stp f _=>.seq af ((K.lookup f).map shp) ((K.lookup f).bind zJ)|.dtp x f _=>.dct (refOf (Te K Ss x)) ((K.lookup f).map shp) ((K.lookup f).bind K4)
def fO(w:SQ):Qy->Ov
 |.fn x f st=>.fn (aa f) (aa (vL x x st))|.int _ n=>.int (aa n)|.aC _ f J=>.seq (aa f) (aa (.type "tuple",af,0)) (aa (J.map aa))|.dct _ f B=>.dct (aa f) (aa (.type "dict",af,0)) (aa (B.map λq=>(PyData.keyHash w.params q.1,aa q.1,aa q.2)))|.no _=>.b ah|.cls _ _=>.b ah|.me _ _ x D f st=>.fn (aa f) (aa (vL x D st))|.mk _=>.b ah|.tab _ _ _=>.b ah|.bm _=>.b ah|.fv _ _=>.b ah|.exc _ _=>.b ah|.str _ s=>.seq af af (aa [aa s])|.stp f J=>.seq af (aa (.type "tuple",af,0)) (aa (J.map aa))|.dtp _ f B=>.dct (aa f) (aa (.type "dict",af,0)) (aa (B.map λq=>(PyData.keyHash w.params q.1,aa q.1,aa (q.2:Int))))
noncomputable def KOf(as:List az)(h:aq):RQ:=as.map λa=>(a,(h.get? a).getD default)
def sees(as:List az)(B:List Qy)(ts:List az):PySem.W.Hook where
 α:=Bool×List Ov×List (Option ao)
 obs:=λs=>(as.all λa=>(s.heap.get? a).isSome,B.map (fN (KOf as s.heap)),ts.map s.heap.get?)
 val:=λw=>(ah,B.map (fO w),ts.map λ_=>aa (VZ #[]))
 says:=λw h=>∃K:RQ,K.map (·.1)=as/\(∀p∈K,h.get? p.1=aa p.2)/\(∀q∈B,fN K q=fO w q)/\∀P∈ts,h.get? P=aa (VZ #[])
 of:=λw s e=>by have e1:=bR Prod.fst e;have e2:=bR (λp=>p.2.1) e;have V:=bR (λp=>p.2.2) e;refine⟨KOf as s.heap,by simp[KOf,Function.comp_def],λp D=>?_,λq L=>List.map_inj_left.mp e2 q L,λP J=>List.map_inj_left.mp V P J⟩;obtain⟨a,O,rfl⟩:=List.mem_map.mp D;have U:=List.all_eq_true.mp e1 a O;obtain⟨o,M⟩:=Option.isSome_iff_exists.mp U;show s.heap.get? a=aa ((s.heap.get? a).getD default);rw[M];rfl
 keeps:=λw h h' ⟨K,m,n,k,t⟩ hk=>⟨K,m,λp D=>hk _ _ (n p D),k,λP J=>hk _ _ (t P J)⟩
end BG
end
section
namespace BL
open PySem PySem.Spec PyProof.Rows L2 BG
noncomputable abbrev pg:So:=PySem.Challenge.pw_backtape_k64_whole_trees
def qg:So:=PySem.W.view pg [0,2,3,4,5,7,8,9,10,11,12,13,14,16,17,18,19,20,21,22,23,24,25,26,27,28,29,30,31,32,33,34,35,36,37,39,40,42,43,45,46,47,48,49,50,51,52,53,54,55]
noncomputable abbrev loo:List ay:=["INNER_COUNTS"]
def top(i:Nat):WJ:=pg.main.body.getD i (.Pass ⟨0,0,0,0⟩)
noncomputable def K7:WJ->List WJ
 |.ClassDef _ _ _ b _ _ _ _ _ _ _=>b|_=>[]
def dR(i j:Nat):WJ:=(K7 (top i)).getD j (.Pass ⟨0,0,0,0⟩)
noncomputable def OR:WJ->Pos
 |.FunctionDef _ _ _ _ _ _ _ _ _ p=>p|_=>⟨0,0,0,0⟩
noncomputable abbrev adr:List az:=[2,3,71,72,78,79,85,86,92,93,99,100,106,107,113,114,120,121,127,128,134,135,141,142,148,149,155,156,162,163,169,170,176,177,183,184,190,191,197,198,204,205,218,219,225,226,232,233,286,287,293,294,300,301,307,308,314,315,321,322,359,360,377,378,380,381,396,397,403,404,410,411,417,418,424,425,431,432,436,437,441,442,453,454,460,461,467,468,474,475,484,485,495,496,502,503,509,510,516,517,521,522,526,527,533,534,540,541,547,548,552,553,557,558]
def qys:List Qy:=[.fn "is_whole" 79 (top 11),
 .fn "is_name" 86 (top 12),
 .fn "is_cell" 93 (top 13),
 .fn "inner_sums" 100 (top 14),
 .fn "begun" 107 (top 23),
 .fn "check_thing" 114 (top 24),
 .fn "worth_in" 121 (top 25),
 .fn "laid_out" 128 (top 26),
 .fn "of_two" 135 (top 27),
 .fn "worth_of" 142 (top 28),
 .fn "reckoned" 149 (top 29),
 .fn "cell_by" 156 (top 30),
 .fn "is_over" 163 (top 31),
 .fn "place_behind" 170 (top 32),
 .fn "with_worth" 177 (top 33),
 .fn "with_name" 184 (top 34),
 .fn "with_thing" 191 (top 35),
 .fn "brought" 198 (top 36),
 .fn "stepped" 205 (top 37),
 .fn "_law_cell" 496 (top 45),
 .fn "_law_drawn" 503 (top 46),
 .fn "_law_sum" 510 (top 47),
 .fn "_law_row" 517 (top 48),
 .fn "_law_program" 522 (top 49),
 .fn "_law_asked" 527 (top 50),
 .fn "_law_thing" 534 (top 51),
 .fn "_law_of" 541 (top 52),
 .fn "_law_tree" 548 (top 53),
 .fn "_law_all" 553 (top 54),
 .fn "law" 558 (top 55),
 .int "CELL_COUNT" 4,
 .int "WORTH_COUNT" 10007,
 .int "ROW" 0,
 .int "NAMES" 1,
 .int "CELLS" 2,
 .int "CALLS" 3,
 .int "ASKED" 4,
 .int "SAID" 5,
 .int "MOST_CALLS" 6,
 .int "MOST_MARKS" 8,
 .aC "LETTERS" 71 ["a","b","c","d","e","f"],
 .dct "INNER_COUNTS" 72 [("num",0),("name",0),("cell",1),("add",2),("sub",2),("mul",2),("less",2)],
 .no "len",
 .no "abs",
 .no "int",
 .no "list",
 .no "tuple",
 .no "isinstance",
 .no "str",
 .no "bool",
 .no "range",
 .no "reversed",
 .no "enumerate",
 .no "zip",
 .no "min",
 .no "max",
 .no "sorted",
 .no "sum",
 .no "all",
 .no "any",
 .no "set",
 .no "ValueError",
 .no "dict",
 .no "worths_of",
 .no "last_change",
 .no "next_change",
 .no "moments_so",
 .no "last_so",
 .no "next_so",
 .no "visits",
 .no "last_visit",
 .no "when_said",
 .no "next_within",
 .no "last_within",
 .no "first_other",
 .no "writer_of",
 .no "judged",
 .no "remade",
 .cls "Tape" 360,
 .mk 360,
 .cls "Branch" 381,
 .mk 381,
 .cls "Tree" 485,
 .mk 485,
 .me 360 "__init__" "__init__" "Tape.__init__" 219 (dR 40 0),
 .me 360 "at" "at" "Tape.at" 226 (dR 40 1),
 .me 360 "end" "end" "Tape.end" 233 (dR 40 2),
 .me 360 "behind" "behind" "Tape.behind" 287 (dR 40 10),
 .me 360 "is_last" "is_last" "Tape.is_last" 294 (dR 40 11),
 .me 360 "keep" "keep" "Tape.keep" 301 (dR 40 12),
 .me 360 "reach" "reach" "Tape.reach" 308 (dR 40 13),
 .me 360 "has" "has" "Tape.has" 315 (dR 40 14),
 .me 360 "check" "check" "Tape.check" 322 (dR 40 15),
 .me 381 "at" "at" "Tape.at" 226 (dR 40 1),
 .me 381 "end" "end" "Tape.end" 233 (dR 40 2),
 .me 381 "behind" "behind" "Tape.behind" 287 (dR 40 10),
 .me 381 "is_last" "is_last" "Tape.is_last" 294 (dR 40 11),
 .me 381 "keep" "keep" "Tape.keep" 301 (dR 40 12),
 .me 381 "reach" "reach" "Tape.reach" 308 (dR 40 13),
 .me 381 "has" "has" "Tape.has" 315 (dR 40 14),
 .me 381 "check" "check" "Tape.check" 322 (dR 40 15),
 .me 381 "__init__" "__init__" "Branch.__init__" 378 (dR 42 0),
 .me 485 "__init__" "__init__" "Tree.__init__" 397 (dR 43 0),
 .me 485 "part" "part" "Tree.part" 404 (dR 43 1),
 .me 485 "at" "at" "Tree.at" 411 (dR 43 2),
 .me 485 "end" "end" "Tree.end" 418 (dR 43 3),
 .me 485 "parent" "parent" "Tree.parent" 425 (dR 43 4),
 .me 485 "path" "path" "Tree.path" 432 (dR 43 5),
 .me 485 "children" "children" "Tree.children" 437 (dR 43 6),
 .me 485 "shared" "shared" "Tree.shared" 442 (dR 43 7),
 .me 485 "ends_with" "ends_with" "Tree.ends_with" 454 (dR 43 9),
 .me 485 "check_run" "check_run" "Tree.check_run" 461 (dR 43 10),
 .me 485 "first" "first" "Tree.first" 468 (dR 43 11),
 .me 485 "holder" "holder" "Tree.holder" 475 (dR 43 12)]
noncomputable abbrev tl:List (ay×az×az):=[]
noncomputable abbrev tas:List az:=[]
abbrev LA:SQ->Prop:=BR.LA treeTable pg qg loo (Wp pg.main.body) (λs=>XI qg [] s&&Xo [] s) ah 7742
def la0(w:SQ):LA (w.withFollow "special-get-raises" ai):=by unfold LA BR.LA;kernel_rfl
def la1(w:SQ):LA (w.withFollow "special-get-raises" ah):=by unfold LA BR.LA;kernel_rfl
abbrev LB:SQ->Prop:=BR.LB treeTable pg qg loo (Wp pg.main.body) (λs=>XI qg [] s&&Xo [] s) ah 7742
def lb0(w:SQ):LB (w.withFollow "special-get-raises" ai):=by unfold LB BR.LB;kernel_rfl
def lb1(w:SQ):LB (w.withFollow "special-get-raises" ah):=by unfold LB BR.LB;kernel_rfl
abbrev LO:SQ->Prop:=BR.LO treeTable pg 7742 (sees adr qys tas).obs (sees adr qys tas).val
def lo0(w:SQ):LO (w.withFollow "special-get-raises" ai):=by unfold LO BR.LO;kernel_rfl
def lo1(w:SQ):LO (w.withFollow "special-get-raises" ah):=by unfold LO BR.LO;kernel_rfl
def left:PySem.W.LeftO pg qg loo (λs=>XI qg [] s&&Xo [] s) (sees adr qys tas).obs (sees adr qys tas).val 7742:=λw=>BR.DF (W4 (P:=LA) "special-get-raises" la0 la1 w) (W4 (P:=LB) "special-get-raises" lb0 lb1 w) (W4 (P:=LO) "special-get-raises" lo0 lo1 w)
end BL
end
section
namespace L2
open PySem PySem.Spec PyProof.Rows
noncomputable abbrev Key:=Sum Int ay
noncomputable def jE:Key->aA->Bool
 |.inl k,v=>W3 k v|.inr x,v=>Wq x v
noncomputable def K8(w:SQ):Key->Int
 |.inl k=>hashInt k|.inr x=>hashStr w x
theorem dG:∀{k:Key}{v:aA},jE k v=ah->(∃i t,k=Sum.inl i/\v=Vs i t)\/(∃x t,k=Sum.inr x/\v=X6 x t)
 |.inl i,v,h=>by obtain⟨t,e⟩:=YM (k:=i) (v:=v) h;exact .inl ⟨i,t,rfl,e⟩
 |.inr x,v,h=>by obtain⟨t,e⟩:=Value.isStrOf_shape (x:=x) (v:=v) h;exact .inr ⟨x,t,rfl,e⟩
def yb(i:Int)(t:Tok):jE (.inl i) (.int i t)=ah:=by simp[jE,W3]
def yc(x:ay)(t:Tok):jE (.inr x) (.str x t)=ah:=by simp[jE,Wq]
def G4(a b:Int):decide ((Sum.inl a:Key)=Sum.inl b)=(a==b):=by
 by_cases e:a=b
 subst e;simp
 ·have h:¬(Sum.inl a:Key)=Sum.inl b:=λq=>e (Sum.inl.inj q);rw[bN h];exact(beq_eq_false_iff_ne.mpr e).symm
def G5(a b:ay):decide ((Sum.inr a:Key)=Sum.inr b)=decide (a=b):=by
 by_cases e:a=b
 subst e;simp
 ·have h:¬(Sum.inr a:Key)=Sum.inr b:=λq=>e (Sum.inr.inj q);rw[bN h,bN e]
def G6(a:Int)(b:ay):decide ((Sum.inl a:Key)=Sum.inr b)=ai:=bN (λq=>nomatch q)
def G7(a:ay)(b:Int):decide ((Sum.inr a:Key)=Sum.inl b)=ai:=bN (λq=>nomatch q)
def dH(prog:So)(w:SQ):PySem.KeyKind prog w Key where
 is:=jE
 hash:=K8 w
 inj:=λv a b J B=>by
  rcases dG J with⟨i,t,rfl,rfl⟩|⟨x,t,rfl,rfl⟩
  ·rcases dG B with⟨j,u,rfl,e⟩|⟨y,u,rfl,e⟩
   ·injection e with e1 _;rw[e1]
   exact nomatch e
  ·rcases dG B with⟨j,u,rfl,e⟩|⟨y,u,rfl,e⟩
   exact nomatch e
   ·injection e with e1 _;rw[e1]
 byValue:=λk v h=>by rcases dG h with⟨i,t,rfl,rfl⟩|⟨x,t,rfl,rfl⟩<;>rfl
 pyHash:=λq h=>by
  rcases dG q with⟨i,t,rfl,rfl⟩|⟨x,t,rfl,rfl⟩
  exact wpAny_pyHash_int h;exact wpAny_pyHash_str h
 eqBool:=λD q h=>by
  rcases dG D with⟨i,t,rfl,rfl⟩|⟨x,t,rfl,rfl⟩
  ·rcases dG q with⟨j,u,rfl,rfl⟩|⟨y,u,rfl,rfl⟩
   rw[G4]at h;exact wpAny_eqBool_int h;rw[G6]at h;exact SeqAt.EqAt.int_str i t y u _ _ _ _ h
  ·rcases dG q with⟨j,u,rfl,rfl⟩|⟨y,u,rfl,rfl⟩
   rw[G7]at h;exact SeqAt.EqAt.str_int x t j u _ _ _ _ h;rw[G5]at h;exact wpAny_eqBool_str h
 «strs»:=λk x t v h=>by
  rcases dG h with⟨i,u,rfl,e⟩|⟨y,u,rfl,e⟩
  exact nomatch e
  ·injection e with e1 _
   subst e1;cases v<;>rfl
def r8(prog:So)(w:SQ)(i:Int)(t:Tok):(dH prog w).is (.inl i) (.int i t)=ah:=yb i t
def iP(prog:So)(w:SQ)(x:ay)(t:Tok):(dH prog w).is (.inr x) (.str x t)=ah:=yc x t
end L2
namespace L2
open PySem PySem.Spec PyProof.Rows
inductive V
 |aD|bl(b:Bool)|int(i:Int)|str(x:ay)|byt(b:Array UInt8)|flt(b:UInt64)|ref(a:az)|ty(n:String)
 deriving DecidableEq
noncomputable def RelV:V->aA->Prop
 |.aD,u=>u=T5|.bl b,u=>u=VE b|.int i,u=>∃t,u=Vs i t|.str x,u=>∃t,u=X6 x t|.byt b,u=>∃t,u=Value.bytes b t|.flt b,u=>∃t,u=Value.float b t|.ref a,u=>u=S7 a|.ty n,u=>u=UL n
abbrev dg:List V->List aA->Prop:=Paired RelV
def dg.length{xs:List V}{us:List aA}(r:dg xs us):xs.length=us.length:=Paired.length r
theorem dg.get:∀{xs:List V}{us:List aA}{i:Nat}{x:V},dg xs us->xs[i]?=aa x->∃u,us[i]?=aa u/\RelV x u
 |_,_,_,_,.nil,e=>by simp at e
 |_,_,0,_,.cons r _,e=>by simp at e;subst e;exact⟨_,rfl,r⟩
 |_,_,i+1,x,.cons _ t,e=>by obtain⟨u,B,q⟩:=dg.get (i:=i) (x:=x) t (by simpa using e);exact⟨u,by simpa using B,q⟩
theorem dg.set{x:V}{u:aA}(r:RelV x u):∀{xs:List V}{us:List aA}(i:Nat),dg xs us->dg (xs.set i x) (us.set i u)
 |_,_,_,.nil=>.nil|_,_,0,.cons _ t=>.cons r t|_,_,i+1,.cons q t=>.cons q (dg.set r i t)
theorem dg.append:∀{xs ys:List V}{us ws:List aA},dg xs us->dg ys ws->dg (xs++ys) (us++ws)
 |_,_,_,_,.nil,s=>s|_,_,_,_,.cons r t,s=>.cons r (dg.append t s)
theorem dg.take:∀{xs:List V}{us:List aA}(n:Nat),dg xs us->dg (xs.take n) (us.take n)
 |_,_,0,_=>.nil|_,_,_+1,.nil=>.nil|_,_,n+1,.cons r t=>.cons r (dg.take n t)
theorem dg.drop:∀{xs:List V}{us:List aA}(n:Nat),dg xs us->dg (xs.drop n) (us.drop n)
 |_,_,0,r=>r|_,_,_+1,.nil=>.nil|_,_,n+1,.cons _ t=>dg.drop n t
def nE:Option V->Option aA->Prop
 |some v,aa u=>RelV v u|none,af=>True|_,_=>False
def KV{κ:Type}:List (κ×V)->List (κ×aA)->Prop:=Paired λ(p:κ×V)(q:κ×aA)=>p.1=q.1/\RelV p.2 q.2
noncomputable def kV:Key->V
 |.inl i=>.int i|.inr x=>.str x
inductive HO
 |aB(xs:List V)
 |aC(xs:List V)
 |dK(kvs:List (Key×V))|dT(kvs:List (List Key×V))
 |set(S:Int->Bool)(n:Nat)
 |ins(C dx:az)(fs:List (ay×V))
 |own(x:az)
 |xd(fs:List (ay×V))
 |met(f x:az)
 |rng(lo hi:Int)
 |frz(o:ao)(u:HO)
 |tbl(ps:Array aA)
 |ext(q:aq->Prop)
noncomputable abbrev Hp:=az->Option HO
noncomputable def upd(H:Hp)(a:az)(o:HO):Hp:=λb=>if b=a then aa o else H b
def eN{H:Hp}{a:az}{o:HO}:upd H a o a=aa o:=by unfold upd;rw[bJ rfl]
def dB{H:Hp}{a b:az}{o:HO}(h:b≠a):upd H a o b=H b:=by unfold upd;rw[bK h]
def dW{H:Hp}{a b:az}{o:HO}(h:H a=aa o)(h':H b=af):a≠b:=by intro e;subst e;rw[h]at h';cases h'
section
variable(P:So)(w:SQ)
def gG(H:Hp)(h:aq)(a:az):HO->Prop
 |.aB J=>J.length<=aj/\∃(D:List aA) (n:Nat),dg J D/\h.get? a=aa {cls:=.type "list",data:=.seq D.toArray n}|.aC J=>J.length<=aj/\∃D:List aA,dg J D/\IsTup h a D.toArray|.dK B=>B.length<=aj/\(a==Vj)=ai/\∃U,KV B U/\h.DictOf (dH P w) a U
 |.dT B=>B.length<=aj/\(a==Vj)=ai/\∃J:List (List Key×az×aA),
  Paired (λ(p:List Key×V)(q:List Key×az×aA)=>p.1=q.1/\H q.2.1=aa (.aC (p.1.map kV))/\RelV p.2 q.2.2) B J ∧
  ∃o Z d,h.get? a=aa o/\o.ExactDict/\o.data=.dict Z d/\Z.toList=J.map (entryOfKey (tupleKind (dH P w)))/\(J.map (·.1)).Nodup
 |.set S n=>h.SetOf (intKind P w) a S n|.ins C M fs=>H M=aa (.own a)/\fs.length<=1000/\M≠a/\h.get? a=aa (Uo C M) ∧
  ∃L,h.Ns1 M L/\(∀f,nE (fs.lookup f) (L f))/\X7 L (fs.map (·.1))
 |.own _=>∃o,h.get? a=aa o|.xd fs=>∃L,h.Ns1 a L/\∀f,nE (fs.lookup f) (L f)|.rng lo c=>∃t u v,h.get? a=aa {cls:=.type "range",data:=.fields #[.int lo t,.int c u,.int 1 v]}|.frz o u=>h.get? a=aa o/\gG H h a u|.tbl b=>h.get? a=aa {cls:=.none,data:=.fields b}|.met f x=>h.get? a=aa (Ws (.ref f) (.ref x))|.ext O=>O h/\(∃o,h.get? a=aa o)/\∀Y W:aq,O Y->(∀o,Y.get? a=aa o->W.get? a=aa o)->O W
def HOk(H:Hp)(h:aq):Prop:=∀a o,H a=aa o->gG P w H h a o
end
section
variable{P:So}{w:SQ}{H H':Hp}{h h':aq}{a:az}{o:HO}
def gG.lt(x:gG P w H h a o):a<h.objs.size:=by
 cases o with
 |aB q=>obtain⟨_,_,_,_,e⟩:=x;exact R6 e|aC q=>obtain⟨_,_,_,p⟩:=x;exact p.lt|set S n=>obtain⟨o,_,_,_,e,_⟩:=x;exact R6 e|ins C L fs=>obtain⟨_,_,_,e,_⟩:=x;exact R6 e|own y=>obtain⟨_,e⟩:=x;exact R6 e|xd fs=>obtain⟨_,⟨_,_,_,e,_⟩,_⟩:=x;exact R6 e|rng lo J=>obtain⟨_,_,_,e⟩:=x;exact R6 e|frz ob u=>obtain⟨e,_⟩:=x;exact R6 e|tbl D=>exact R6 (show h.get? a=aa _ from x)|met f y=>exact R6 (show h.get? a=aa _ from x)|ext B=>obtain⟨_,⟨_,e⟩,_⟩:=x;exact R6 e|_=>obtain⟨_,_,_,_,o,_,_,e,_⟩:=x;exact R6 e
theorem Paired.K9{D B:Type}{F G:D->B->Prop}:∀{q:List D}{l₂:List B},Paired F q l₂->(∀a b,F a b->G a b)->Paired G q l₂
 |_,_,.nil,_=>.nil|_,_,.cons r t,f=>.cons (f _ _ r) (Paired.K9 t f)
def gG.stay(x:gG P w H h a o)(k:∀b u,(b=a\/H b=aa (.own a))->h.get? b=aa u->h'.get? b=aa u)
(g:∀b,H b=aa (.own a)->H' b=aa (.own a))(Z:∀b xs,H b=aa (.aC xs)->H' b=aa (.aC xs)):gG P w H' h' a o:=by
 induction o with
 |aB xs=>obtain⟨z,J,n,r,e⟩:=x;exact⟨z,J,n,r,k _ _ (.inl rfl) e⟩|aC xs=>obtain⟨z,J,r,ob,e,c⟩:=x;exact⟨z,J,r,ob,k _ _ (.inl rfl) e,c⟩|dK O=>obtain⟨z,y,V,r,ob,B,D,e,c⟩:=x;exact⟨z,y,V,r,ob,B,D,k _ _ (.inl rfl) e,c⟩
 |dT O =>
  obtain⟨z,y,xs,r,ob,B,D,e,c⟩:=x;exact⟨z,y,xs,Paired.K9 r λp q z=>⟨z.1,Z _ _ z.2.1,z.2.2⟩,ob,B,D,k _ _ (.inl rfl) e,c⟩
 |set S n=>obtain⟨ob,B,D,t,e,c⟩:=x;exact⟨ob,B,D,t,k _ _ (.inl rfl) e,c⟩
 |ins C l fs =>
  obtain⟨d,z,W,e,M,⟨L,B,D,e2,c⟩,r⟩:=x;exact⟨g _ d,z,W,k _ _ (.inl rfl) e,M,⟨L,B,D,k _ _ (.inr d) e2,c⟩,r⟩
 |own y=>obtain⟨ob,e⟩:=x;exact⟨ob,k _ _ (.inl rfl) e⟩|xd fs=>obtain⟨M,⟨L,B,D,e,c⟩,r⟩:=x;exact⟨M,⟨L,B,D,k _ _ (.inl rfl) e,c⟩,r⟩|rng lo j=>obtain⟨t,u,v,e⟩:=x;exact⟨t,u,v,k _ _ (.inl rfl) e⟩|frz ob u Y=>obtain⟨e,q⟩:=x;exact⟨k _ _ (.inl rfl) e,Y q⟩
 |tbl U =>
  have e:h.get? a=aa {cls:=.none,data:=.fields U}:=x;show h'.get? a=aa {cls:=.none,data:=.fields U};exact k a _ (.inl rfl) e
 |met f y =>
  have e:h.get? a=aa (Ws (.ref f) (.ref y)):=x;show h'.get? a=aa (Ws (.ref f) (.ref y));exact k a _ (.inl rfl) e
 |ext i=>obtain⟨p,⟨o,e⟩,st⟩:=x;exact⟨st _ _ p λo q=>k _ _ (.inl rfl) q,⟨o,k _ _ (.inl rfl) e⟩,st⟩
def HOk.lt(x:HOk P w H h)(e:H a=aa o):a<h.objs.size:=(x a o e).lt
def HOk.fresh(x:HOk P w H h)(e:h.objs.size<=a):H a=af:=by
 cases q:H a with
 |none=>rfl|some u=>exact bL (Sx (x.lt q) e) (To _)
def HOk.aH(x:HOk P w H h)(k:∀b u,h.get? b=aa u->h'.get? b=aa u):HOk P w H h':=λa o e =>
 (x a o e).stay (λb u _ q=>k b u q) (λ_ q=>q) λ_ _ q=>q
def HOk.laid(x:HOk P w H h)(k:∀b u,h.get? b=aa u->h'.get? b=aa u)(D:h.objs.size<=a)(new:gG P w (upd H a o) h' a o):HOk P w (upd H a o) h':=λb u e=>by
 have hn:=x.fresh D
 by_cases B:b=a
 subst B;rw[eN]at e;cases e;exact new
 ·rw[dB B]at e;exact(x b u e).stay (λc v _ q=>k c v q) (λc q=>by rw[dB (dW q hn)];exact q) λc J q=>by rw[dB (dW q hn)];exact q
end
def Rd(H:Hp)(a:az)(u:HO):Prop:=H a=aa u\/∃o,H a=aa (.frz o u)
def Rd.ok{P:So}{w:SQ}{H:Hp}{h:aq}{a:az}{u:HO}(r:Rd H a u)(x:HOk P w H h):gG P w H h a u:=by
 rcases r with r|⟨o,r⟩
 exact x a u r
 ·obtain⟨_,q⟩:=x a _ r;exact q
noncomputable def Mut:Option HO->Prop
 |some (.aB _)=>True|some (.dK _)=>True|some (.dT _)=>True|some (.set _ _)=>True|some (.ins _ _ _)=>True|some (.ext _)=>True|_=>False
section
variable{P:So}{w:SQ}{H:Hp}{h h':aq}{x e:az}{o':HO}
def HOk.write(ok:HOk P w H h)(mu:Mut (H x))(W:e=x\/H e=aa (.own x))(k:∀b u,b≠e->h.get? b=aa u->h'.get? b=aa u)(U:∃u,h'.get? e=aa u)
(new:gG P w (upd H x o') h' x o'):HOk P w (upd H x o') h':=λb u q=>by
 have D:∀c y,H c=aa (.own y)->c≠x:=λc y r z=>by subst z;rw[r]at mu;exact mu
 have J:∀c L,H c=aa (.aC L)->c≠x:=λc L r z=>by subst z;rw[r]at mu;exact mu
 by_cases O:b=x
 subst O;rw[eN]at q;cases q;exact new
 ·rw[dB O]at q
  by_cases B:b=e
  ·have V:H b=aa (.own x):=by
    rcases W with z|z
    exact bL (B.trans z) O;rw[B];exact z
   rw[q]at V;cases V;obtain⟨v,Y⟩:=U;exact⟨v,by rw[B];exact Y⟩
  ·refine(ok b u q).stay (λc v M r=>k c v ?_ r) (λc r=>by rw[dB (D c b r)];exact r) λc L r=>by rw[dB (J c L r)];exact r
   rcases M with rfl|M
   exact B
   ·rintro rfl
    rcases W with z|z
    exact D c b M z;rw[M]at z;cases z;exact O rfl
end
structure Un(fs ex:List az)(H H':Hp)(h h':aq):Prop where
 keep:∀b o,h.get? b=aa o->H b=af->b∉fs->b∉ex->h'.get? b=aa o
 slot:∀b o,h.get? b=aa o->H b=af->b∈fs->b∉ex->∃sl,h'.get? b=aa {o with slots:=sl}
 free:∀b o,h.get? b=aa o->H b=af->b∉ex->H' b=af
 there:∀b o,h.get? b=aa o->b∉ex->∃o',h'.get? b=aa o'
 tups:∀b xs,H b=aa (.aC xs)->H' b=aa (.aC xs)
 frzs:∀b o u,H b=aa (.frz o u)->H' b=aa (.frz o u)
 tbls:∀b ps,H b=aa (.tbl ps)->∃more,H' b=aa (.tbl (ps++more))
section
variable{fs fs' ex ex':List az}{H H1 H2:Hp}{h h1 h2 h':aq}{a x e:az}{o:HO}
def Un.any(u:Un fs ex H H1 h h1){b:az}{ob:ao}(q:h.get? b=aa ob)(n:H b=af)(B:b∉ex):∃J,h1.get? b=aa {ob with slots:=J}:=by
 by_cases D:b∈fs
 exact u.slot b ob q n D B;exact⟨ob.slots,u.keep b ob q n D B⟩
def Un.aH(k:∀b u,h.get? b=aa u->h'.get? b=aa u):Un fs ex H H h h' :=
 ⟨λb ob q _ _ _=>k b ob q,λb ob q _ _ _=>⟨ob.slots,k b ob q⟩,λ_ _ _ n _=>n,λb ob q _=>⟨ob,k b ob q⟩,λ_ _ q=>q,λ_ _ _ q=>q,λ_ B q=>⟨#[],by rw[q];simp⟩⟩
def Un.refl:Un fs ex H H h h:=Un.aH λ_ _ q=>q
theorem Un.laid(k:∀b u,h.get? b=aa u->h'.get? b=aa u)(D:h.objs.size<=a)(hn:H a=af):Un fs ex H (upd H a o) h h' where
 keep:=λb u q _ _ _=>k b u q
 slot:=λb u q _ _ _=>⟨u.slots,k b u q⟩
 free:=λb u q n _=>by rw[dB (SA (Sx (R6 q) D))];exact n
 there:=λb u q _=>⟨u,k b u q⟩
 tups:=λb B q=>by rw[dB (dW q hn)];exact q
 frzs:=λb u B q=>by rw[dB (dW q hn)];exact q
 tbls:=λb J q=>⟨#[],by rw[dB (dW q hn),q];simp⟩
def Un.write(mu:Mut (H x))(U:e=x\/H e=aa (.own x))(k:∀b u,b≠e->h.get? b=aa u->h'.get? b=aa u)(J:∃u,h'.get? e=aa u):Un fs ex H (upd H x o) h h':=by
 have L:∀b,H b=af->b≠x:=λb n z=>by subst z;rw[n]at mu;exact mu
 have M:∀b,H b=af->b≠e:=λb n z=>by
  subst z;rcases U with r|r
  exact L b n r;rw[n]at r;cases r
 have D:∀b u,H b=aa u->¬Mut (aa u)->b≠x:=λb u q nm z=>by subst z;rw[q]at mu;exact nm mu
 refine ⟨λb u q n _ _=>k b u (M b n) q,λb u q n _ _=>⟨u.slots,k b u (M b n) q⟩,λb u q n _=>by rw[dB (L b n)];exact n,λb u q _=>?_,
  λb O q=>by rw[dB (D b _ q λz=>z)];exact q,λb u O q=>by rw[dB (D b _ q λz=>z)];exact q,λb V q=>⟨#[],by rw[dB (D b _ q λz=>z),q];simp⟩⟩
 by_cases B:b=e
 subst B;exact J;exact⟨u,k b u B q⟩
end
noncomputable def trk(h:aq)(H:Hp):List az:=(Sk h.objs.size).filter λa=>(H a).isSome
def r9(h:aq)(H:Hp):aq:=PySem.W.hideAll h (trk h H)
def yd(h:aq)(H:Hp):(r9 h H).objs.size=h.objs.size:=PySem.W.hideAll_size _ _
def sf{h:aq}{H:Hp}{b:az}{o:ao}(e:h.get? b=aa o)(n:H b=af):(r9 h H).get? b=aa o :=
 PySem.W.hideAll_get _ e λB=>by have q:(H b).isSome=ah:=(List.mem_filter.mp B).2;rw[n]at q;simp at q
def DH{h:aq}{H:Hp}{b:az}{o:ao}(e:(r9 h H).get? b=aa o):h.get? b=aa o/\H b=af:=by
 have B:h.get? b=aa o:=PySem.W.of_hideAll (trk h H) e;refine⟨B,?_⟩;cases q:H b with
 |none=>rfl
 |some x =>
  have D:b∈trk h H:=List.mem_filter.mpr ⟨List.mem_range.mpr (R6 B),by simp[q]⟩;have z:(r9 h H).get? b=af:=PySem.W.hideAll_none (trk h H) D;rw[z]at e;cases e
noncomputable def DI(g h:aq)(L:az):List (az×ao):=(Sk h.objs.size).filterMap λa=>if a=L\/(g.get? a).isSome=ah then af else(h.get? a).map λo=>(a,o)
def rest(g h:aq)(L d:az):List (az×ao):=(DI g h L).filter λp=>decide (p.1≠d)
end L2
namespace L2
open PySem PySem.Spec PyProof.Rows
structure Mod(K:RQ)(mg:ay->Option aA)(base:aq):Prop where
 kin:K.In base
 glob:base.Ns Ss mg
 blt:∃mb,base.Ns U8 mb/\∀x:ay,x≠"__name__"->mb x=VM x
 nolimit:base.NoLimit
structure Cx where
 prog:So
 w:SQ
 K:RQ
 mg:ay->Option aA
 base:aq
 A:TF
 N:List ay
 s₀:RV
 H₀:Hp
 env:Env
 outer:List Env
 stack:List Env
 ex:List az
 fn:ay->Bool
 calm:Bool
 pn:List (az×ao)
 xe:aA->RV->Prop
noncomputable def frs(l:List Env):List az:=l.filterMap (·.frame)
noncomputable abbrev Cx.fs(X:Cx):List az:=frs X.outer
def Vis(sc:TV)(x:ay):Prop:=sc.names.lookup x=aa .local\/sc.names.lookup x=aa .cell\/sc.names.lookup x=aa .free
def Loc(sc:TV)(x:ay):Prop:=sc.names.lookup x=aa .local\/sc.names.lookup x=aa .cell
def Look(env:Env)(h:aq)(m:ay->Option aA)(x:ay)(u:aA):Prop :=
 (env.kindOf x=aa .local/\m x=aa u)\/((env.kindOf x=aa .cell\/env.kindOf x=aa .free)/\∃c,env.cells.lookup x=aa c/\h.IsCell c (aa u))
structure Cx.Ok(X:Cx):Prop where
 mod:Mod X.K X.mg X.base
 kind:X.env.scope.kind=.function
 glob:X.env.globals=Ss
 blt:X.env.builtins=U8
 above:X.s₀.heap.objs.size<=X.env.locals
 inj:∀x y c,X.env.cells.lookup x=aa c->X.env.cells.lookup y=aa c->x=y
 has:∀x,(X.env.kindOf x=aa .cell\/X.env.kindOf x=aa .free)->∃c,X.env.cells.lookup x=aa c
 cab:∀x c,X.fn x=ah->X.env.cells.lookup x=aa c->X.s₀.heap.objs.size<=c
 hd:X.calm=ah->X.A.handled=af
 frames:X.A.frames=aa X.stack
 stk:X.stack=X.outer\/(X.stack=X.env::X.outer/\X.env.frame=aa X.env.locals)
 exf:∀b∈X.ex,b≠X.env.locals/\∀x c,X.env.cells.lookup x=aa c->c≠b
 bs:∀b o,X.base.get? b=aa o->X.s₀.heap.get? b=aa o/\X.H₀ b=af
 bsz:X.base.objs.size<=X.s₀.heap.objs.size
 noex:∀b o,X.base.get? b=aa o->b∉X.ex
 exfs:∀b∈X.ex,b∉X.fs
 lY:X.s₀.heap.FunFrames X.base X.outer
 frf:∀b∈X.fs,X.H₀ b=af
structure Inv(X:Cx)(zt:List (az×ao))(σ:List (Option V))(H:Hp)(s:RV):Prop where
 ok:X.Ok
 os:s.os=X.s₀.os
 bare:Yc s.gens
 base:Un X.fs X.ex X.H₀ H X.s₀.heap s.heap
 loc:∃m,s.heap.Ns X.env.locals m/\∀(i:Nat)(x:ay)(v:V),X.N[i]?=aa x->σ[i]?=aa (aa v)->Vis X.env.scope x->∃u,RelV v u/\Look X.env s.heap m x u
 cell:∀x c,X.env.cells.lookup x=aa c->∃v,s.heap.IsCell c v
 free:H X.env.locals=af
 freeC:∀x c,X.env.cells.lookup x=aa c->H c=af
 pin:∀p∈X.pn++zt,s.heap.get? p.1=aa p.2/\H p.1=af/\p.1≠X.env.locals/\p.1∉X.fs/\∀v,p.2.data≠.cell v
 aJ:HOk X.prog X.w H s.heap
 len:σ.length=X.N.length
section
variable{X:Cx}{zt:List (az×ao)}{σ:List (Option V)}{H H':Hp}{s:RV}{h':aq}
def Cx.Ok.OS(ok:X.Ok){b:az}{o:ao}(e:X.base.get? b=aa o):b∉X.fs:=λq=>by have:=(ok.lY.mem q).1;rw[e]at this;cases this
def Inv.bs(I:Inv X zt σ H s):∀b o,X.base.get? b=aa o->s.heap.get? b=aa o/\H b=af:=λb o e =>
 ⟨I.base.keep b o (I.ok.bs b o e).1 (I.ok.bs b o e).2 (I.ok.OS e) (I.ok.noex b o e),I.base.free b o (I.ok.bs b o e).1 (I.ok.bs b o e).2 (I.ok.noex b o e)⟩
def Inv.bk(I:Inv X zt σ H s):∀b o,X.base.get? b=aa o->s.heap.get? b=aa o:=λb o e=>(I.bs b o e).1
def Inv.mod(I:Inv X zt σ H s):Mod X.K X.mg X.base:=I.ok.mod
def Inv.kIn(I:Inv X zt σ H s):X.K.In s.heap:=I.ok.mod.kin.keeps I.bk
def Inv.lt(I:Inv X zt σ H s):X.env.locals<s.heap.objs.size:=let ⟨_,hn,_⟩:=I.loc;hn.lt
def Inv.sz(I:Inv X zt σ H s):X.s₀.heap.objs.size<=s.heap.objs.size:=SK I.ok.above (Uu I.lt)
def Inv.OT(I:Inv X zt σ H s){a:az}(h:s.heap.objs.size<=a):a∉X.fs:=λB=>by obtain⟨_,o,q,_⟩:=I.ok.lY.mem B;exact bL (Sx (R6 q) (SK I.sz h)) (To _)
def Inv.cne(I:Inv X zt σ H s):∀x c,X.env.cells.lookup x=aa c->c≠X.env.locals:=λx c e z=>by obtain⟨v,o,D,J⟩:=I.cell x c e;obtain⟨m,⟨L,M,O,q,B,_⟩,_⟩:=I.loc;rw[z,q]at D;cases D;rw[B]at J;cases J
def Inv.lY(I:Inv X zt σ H s):s.heap.FunFrames X.base X.outer:=by
 have all:∀(l:List Env),(∀b∈frs l,b∈X.fs)->X.s₀.heap.FunFrames X.base l->s.heap.FunFrames X.base l:=by
  intro l
  induction l with
  |nil=>intro _ _;trivial
  |cons Z r M =>
   intro J V;obtain⟨W,⟨L,o,q,hn,U,Y⟩,O⟩:=V;have D:L∈X.fs:=J L (by unfold frs;rw[SC,q];exact Sj);obtain⟨a,e⟩:=I.base.slot L o U (I.ok.frf L D) D λz=>I.ok.exfs L z D;exact⟨W,⟨L,_,q,hn,e,Y⟩,M (λb B=>J b (by unfold frs;rw[SC,q];exact Sb _ B)) O⟩
 exact all X.outer (λ_ B=>B) I.ok.lY
def Inv.stack(I:Inv X zt σ H s):s.heap.FunFrames X.base X.stack:=by
 rcases I.ok.stk with e|⟨e,hf⟩
 rw[e];exact I.lY
 ·rw[e];obtain⟨m,hn,_⟩:=I.loc;refine .cons (by rw[I.ok.kind];decide) hf hn ?_ I.lY;exact Heap.get?_none_of_le (SK I.ok.bsz I.ok.above)
def Inv.qH(I:Inv X zt σ H s):∀b∈frs X.stack,b∈X.env.locals::X.fs:=λb q=>by
 rcases I.ok.stk with e|⟨e,hf⟩
 rw[e]at q;exact Sb _ q
 ·rw[e]at q;unfold frs at q;rw[SC,hf]at q;exact q
def Inv.vM(I:Inv X zt σ H s):∀b∈frs X.stack,H b=af:=λb q=>by
 rcases List.mem_cons.mp (I.qH b q)with e|q
 rw[e];exact I.free
 ·obtain⟨_,o,B,_⟩:=I.ok.lY.mem q;exact I.base.free b o B (I.ok.frf b q) λz=>I.ok.exfs b z q
def Inv.step{g':Array GenState}{t':Nat}{d':Drawn}{ch:List az}(I:Inv X zt σ H s)
(J:∀b∈ch,(b∈X.ex\/X.s₀.heap.objs.size<=b)/\b≠X.env.locals/\(∀x c,X.env.cells.lookup x=aa c->c≠b)/\∀p∈X.pn++zt,p.1≠b)
(keep:∀b o,b≠X.env.locals->b∉X.fs->b∉ch->s.heap.get? b=aa o->H b=af->h'.get? b=aa o)
(slot:∀b o,b≠X.env.locals->b∈X.fs->b∉ch->s.heap.get? b=aa o->H b=af->∃Z,h'.get? b=aa {o with slots:=Z})(free:∀b o,b∉ch->s.heap.get? b=aa o->H b=af->H' b=af)
(there:∀b o,b∉ch->s.heap.get? b=aa o->∃o',h'.get? b=aa o')
(tups:∀b xs,H b=aa (.aC xs)->H' b=aa (.aC xs))(frzs:∀b o u,H b=aa (.frz o u)->H' b=aa (.frz o u))(tbls:∀b ps,H b=aa (.tbl ps)->∃W,H' b=aa (.tbl (ps++W)))
(ns:∀m,s.heap.Ns X.env.locals m->h'.Ns X.env.locals m)(F:HOk X.prog X.w H' h')(C:Yc g'):
 Inv X zt σ H' {s with heap:=h',gens:=g',drawn:=d',toks:=t'}:=by
 have V:∀b o,X.s₀.heap.get? b=aa o->b≠X.env.locals:=λb o e=>SA (Sx (R6 e) I.ok.above);have M:∀b o,X.s₀.heap.get? b=aa o->b∉X.ex->b∉ch:=λb o e B O=>by
  rcases (J b O).1 with z|z
  exact B z;exact bL (Sx (R6 e) z) (To _)
 have L:∀x c,X.env.cells.lookup x=aa c->∀v,s.heap.IsCell c v->h'.IsCell c v:=λx c e v ⟨o,U,a⟩=>by
  have D:c∉ch:=λz=>(J c z).2.2.1 x c e rfl
  by_cases j:c∈X.fs
  ·obtain⟨Z,q⟩:=slot c o (I.cne x c e) j D U (I.freeC x c e);exact⟨_,q,a⟩
  exact⟨o,keep c o (I.cne x c e) j D U (I.freeC x c e),a⟩
 refine⟨I.ok,I.os,C,⟨λb o e n O B=>?_,λb o e n O B=>?_,λb o e n B=>?_,λb o e B=>?_,λb xs e=>tups b xs (I.base.tups b xs e),λb o xs e=>frzs b o xs (I.base.frzs b o xs e),λb ps e=>?_⟩,?_,λx c e=>?_,?_,λx c e=>?_,λp h=>?_,F,I.len⟩;exact keep b o (V b o e) O (M b o e B) (I.base.keep b o e n O B) (I.base.free b o e n B)
 ·obtain⟨Z,e1⟩:=I.base.slot b o e n O B;obtain⟨Y,e2⟩:=slot b _ (V b o e) O (M b o e B) e1 (I.base.free b o e n B);exact⟨Y,e2⟩
 ·obtain⟨o',e1⟩:=I.base.there b o e B;exact free b o' (M b o e B) e1 (I.base.free b o e n B)
 ·obtain⟨o',e1⟩:=I.base.there b o e B;exact there b o' (M b o e B) e1
 ·obtain⟨y,e1⟩:=I.base.tbls b ps e;obtain⟨t,e2⟩:=tbls b _ e1;exact⟨y++t,by rw[e2,Array.append_assoc]⟩
 ·obtain⟨m,hn,A⟩:=I.loc;refine⟨m,ns m hn,λi x v e1 e2 E=>?_⟩;obtain⟨u,r,l⟩:=A i x v e1 e2 E;refine⟨u,r,?_⟩;rcases l with l|⟨k,c,e,z⟩
  exact .inl l;exact .inr ⟨k,c,e,L x c e _ z⟩
 ·obtain⟨v,z⟩:=I.cell x c e;exact⟨v,L x c e v z⟩
 ·obtain⟨m,⟨o,_,_,U,_⟩,_⟩:=I.loc;exact free _ o (λz=>(J _ z).2.1 rfl) U I.free
 ·obtain⟨v,o,U,a⟩:=I.cell x c e;exact free c o (λz=>(J c z).2.2.1 x c e rfl) U (I.freeC x c e)
 ·obtain⟨e,n,g,f,d⟩:=I.pin p h;have D:p.1∉ch:=λz=>(J p.1 z).2.2.2 p h rfl;exact⟨keep p.1 p.2 g f D e n,free p.1 p.2 D e n,g,f,d⟩
def Inv.un{t':Nat}(I:Inv X zt σ H s)(u:Un X.fs [] H H' s.heap h')(V:HOk X.prog X.w H' h'):Inv X zt σ H' {s with heap:=h',toks:=t'}:=by
 obtain⟨m,⟨o,a,c,L,r⟩,_⟩:=id I.loc;obtain⟨W,U⟩:=u.any L I.free (by simp);exact I.step (g':=s.gens) (d':=s.drawn) (ch:=[]) (λ_ z=>nomatch z) (λb o _ B _ e n=>u.keep b o e n B (by simp)) (λb o _ B _ e n=>u.slot b o e n B (by simp)) (λb o _ e n=>u.free b o e n (by simp)) (λb o _ e=>u.there b o e (by simp)) u.tups u.frzs u.tbls (λZ O=>by obtain⟨Y,D,J,q,M⟩:=O;rw[L]at q;cases q;exact⟨_,D,J,U,M⟩) V I.bare
def Inv.call{g':Array GenState}{t':Nat}{d':Drawn}{ch:List az}(I:Inv X zt σ H s)(u:Un (frs X.stack) ch H H' s.heap h')(Z:HOk X.prog X.w H' h')(W:Yc g')
(D:∀b∈ch,(b∈X.ex\/X.s₀.heap.objs.size<=b)/\b≠X.env.locals/\(∀x c,X.env.cells.lookup x=aa c->c≠b)/\∀p∈X.pn++zt,p.1≠b):
 Inv X zt σ H' {s with heap:=h',gens:=g',drawn:=d',toks:=t'}:=by
 obtain⟨m,⟨o,g,h,O,r⟩,_⟩:=id I.loc;obtain⟨a,J⟩:=u.any O I.free λz=>(D _ z).2.1 rfl;exact I.step (ch:=ch) D (λb o J Y q e n=>u.keep b o e n (λz=>(List.mem_cons.mp (I.qH b z)).elim J Y) q) (λb o _ _ q e n=>u.any e n q) (λb o q e n=>u.free b o e n q) (λb o q e=>u.there b o e q) u.tups u.frzs u.tbls (λf V=>by obtain⟨d,L,M,B,U⟩:=V;rw[O]at B;cases B;exact⟨_,L,M,J,U⟩) Z W
def Inv.turned{t':Nat}{B:az}(I:Inv X zt σ H s)(k:∀b o,b≠B->s.heap.get? b=aa o->h'.get? b=aa o)(hn:H B=af)(L:B≠X.env.locals)
(h1:B∈X.ex\/X.s₀.heap.objs.size<=B)(h2:∀x c,X.env.cells.lookup x=aa c->c≠B)(V:∀p∈X.pn++zt,p.1≠B):Inv X zt σ H {s with heap:=h',toks:=t'}:=by
 have J:∀b u,H b=aa u->b≠B:=λb u e z=>by rw[z,hn]at e;cases e
 refine I.step (g':=s.gens) (d':=s.drawn) (ch:=[B]) (λb U=>?_) (λb o _ _ D e _=>k b o (λz=>D (by simp[z])) e) (λb o _ _ D e _=>⟨o.slots,k b o (λz=>D (by simp[z])) e⟩) (λ_ _ _ _ n=>n)
  (λb o D e=>⟨o,k b o (λz=>D (by simp[z])) e⟩) (λ_ _ e=>e) (λ_ _ _ e=>e) (λb Z e=>⟨#[],by rw[e];simp⟩) (λm O=>?_) (λb u e=>?_) I.bare
 ·have e:b=B:=by simpa using U
  subst e;exact⟨h1,L,h2,V⟩
 ·obtain⟨o,W,Y,M,r⟩:=O;exact⟨o,W,Y,k _ o (Td L) M,r⟩
 ·refine(I.aJ b u e).stay (λc v D q=>k c v ?_ q) (λ_ q=>q) λ_ _ q=>q;rcases D with z|z
  rw[z];exact J b u e;exact J c _ z
def Inv.tok(I:Inv X zt σ H s)(t:Nat):Inv X zt σ H {s with toks:=t}:=I.un (h':=s.heap) (t':=t) Un.refl I.aJ
def Inv.aH{t':Nat}(I:Inv X zt σ H s)(k:∀b u,s.heap.get? b=aa u->h'.get? b=aa u):Inv X zt σ H {s with heap:=h',toks:=t'}:=I.un (Un.aH k) (I.aJ.aH k)
def Inv.laid{a:az}{o:HO}{t':Nat}(I:Inv X zt σ H s)(k:∀b u,s.heap.get? b=aa u->h'.get? b=aa u)(q:s.heap.objs.size<=a)(new:gG X.prog X.w (upd H a o) h' a o):
 Inv X zt σ (upd H a o) {s with heap:=h',toks:=t'}:=I.un (Un.laid k q (I.aJ.fresh q)) (I.aJ.laid k q new)
def Inv.write{x e:az}{o:HO}{t':Nat}(I:Inv X zt σ H s)(mu:Mut (H x))(B:e=x\/H e=aa (.own x))(k:∀b u,b≠e->s.heap.get? b=aa u->h'.get? b=aa u)(q:∃u,h'.get? e=aa u)
(new:gG X.prog X.w (upd H x o) h' x o):Inv X zt σ (upd H x o) {s with heap:=h',toks:=t'}:=I.un (Un.write mu B k q) (I.aJ.write mu B k q new)
def Inv.m7{q:List (az×ao)}(I:Inv X zt σ H s)(h:∀p∈q,s.heap.get? p.1=aa p.2/\H p.1=af/\p.1≠X.env.locals/\p.1∉X.fs/\∀v,p.2.data≠.cell v):Inv X q σ H s :=
 ⟨I.ok,I.os,I.bare,I.base,I.loc,I.cell,I.free,I.freeC,λp B=>(List.mem_append.mp B).elim (λz=>I.pin p (Vl _ z)) (h p),I.aJ,I.len⟩
def sj{N:List ay}(q:N.Nodup){i j:Nat}{x:ay}(a:N[i]?=aa x)(b:N[j]?=aa x):i=j:=by obtain⟨D,e1⟩:=List.getElem?_eq_some_iff.mp a;obtain⟨B,e2⟩:=List.getElem?_eq_some_iff.mp b;exact(WV q).mp (e1.trans e2.symm)
def qd{M:Model}{A:TF}{E:aA->RV->Prop}{i:Nat}{x:ay}{v:V}{u:aA}{Q:Unit->RV->Prop}(I:Inv X zt σ H s)(hN:X.N.Nodup)(hi:X.N[i]?=aa x)(L:Loc X.env.scope x)(r:RelV v u)
(h:∀s',Inv X zt (σ.set i (aa v)) H s'->(∃a,Tv a s.heap s'.heap/\(a=X.env.locals\/X.env.cells.lookup x=aa a))->Q () s')(hf:X.fn x=ah\/X.env.scope.names.lookup x=aa .local:=by first|exact .inl rfl|exact .inr rfl|assumption):av M A (storeName X.env x u) Q E s:=by
 obtain⟨m,hn,hl⟩:=id I.loc;have t:(X.env.scope.kind==.class||(X.env.scope.kind==.module&&X.env.locals != X.env.globals))=ai:=by rw[I.ok.kind];rfl
 have U:i<σ.length:=by rw[I.len];exact(List.getElem?_eq_some_iff.mp hi).1
 have cne:=I.cne;have D:∀{a:az}{f:aq},(∃o,s.heap.get? a=aa o/\H a=af)->Tv a s.heap f->HOk X.prog X.w H f:=λ{a f} ha B b ob e=>by
  obtain⟨_,_,O⟩:=ha;refine(I.aJ b ob e).stay (λc G J q=>(B.2 c ?_).trans q) (λ_ q=>q) λ_ _ q=>q
  rintro rfl
  rcases J with rfl|J
  rw[O]at e;cases e;rw[O]at J;cases J
 rcases L with hk|hk
 ·refine wpAny_storeName_local hk hn (λf hn' B=>?_) t;obtain⟨oL,_,_,hoL,_⟩:=id hn;refine h _ ⟨I.ok,I.os,I.bare,⟨λb o e n Z L=>?_,λb o e n Z L=>?_,I.base.free,λb o e L=>?_,I.base.tups,I.base.frzs,I.base.tbls⟩,⟨_,hn',λj y R e1 e2 e3=>?_⟩,λy c e=>?_,I.free,I.freeC,λp hp=>?_,D ⟨oL,hoL,I.free⟩ B,by simpa using I.len⟩ ⟨_,B,.inl rfl⟩;exact(B.2 b (SA (Sx (R6 e) I.ok.above))).trans (I.base.keep b o e n Z L)
  ·obtain⟨T,e1⟩:=I.base.slot b o e n Z L;exact⟨T,(B.2 b (SA (Sx (R6 e) I.ok.above))).trans e1⟩
  ·obtain⟨o',e1⟩:=I.base.there b o e L;exact⟨o',(B.2 b (SA (Sx (R6 e) I.ok.above))).trans e1⟩
  ·by_cases W:j=i
   ·subst W;rw[hi]at e1;cases e1;rw[SN U]at e2;cases e2;exact⟨u,r,.inl ⟨hk,by simp⟩⟩
   ·rw[Sy (Td W)]at e2;obtain⟨S,r',q⟩:=hl j y R e1 e2 e3;refine⟨S,r',?_⟩;rcases q with⟨k,e⟩|⟨k,c,e,z⟩
    ·refine .inl ⟨k,?_⟩;have:y≠x:=λe=>W (sj hN e1 (e ▸ hi));simp[this,e]
    exact .inr ⟨k,c,e,z.sameBut B (cne y c e)⟩
  ·obtain⟨G,z⟩:=I.cell y c e;exact⟨G,z.sameBut B (cne y c e)⟩
  ·obtain⟨e,n,K,nf,d⟩:=I.pin p hp;exact⟨(B.2 p.1 K).trans e,n,K,nf,d⟩
 ·have Y:X.fn x=ah:=by
   rcases hf with z|z
   exact z;rw[z]at hk;cases hk
  obtain⟨c,J⟩:=I.ok.has x (.inl hk);obtain⟨G,z⟩:=I.cell x c J;refine wpAny_storeName_cell I.ok.kind hk J z (λf F B=>?_);obtain⟨oc,l,g⟩:=id z;refine h {s with heap:=f} ⟨I.ok,I.os,I.bare,⟨λb o e n Z L=>?_,λb o e n Z L=>?_,I.base.free,λb o e L=>?_,I.base.tups,I.base.frzs,I.base.tbls⟩,⟨m,hn.sameBut B (Td (cne x c J)),λj y R e1 e2 e3=>?_⟩,λy P e=>?_,I.free,I.freeC,λp hp=>?_,D ⟨oc,l,I.freeC x c J⟩ B,by simpa using I.len⟩ ⟨c,B,.inr J⟩;exact(B.2 b (SA (Sx (R6 e) (I.ok.cab x c Y J)))).trans (I.base.keep b o e n Z L)
  ·obtain⟨T,e1⟩:=I.base.slot b o e n Z L;exact⟨T,(B.2 b (SA (Sx (R6 e) (I.ok.cab x c Y J)))).trans e1⟩
  ·obtain⟨o',e1⟩:=I.base.there b o e L;exact⟨o',(B.2 b (SA (Sx (R6 e) (I.ok.cab x c Y J)))).trans e1⟩
  ·by_cases W:j=i
   ·subst W;rw[hi]at e1;cases e1;rw[SN U]at e2;cases e2;exact⟨u,r,.inr ⟨.inl hk,c,J,F⟩⟩
   ·rw[Sy (Td W)]at e2;obtain⟨S,r',q⟩:=hl j y R e1 e2 e3;refine⟨S,r',?_⟩;rcases q with q|⟨k,P,e,z'⟩
    exact .inl q
    ·refine .inr ⟨k,P,e,z'.sameBut B ?_⟩
     rintro rfl
     exact W (sj hN e1 (I.ok.inj _ _ _ e J ▸ hi))
  ·by_cases C:P=c
   subst C;exact⟨_,F⟩
   ·obtain⟨w2,z2⟩:=I.cell y P e;exact⟨w2,z2.sameBut B C⟩
  ·obtain⟨e,n,K,nf,d⟩:=I.pin p hp;refine⟨(B.2 p.1 ?_).trans e,n,K,nf,d⟩;intro q;rw[q,l]at e;have q':oc=p.2:=Sa e;exact d G (by rw[←q'];exact g)
def nF{M:Model}{A:TF}{E:aA->RV->Prop}{i:Nat}{x:ay}{v:V}{u:aA}{Q:Unit->RV->Prop}(I:Inv X zt σ H s)(D:X.N.Nodup)(hi:X.N[i]?=aa x)(q:Loc X.env.scope x)(r:RelV v u)
(h:∀s',Inv X zt (σ.set i (aa v)) H s'->Q () s')(B:X.fn x=ah\/X.env.scope.names.lookup x=aa .local:=by first|exact .inl rfl|exact .inr rfl|assumption):av M A (storeName X.env x u) Q E s :=
 qd I D hi q r (λs' J _=>h s' J) B
end
abbrev XK:=aA->Option az->Hp->Prop
noncomputable abbrev St:=List (Option V)
abbrev VK:=V->Hp->Prop
abbrev TE:=St->Hp->VK->Prop
abbrev TT:=St->Hp->(Bool->Hp->Prop)->Prop
abbrev TA:=St->Hp->(List V->Hp->Prop)->Prop
structure Ends where
 nx:St->Hp->Prop
 rt:VK
 bk:St->Hp->Prop:=λ_ _=>False
 ct:St->Hp->Prop:=λ_ _=>False
abbrev TS:=Ends->St->Hp->Prop
inductive EP(X:Cx)(zt:List (az×ao))(σ:St)(Q:VK)(u:aA)(s':RV):Prop
 |mk(v:V)(H':Hp)(I:Inv X zt σ H' s')(r:RelV v u)(q:Q v H'):EP X zt σ Q u s'
inductive TP(X:Cx)(zt:List (az×ao))(σ:St)(Q:Bool->Hp->Prop)(b:Bool)(s':RV):Prop
 |mk(H':Hp)(I:Inv X zt σ H' s')(q:Q b H'):TP X zt σ Q b s'
inductive AP(X:Cx)(zt:List (az×ao))(σ:St)(Q:List V->Hp->Prop)(us:List aA)(s':RV):Prop
 |mk(vs:List V)(H':Hp)(I:Inv X zt σ H' s')(r:dg vs us)(q:Q vs H'):AP X zt σ Q us s'
def SP(X:Cx)(zt:List (az×ao))(D:Ends)(f:Flow)(s':RV):Prop :=
 match f with
 |.next=>∃q B,Inv X zt q B s'/\D.nx q B|.brk=>∃q B,Inv X zt q B s'/\D.bk q B|.cont=>∃q B,Inv X zt q B s'/\D.ct q B|.ret u=>∃v q B,Inv X zt q B s'/\RelV v u/\D.rt v B
def PE(X:Cx)(e:Vo)(t:TE):Prop :=
 ∀(B:List (az×ao)) (s:RV) (q:St) (H:Hp) (Q:VK),Inv X B q H s->t q H Q->av (Su X.prog X.w) X.A (eval e X.env) (EP X B q Q) X.xe s
def PT(X:Cx)(e:Vo)(t:TT):Prop :=
 ∀(B:List (az×ao)) (s:RV) (q:St) (H:Hp) (Q:Bool->Hp->Prop),Inv X B q H s->t q H Q->av (Su X.prog X.w) X.A (isTrue e X.env (eval e X.env)) (TP X B q Q) X.xe s
def PW(X:Cx)(e:Vo)(t:TT):Prop :=
 ∀(q:Sem aA)(D:List (az×ao)) (s:RV) (B:St) (H:Hp) (Q:Bool->Hp->Prop),Inv X D B H s->t B H Q->av (Su X.prog X.w) X.A (isTrue e X.env q) (TP X D B Q) X.xe s
def PW.pt{X:Cx}{e:Vo}{t:TT}(h:PW X e t):PT X e t:=h _
def PA(X:Cx)(es:List Vo)(t:TA):Prop :=
 ∀(B:Pos)(D:List (az×ao)) (s:RV) (q:St) (H:Hp) (Q:List V->Hp->Prop),Inv X D q H s->t q H Q->av (Su X.prog X.w) X.A (spliced (Vb B (SM es X.env))) (AP X D q Q) X.xe s
def PS(X:Cx)(st:WJ)(t:TS):Prop :=
 ∀(B:List (az×ao)) (s:RV) (q:St) (H:Hp) (D:Ends),Inv X B q H s->t D q H->av (Su X.prog X.w) X.A (exec st X.env) (SP X B D) X.xe s
def PSs(X:Cx)(st:List WJ)(t:TS):Prop :=
 ∀(B:List (az×ao)) (s:RV) (q:St) (H:Hp) (D:Ends),Inv X B q H s->t D q H->av (Su X.prog X.w) X.A (execs st X.env) (SP X B D) X.xe s
def thn{q:Type}{t:Sem q}{Q B:q->RV->Prop}{M:Model}{A:TF}{E:aA->RV->Prop}{s:RV}(h:av M A t Q E s)(D:∀a s,Q a s->B a s):av M A t B E s:=Uy h D λ_ _ x=>x
end L2
namespace L2
open PySem PySem.Spec PyProof.Rows
section
variable{X:Cx}
def bin{a b:Vo}{ta tb:TE}(c:PE X a ta)(Z:PE X b tb){zt:List (az×ao)}{s:RV}{σ:St}{H:Hp}{R:V->V->Hp->Prop}(I:Inv X zt σ H s)(h:ta σ H λx H1=>tb σ H1 λy H2=>R x y H2)
{J:Type}{Q:J->RV->Prop}{f:aA->aA->Sem J}
(Y:∀v u s2 x y H2,Inv X zt σ H2 s2->RelV x v->RelV y u->R x y H2->av (Su X.prog X.w) X.A (f v u) Q X.xe s2):
 av (Su X.prog X.w) X.A (eval a X.env) (λv B=>av (Su X.prog X.w) X.A (eval b X.env) (λu q=>av (Su X.prog X.w) X.A (f v u) Q X.xe q) X.xe B) X.xe s:=by
 refine thn (c zt s σ H _ I h) λv L D=>?_;obtain⟨x,H1,e,O,W⟩:=D;refine thn (Z zt L σ H1 _ e W) λu s2 D=>?_;obtain⟨y,H2,d,M,U⟩:=D;exact Y v u s2 x y H2 d O M U
def OU(i:Nat):TE:=fun q H Q=>∃v,q[i]?=aa (aa v)/\Q v H
def tC(v:V):TE:=λ_ H Q=>Q v H
def G8{i:Nat}{x:ay}{pos:Pos}(V:X.N[i]?=aa x)(M:Vis X.env.scope x)(B:(x==("__debug__":ay))=ai:=by decide)(D:(x==("__classdict__":ay))=ai:=by decide):PE X (.Name x pos) (OU i):=by
 intro L s J H Q I h;obtain⟨v,e,h⟩:=h;obtain⟨m,hn,U⟩:=I.loc;obtain⟨u,r,l⟩:=U i x v V e M;have fin:EP X L J Q u s:=⟨v,H,I,r,h⟩;rcases l with⟨q,O⟩|⟨q,c,hc,hcell⟩
 exact wpAny_Name (wpAny_loadName_local I.ok.kind q hn O fin) B
 ·rcases q with q|q
  exact wpAny_Name (wpAny_loadName_cell I.ok.kind q hc hcell fin) B;exact wpAny_Name (wpAny_loadName_free I.ok.kind q hc hcell fin D) B
def uE{i j pos}:PE X (.Constant (.int i) j pos) (tC (.int i)):=λ_ _ _ H _ I h=>wpAny_Constant_int ⟨.int i,H,I.tok _,⟨_,rfl⟩,h⟩
def La{b j pos}:PE X (.Constant (.bool b) j pos) (tC (.bl b)):=λ_ _ _ H _ I h=>Constant_bool ⟨.bl b,H,I,rfl,h⟩
def G9{j pos}:PE X (.Constant .none j pos) (tC .aD):=λ_ _ _ H _ I h=>Constant_none ⟨.aD,H,I,rfl,h⟩
def Hf{x j pos}:PE X (.Constant (.str x) j pos) (tC (.str x)):=λ_ _ _ H _ I h=>Calls.Constant_str ⟨.str x,H,I.tok _,⟨_,rfl⟩,h⟩
def Gl(X:Cx)(x:ay):Prop:=X.env.kindOf x=aa .globalImplicit
def k8{E:aA->RV->Prop}{zt:List (az×ao)}{s:RV}{σ:St}{H:Hp}{x:ay}{u:aA}{pos:Pos}{Q:aA->RV->Prop}(I:Inv X zt σ H s)(B:Gl X x)(q:X.mg x=aa u)(h:Q u s)
(D:(x==("__debug__":ay))=ai:=by decide):av (Su X.prog X.w) X.A (eval (.Name x pos) X.env) Q E s :=
 Xh I.ok.kind B (Calls.loadGlobal_global (by rw[I.ok.glob];exact I.mod.glob.keeps I.bk) q h) D
def gU{E:aA->RV->Prop}{zt:List (az×ao)}{s:RV}{σ:St}{H:Hp}{x:ay}{u:aA}{pos:Pos}{Q:aA->RV->Prop}(I:Inv X zt σ H s)(D:Gl X x)(B:X.mg x=af)(q:VM x=aa u)(h:Q u s)
(hn:x≠"__name__":=by decide)(J:(x==("__debug__":ay))=ai:=by decide):av (Su X.prog X.w) X.A (eval (.Name x pos) X.env) Q E s:=by
 obtain⟨O,M,L⟩:=I.mod.blt;exact Xh I.ok.kind D (Calls.loadGlobal_builtin (by rw[I.ok.glob];exact I.mod.glob.keeps I.bk) B (by rw[I.ok.blt];exact M.keeps I.bk) ((L x hn).trans q) h) J
def qI{x:ay}{v:V}{u:aA}{pos:Pos}(B:Gl X x)(q:X.mg x=aa u)(r:RelV v u)(D:(x==("__debug__":ay))=ai:=by decide):PE X (.Name x pos) (tC v) :=
 λ_ _ _ H _ I h=>k8 I B q ⟨v,H,I,r,h⟩ D
def m8{x:ay}{v:V}{u:aA}{pos:Pos}(D:Gl X x)(B:X.mg x=af)(q:VM x=aa u)(r:RelV v u)(hn:x≠"__name__":=by decide)(J:(x==("__debug__":ay))=ai:=by decide):PE X (.Name x pos) (tC v) :=
 λ_ _ _ H _ I h=>gU I D B q ⟨v,H,I,r,h⟩ hn J
variable{a b:Vo}{ta tb:TE}{pos:Pos}
def tB(t:TE):TT:=fun q H Q=>t q H λx B=>∃c,x=.bl c/\Q c B
def Hg{e:Vo}{t:TE}(h:PE X e t)(L:∀B,isTrue e X.env B=(do let v ←B;X3 e.pos;V6 [v] (truthy v)):=by intro _;rfl):PT X e (tB t):=by intro J s D H Q I hw;refine isTrue_plain (thn (h J s D H _ I hw) λv s1 ⟨x,H1,I1,r1,q1⟩=>?_) (L _);obtain⟨d,rfl,q⟩:=q1;cases r1;exact Uc ⟨H1,I1,q⟩
variable{tA tB':TT}{rest:List Vo}
def Lb(t u:TT):TT:=fun q H Q=>t q H λc B=>if c=ah then u q B Q else Q ai B
def tOr(t u:TT):TT:=fun q H Q=>t q H λc B=>if c=ah then Q ah B else u q B Q
def Lc(t:TT):TT:=fun q H Q=>t q H λc B=>Q (!c) B
def DJ(D:PT X a tA):PW X (.BoolOp .And [a] pos) tA:=by
 intro J B s q H Q I h;refine isTrue_and (thn (D B s q H Q I h) λc L e=>?_);cases c with
 |true=>exact isTrue_and_nil e|false=>exact e
def Hh(D:PT X a tA):PW X (.BoolOp .Or [a] pos) tA:=by
 intro J B s q H Q I h;refine isTrue_or (thn (D B s q H Q I h) λc L e=>?_);cases c with
 |false=>exact isTrue_or_nil e|true=>exact e
def zK(W:PT X a tA)(V:PW X (.BoolOp .And (b::rest) pos) tB'):PW X (.BoolOp .And (a::b::rest) pos) (Lb tA tB'):=by
 intro O B s q H Q I h;refine isTrue_and (thn (W B s q H _ I h) λc U M=>?_);obtain⟨L,J,D⟩:=M;cases c with
 |true=>exact V O B U q L Q J D|false=>exact⟨L,J,D⟩
def Gw(W:PT X a tA)(V:PW X (.BoolOp .Or (b::rest) pos) tB'):PW X (.BoolOp .Or (a::b::rest) pos) (tOr tA tB'):=by
 intro O B s q H Q I h;refine isTrue_or (thn (W B s q H _ I h) λc U M=>?_);obtain⟨L,J,D⟩:=M;cases c with
 |true=>exact⟨L,J,D⟩|false=>exact V O B U q L Q J D
def Hi(L:PT X a tA):PT X (.UnaryOp .Not a pos) (Lc tA):=by intro J s D H Q I h;exact isTrue_not (thn (L J s D H (λc B=>Q (!c) B) I h) λc O z=>by obtain⟨B,M,q⟩:=z;exact⟨B,M,q⟩)
def Gx(ta tb:TE):TE:=fun q H Q=>ta q H λx B=>∃c,x=.bl c/\if c=ah then tb q B Q else Q (.bl ai) B
def Ld(ta tb:TE):TE:=fun q H Q=>ta q H λx B=>∃c,x=.bl c/\if c=ah then Q (.bl ah) B else tb q B Q
def Gy(ta:TE):TE:=fun q H Q=>ta q H λx B=>∃c,x=.bl c/\Q (.bl (!c)) B
def zL{op}{t:TE}(h:PE X a t):PE X (.BoolOp op [a] pos) t:=λB s q H Q I hw=>BoolOp_one (h B s q H Q I hw)
def zM(W:PE X a ta)(V:PE X (.BoolOp .And (b::rest) pos) tb):PE X (.BoolOp .And (a::b::rest) pos) (Gx ta tb):=by
 intro D s B H Q I h;refine BoolOp_and (thn (W D s B H _ I h) λv O M=>?_);obtain⟨x,L,J,U,q⟩:=M;obtain⟨c,rfl,q⟩:=q;cases U;refine Uc ?_;cases c with
 |true=>exact V D O B L Q J q|false=>exact⟨.bl ai,L,J,rfl,q⟩
def Gz(W:PE X a ta)(V:PE X (.BoolOp .Or (b::rest) pos) tb):PE X (.BoolOp .Or (a::b::rest) pos) (Ld ta tb):=by
 intro D s B H Q I h;refine BoolOp_or (thn (W D s B H _ I h) λv O M=>?_);obtain⟨x,L,J,U,q⟩:=M;obtain⟨c,rfl,q⟩:=q;cases U;refine Uc ?_;cases c with
 |false=>exact V D O B L Q J q|true=>exact⟨.bl ah,L,J,rfl,q⟩
def Hj(M:PE X a ta):PE X (.UnaryOp .Not a pos) (Gy ta):=by intro D s B H Q I h;refine UnaryOp_ (thn (M D s B H _ I h) λv V J=>?_);obtain⟨x,U,O,L,q⟩:=J;obtain⟨c,rfl,q⟩:=q;cases L;exact not_of (Uc ⟨.bl (!c),U,O,rfl,q⟩)
def tIf(t:TT)(ta tb:TE):TE:=fun q H Q=>t q H λc B=>if c=ah then ta q B Q else tb q B Q
def zN{c:Vo}(U:PT X c tA)(W:PE X a ta)(V:PE X b tb):PE X (.IfExp c a b pos) (tIf tA ta tb):=by
 intro B s q H Q I h;refine wpAny_IfExp (thn (U B s q H _ I h) λd D O=>?_);obtain⟨M,L,J⟩:=O;cases d with
 |true=>exact W B D q M Q L J|false=>exact V B D q M Q L J
end
end L2
namespace L2
open PySem PySem.Spec PyProof.Rows
def SqL(K:RQ)(H:Hp)(a:az)(xs:List V):Prop :=
 Rd H a (.aB xs) ∨
  ∃(o:ao) (q:Array aA) (n:Nat),K.lookup a=aa o/\o.cls=.type "list"/\o.dict=af/\o.data=.seq q n/\q.size<=aj/\dg xs q.toList
def SqT(K:RQ)(H:Hp)(a:az)(xs:List V):Prop :=
 Rd H a (.aC xs) ∨
  ∃(o:ao) (q:Array aA) (n:Nat),K.lookup a=aa o/\o.cls=.type "tuple"/\o.data=.seq q n/\q.size<=aj/\dg xs q.toList
noncomputable def OV:aA->Option V
 |.none=>aa .aD|.bool b=>aa (.bl b)|.int i _=>aa (.int i)|.str x _=>aa (.str x)|.bytes b _=>aa (.byt b)|.float b _=>aa (.flt b)|.ref a=>aa (.ref a)|.type n=>aa (.ty n)|_=>af
def RelV.abs{x:V}{u:aA}(r:RelV x u):OV u=aa x:=by
 cases x with
 |aD=>cases r;rfl|bl _=>cases r;rfl|ref _=>cases r;rfl|ty _=>cases r;rfl|_=>obtain⟨t,rfl⟩:=r;rfl
def RelV.inj{x y:V}{u:aA}(r:RelV x u)(q:RelV y u):x=y:=Sa (r.abs.symm.trans q.abs)
theorem dg.inj:∀{xs ys:List V}{us:List aA},dg xs us->dg ys us->xs=ys
 |_,_,_,.nil,.nil=>rfl
 |_,_,_,.cons r t,.cons r' t'=>by rw[r.inj r',dg.inj t t']
section
variable{X:Cx}{zt:List (az×ao)}{σ:St}{H:Hp}{s:RV}{a:az}{xs ys:List V}
def Inv.list(I:Inv X zt σ H s)(h:SqL X.K H a xs):∃q:List aA,dg xs q/\PlainL s.heap a q.toArray/\xs.length<=aj:=by
 rcases h with h|⟨o,q,n,hk,hc,hd,hs,hz,r⟩
 ·obtain⟨z,q,n,r,e⟩:=h.ok I.aJ;exact⟨q,r,⟨_,n,e,rfl,rfl,rfl⟩,z⟩
 ·refine⟨q.toList,r,⟨o,n,I.kIn a o hk,hc,hd,by simpa using hs⟩,?_⟩;have e:=r.length;simp only[SG]at e;lia
def Inv.tuple(I:Inv X zt σ H s)(h:SqT X.K H a xs):∃q:List aA,dg xs q/\IsTup s.heap a q.toArray/\xs.length<=aj:=by
 rcases h with h|⟨o,q,n,hk,hc,hs,hz,r⟩
 ·obtain⟨z,q,r,p⟩:=h.ok I.aJ;exact⟨q,r,p,z⟩
 ·refine⟨q.toList,r,⟨o,I.kIn a o hk,hc,n,by simpa using hs⟩,?_⟩;have e:=r.length;simp only[SG]at e;lia
def Inv.sy(I:Inv X zt σ H s)(h:SqL X.K H a xs)(h':SqL X.K H a ys):xs=ys:=by
 obtain⟨B,r,⟨o,n,e,_,_,d⟩,_⟩:=I.list h;obtain⟨q,L,⟨M,O,D,_,_,J⟩,_⟩:=I.list h';rw[e]at D;cases D;rw[d]at J
 injection J with d1 _
 have:B=q:=by simpa using bR Array.toList d1
 subst this;exact r.inj L
def Inv.ye(I:Inv X zt σ H s)(h:SqT X.K H a xs)(h':SqT X.K H a ys):xs=ys:=by
 obtain⟨B,r,⟨o,e,_,n,d⟩,_⟩:=I.tuple h;obtain⟨q,L,⟨M,D,_,O,J⟩,_⟩:=I.tuple h';rw[e]at D;cases D;rw[d]at J
 injection J with d1 _
 have:B=q:=by simpa using bR Array.toList d1
 subst this;exact r.inj L
end
noncomputable abbrev Cx.pK(X:Cx)(E:aA->RV->Prop):Cx:={X with xe:=E}
noncomputable abbrev Cx.nox(X:Cx):Cx:=X.pK λ_ _=>False
def Cx.Ok.pK{X:Cx}(ok:X.Ok)(E:aA->RV->Prop):(X.pK E).Ok :=
 ⟨ok.mod,ok.kind,ok.glob,ok.blt,ok.above,ok.inj,ok.has,ok.cab,ok.hd,ok.frames,ok.stk,ok.exf,ok.bs,ok.bsz,ok.noex,ok.exfs,ok.lY,ok.frf⟩
def Cx.Ok.jG{X:Cx}{E:aA->RV->Prop}(ok:(X.pK E).Ok):X.Ok :=
 ⟨ok.mod,ok.kind,ok.glob,ok.blt,ok.above,ok.inj,ok.has,ok.cab,ok.hd,ok.frames,ok.stk,ok.exf,ok.bs,ok.bsz,ok.noex,ok.exfs,ok.lY,ok.frf⟩
section
variable{X:Cx}{zt:List (az×ao)}{σ:St}{H:Hp}{s:RV}{E:aA->RV->Prop}
def Inv.pK(I:Inv X zt σ H s)(E:aA->RV->Prop):Inv (X.pK E) zt σ H s:=⟨I.ok.pK E,I.os,I.bare,I.base,I.loc,I.cell,I.free,I.freeC,I.pin,I.aJ,I.len⟩
def Inv.jG(I:Inv (X.pK E) zt σ H s):Inv X zt σ H s:=⟨I.ok.jG,I.os,I.bare,I.base,I.loc,I.cell,I.free,I.freeC,I.pin,I.aJ,I.len⟩
def SP.jG{D:Ends}{f:Flow}{s':RV}(h:SP (X.pK E) zt D f s'):SP X zt D f s':=by
 cases f with
 |ret u=>obtain⟨v,B,J,I,r,q⟩:=h;exact⟨v,B,J,I.jG,r,q⟩|_=>obtain⟨B,J,I,q⟩:=h;exact⟨B,J,I.jG,q⟩
def PSs.nox{st:List WJ}{t:TS}(h:PSs X.nox st t):PSs X st t:=λJ s B H D I hw =>
 Uy (h J s B H D (I.pK _) hw) (λ_ _ q=>q.jG) λ_ _ z=>Ui z
end
section
variable{X:Cx}{st:WJ}{rest:List WJ}{t u:TS}{e:Vo}{te:TE}{pos:Pos}
def Lf:TS:=λD q H=>D.nx q H
def Lg(t u:TS):TS:=λD q H=>t {D with nx:=u D} q H
def DK:PSs X [] Lf:=λ_ _ q H _ I h=>Wl ⟨q,H,I,h⟩
def sA(h1:PS X st t)(h2:PSs X rest u):PSs X (st::rest) (Lg t u):=by
 intro J s L H D I h;refine wpAny_execs_cons (thn (h1 J s L H {D with nx:=u D} I h) λf M q=>?_);cases f with
 |next =>
  obtain⟨B,U,O,q⟩:=q;exact h2 J M B U D O q
 |_=>exact q
def vN(h1:PS X st t):PSs X [st] t:=by
 intro J s B H D I h;refine wpAny_execs_cons (thn (h1 J s B H D I h) λf L q=>?_);cases f with
 |next=>exact Wl q|_=>exact q
def OW:TS:=λD q H=>D.bk q H
def Q9:TS:=λD q H=>D.ct q H
def Inv.quiet{zt:List (az×ao)}{σ:St}{H:Hp}{s:RV}(I:Inv X zt σ H s):interactive X.env=ai:=by simp[interactive,I.ok.kind]
def Lh(te:TE):TS:=λD q H=>te q H λ_ B=>D.nx q B
def DL(L:PE X e te)(J:VC e af pos.line X.env=pure ai:=by rfl):PS X (.Expr e pos) (Lh te):=by intro B s q H D I h;exact wpAny_Expr_any (thn (L B s q H _ I h) λv s1 ⟨x,H1,I1,r1,q1⟩=>⟨q,H1,I1,q1⟩) I.quiet J
def OX(te:TE):TS:=λD q H=>te q H D.rt
def Hl(J:PE X e te):PS X (.Return (aa e) pos) (OX te):=by intro B s q H D I h;exact wpAny_Return_some (thn (J B s q H _ I h) λv s1 ⟨x,H1,I1,r1,q1⟩=>⟨x,q,H1,I1,r1,q1⟩)
def OY(c:TT)(t u:TS):TS:=λD q H=>c q H λb B=>if b=ah then t D q B else u D q B
def Li{c:Vo}{a b:List WJ}{tc:TT}(V:PT X c tc)(Y:PSs X a t)(W:PSs X b u):PS X (.If c a b pos) (OY tc t u):=by
 intro B s q H D I h;refine wpAny_If (thn (V B s q H _ I h) λd J U=>?_);obtain⟨O,M,L⟩:=U;cases d with
 |true=>exact Y B J q O D M L|false=>exact W B J q O D M L
end
abbrev TG:=V->St->Hp->(St->Hp->Prop)->Prop
abbrev TGs:=List V->St->Hp->(St->Hp->Prop)->Prop
def PG(X:Cx)(target:Vo)(t:TG):Prop :=
 ∀(D:List (az×ao)) (s:RV) (B:St) (H:Hp) (v:V) (u:aA) (Q:St->Hp->Prop),Inv X D B H s->RelV v u->t v B H Q →
  av (Su X.prog X.w) X.A (Xx target X.env u) (λ_ L=>∃q J,Inv X D q J L/\Q q J) X.xe s
def PGs(X:Cx)(ts:List Vo)(t:TGs):Prop :=
 ∀(D:List (az×ao)) (s:RV) (B:St) (H:Hp) (J:List V) (L:List aA) (Q:St->Hp->Prop),Inv X D B H s->dg J L->t J B H Q →
  av (Su X.prog X.w) X.A (assignInOrder ((UT ts X.env).map (·.2)) L) (λ_ O=>∃q M,Inv X D q M O/\Q q M) X.xe s
abbrev Ho:=V->V->V->Hp->(Hp->Prop)->Prop
def Lj(X:Cx)(t:Ho):Prop :=
 ∀(B:List (az×ao)) (s:RV) (q:St) (H:Hp) (o i v:V) (D J u:aA) (Q:Hp->Prop),Inv X B q H s->RelV o D->RelV i J->RelV v u->t o i v H Q →
  av (Su X.prog X.w) X.A (setItem D J u) (λ_ M=>∃L,Inv X B q L M/\Q L) X.xe s
abbrev TIp:=V->V->Hp->VK->Prop
def PIp(X:Cx)(D:VN)(t:TIp):Prop :=
 ∀(B:List (az×ao)) (s:RV) (q:St) (H:Hp) (x y:V) (v u:aA) (Q:VK),Inv X B q H s->RelV x v->RelV y u->t x y H Q →
  av (Su X.prog X.w) X.A (inplaceOp D v u) (EP X B q Q) X.xe s
section
variable{X:Cx}{pos:Pos}
def vO(i:Nat):TG:=λv q H Q=>Q (q.set i (aa v)) H
def vP{i:Nat}{x:ay}(D:X.N.Nodup)(hi:X.N[i]?=aa x)(q:Loc X.env.scope x)(B:X.fn x=ah\/X.env.scope.names.lookup x=aa .local:=by first|exact .inl rfl|exact .inr rfl|assumption):PG X (.Name x pos) (vO i):=by intro M s L H v u Q I r h;exact wpAny_assign_Name (nF I D hi q r (λO J=>⟨_,H,J,h⟩) B)
def Lk:TGs:=λB q H Q=>B=[]/\Q q H
def Ll(t:TG)(u:TGs):TGs:=λD B H Q=>∃v r,D=v::r/\t v B H fun q J=>u r q J Q
def DM:PGs X [] Lk:=by intro B s q H D J Q I r h;obtain⟨e,h⟩:=h;subst e;cases r;exact assignInOrder_nil ⟨q,H,I,h⟩
def zO{e:Vo}{es:List Vo}{t:TG}{u:TGs}(h1:PG X e t)(h2:PGs X es u)
(U:(UT (e::es) X.env).map (·.2)=Xx e X.env::(UT es X.env).map (·.2):=by rfl):PGs X (e::es) (Ll t u):=by
 intro B s D H Y a Q I r h;obtain⟨v,Z,e1,h⟩:=h;subst e1;cases r with
 |cons r M =>
  rw[U];refine assignInOrder_cons (thn (h1 B s D H _ _ _ I r h) λ_ L J=>?_);obtain⟨q,W,V,O⟩:=J;exact h2 B L q W _ _ Q V M O
def OZ(K:RQ)(n:Nat)(t:TGs):TG:=λv B H Q=>∃a q,v=.ref a/\SqT K H a q/\q.length=n/\t q B H Q
def Hq{es:List Vo}{k:Nat}{t:TGs}{n:Nat}(Y:X.calm=ah)(h:PGs X es t)
(hn:(UT es X.env).length=n:=by rfl)(q:(UT es X.env).findIdx? (·.1)=af:=by rfl):PG X (.Tuple es k pos) (OZ X.K n t):=by
 intro D s B H v u Q I r hw;obtain⟨a,L,e1,V,W,hw⟩:=hw;subst e1;cases r;obtain⟨M,J,U,d⟩:=I.tuple V;refine assign_Tuple_tuple (I.ok.hd Y) U (by simp[hn,←W,J.length]) q λZ O=>?_;have c:Inv X D B H {s with heap:=Z}:=I.aH (t':=s.toks) λb o e=>O b o (SA (R6 e)) e;exact h D _ B H L _ Q c (by simpa using J) hw
def Lm(to B:TE)(t:Ho):TG:=λv q H Q=>to q H λo L=>B q L λi J=>t o i v J λD=>Q q D
def Hr{o i:Vo}{to M:TE}{t:Ho}(c:PE X o to)(hi:PE X i M)(b:Lj X t)
(d:∀ v,Xx (.Subscript o i pos) X.env v=(do
  let q ←V6 [v] (eval o X.env)
  let D ←V6 [v,q] (eval i X.env)
  X3 pos
  V6 [v,q,D] (setItem q D v)
  release [v,q,D] []):=by intro _;rfl):PG X (.Subscript o i pos) (Lm to M t):=by
 intro L s J H v u Q I r h;rw[d];refine RP (Tf (thn (c L s J H _ I h) λq U B=>?_));obtain⟨x,l,g,W,a⟩:=B;refine RP (Tf (thn (hi L U J l _ g a) λD O B=>?_));obtain⟨y,k,f,V,Z⟩:=B;refine RP (WY (RP (Tf (thn (b L O J k x y v q D u _ f W V r Z) λ_ m B=>?_))));obtain⟨j,e,Y⟩:=B;exact wpAny_release ⟨J,j,e,Y⟩
def zP(te:TE)(g:TG):TS:=λD q H=>te q H λx B=>g x q B D.nx
def zQ{tg e:Vo}{te:TE}{g:TG}(O:PE X e te)(M:PG X tg g)(L:swapsWithSole [tg] e pos.line X.env=pure ai:=by rfl)(hw:swappedStores [tg] e X.env=pure af:=by rfl)
(h1:(UT [tg] X.env).map (·.2)=[Xx tg X.env]:=by rfl):PS X (.Assign [tg] e pos) (zP te g):=by
 intro J s B H D I h;refine wpAny_Assign_stores (thn (O J s B H _ I h) λv s1 ⟨x,H1,I1,r1,q1⟩=>?_) L hw;rw[h1];exact thn (M J s1 B H1 x v _ I1 r1 q1) λ_ U q=>q
def zR{i:Nat}{x:ay}{e:Vo}{te:TE}{pos':Pos}(U:X.N.Nodup)(hi:X.N[i]?=aa x)(J:Loc X.env.scope x)(O:PE X e te)(L:VC e (aa (.Name x pos')) pos.line X.env=pure ai:=by rfl)(M:X.fn x=ah\/X.env.scope.names.lookup x=aa .local:=by first|exact .inl rfl|exact .inr rfl|assumption):
 PS X (.Assign [.Name x pos'] e pos) (zP te (vO i)):=by
 intro B s q H D I h;refine wpAny_Assign_Name (thn (O B s q H _ I h) λv s1 ⟨y,H1,I1,r1,q1⟩=>?_) L;exact nF I1 U hi J r1 (λW V=>⟨_,H1,V,q1⟩) M
def Ln(i:Nat)(te:TE)(B:TIp):TS:=λD q H=>∃x,q[i]?=aa (aa x)/\te q H λy L=>B x y L λz J=>D.nx (q.set i (aa z)) J
def Hs{i:Nat}{x:ay}{e:Vo}{te:TE}{U:VN}{Y:TIp}{pos':Pos}(C:X.N.Nodup)(hi:X.N[i]?=aa x)(V:Loc X.env.scope x)(t:PE X e te)(j:PIp X U Y)(p:X.fn x=ah\/X.env.scope.names.lookup x=aa .local:=by first|exact .inl rfl|exact .inr rfl|assumption):
 PS X (.AugAssign (.Name x pos') U e pos) (Ln i te Y):=by
 intro L s W H D I h;obtain⟨v,e1,h⟩:=h;obtain⟨m,hn,o⟩:=I.loc;have O:Vis X.env.scope x:=by rcases V with k|k;exact .inl k;exact .inr (.inl k)
 obtain⟨u,r,l⟩:=o i x v hi e1 O;refine wpAny_AugAssign_Name ?_;have Z:av (Su X.prog X.w) X.A (eval e X.env) (λw J=>av (Su X.prog X.w) X.A (inplaceOp U u w) (λr B=>av (Su X.prog X.w) X.A (storeName X.env x r) (λ_=>SP X L D .next) X.xe B) X.xe J) X.xe s:=by refine thn (t L s W H _ I h) λw a M=>?_;obtain⟨y,P,G,d,g⟩:=M;refine thn (j L a W P v y u w _ G r d g) λz S M=>?_;obtain⟨Q,K,F,b,f⟩:=M;exact nF F C hi V b (λR E=>⟨_,K,E,f⟩) p
 rcases l with⟨q,n⟩|⟨q,c,hc,hcell⟩
 exact wpAny_loadName_local I.ok.kind q hn n Z
 ·rcases q with q|q
  exact wpAny_loadName_cell I.ok.kind q hc hcell Z
  ·rcases V with k|k
   ·have:X.env.scope.names.lookup x=aa .free:=q;rw[k]at this;cases this
   ·have:X.env.scope.names.lookup x=aa .free:=q;rw[k]at this;cases this
end
section
variable{X:Cx}{pos:Pos}
def zS(c:TT)(tb:TS):TS:=λD q H=>∃W:Nat->St->Hp->Prop,(∃m,W m q H)/\∀m q H,W m q H →
 c q H λb L=>if b=ah then ∃N:St->Hp->Prop,(∀B M,N B M->∃J,J<m/\W J B M)/\tb {D with nx:=N,ct:=N,bk:=D.nx} q L else D.nx q L
def zT{c:Vo}{B:List WJ}{tc:TT}{tb:TS}(e:PassesOwn (Su X.prog X.w) X.A X.env X.xe)(u:PT X c tc)(v:PSs X B tb):PS X (.While c B [] pos) (zS tc tb):=by
 intro O s l H D I h;obtain⟨W,⟨t,o⟩,turn⟩:=h;refine wpAny_While (codeAny_whileLoop (λn r=>∃J k,Inv X O J k r/\W n J k) ?_ t ⟨l,H,I,o⟩)
 rintro n s1 ⟨σ1,H1,I1,w1⟩
 refine UQ e (thn (u O s1 σ1 H1 _ I1 (turn n σ1 H1 w1)) λb p m=>?_);obtain⟨j,i,M⟩:=m;cases b with
 |true =>
  obtain⟨N,g,M⟩:=M;rw[bJ rfl];refine UQ e (thn (v O p σ1 j _ i M) λf x V=>?_);cases f with
  |next =>
   obtain⟨q,L,d,Y⟩:=V;obtain⟨Z,a,U⟩:=g q L Y;exact⟨Z,a,q,L,d,U⟩
  |cont =>
   obtain⟨q,L,d,Y⟩:=V;obtain⟨Z,a,U⟩:=g q L Y;exact⟨Z,a,q,L,d,U⟩
  |_=>exact V
 |false =>
  rw[bK SE];exact Wl ⟨σ1,j,i,M⟩
end
structure It where
 go:Nat->Hp->Prop
 yld:Nat->Hp->V->Hp->Prop
 stop:Nat->Hp->Prop
def pL(X:Cx)(zt:List (az×ao))(H:Hp)(b:az):Prop :=
 H b=af/\b≠X.env.locals/\b∉X.fs/\(b∈X.ex\/X.s₀.heap.objs.size<=b)/\(∀x c,X.env.cells.lookup x=aa c->c≠b)/\∀p∈X.pn++zt,p.1≠b
def Inv.DN{X:Cx}{zt:List (az×ao)}{σ:St}{H H':Hp}{s:RV}{b:az}(I:Inv X zt σ H s)(B:s.heap.objs.size<=b)(hn:H' b=af):pL X zt H' b:=by
 refine⟨hn,Tt (Sx I.lt B),I.OT B,.inr (SK I.sz B),λx c e z=>?_,λp D z=>?_⟩
 ·obtain⟨v,q⟩:=I.cell x c e;exact bL (Sx q.lt (by rw[z];exact B)) (To _)
 exact bL (Sx (R6 (I.pin p D).1) (by rw[z];exact B)) (To _)
structure Turn(P:So)(w:SQ)(K:RQ)(tg:Vo)(J:It)(fp:List az)(it:az)(tn:Nat->aq->Prop):Prop where
 mem:it∈fp
 obj:∀i h,tn i h->∀b∈fp,∃o,h.get? b=aa o/\∀v,o.data≠.cell v
 keep:∀i h h',tn i h->(∀b∈fp,∀o,h.get? b=aa o->h'.get? b=aa o)->tn i h'
 item:∀(X:Cx),X.prog=P->X.w=w->X.K=K->X.calm=ah->∀(i:Nat)(zt:List (az×ao)) (s:RV) (σ:St) (H:Hp) (E:aA->RV->Prop),Inv X zt σ H s->(∀b∈fp,pL X zt H b)->tn i s.heap->J.go i H →
  av (Su P w) X.A (Vy (.ref it)) (λr s1=>∃ u,r=aa u ∧
   av (Su P w) X.A (Wo tg (.ref it) u) (λ_ s2=>∃ x H',Inv X zt σ H' s2/\RelV x u/\J.yld i H x H'/\tn (i+1) s2.heap/\∀ b∈fp,H' b=af) E s1) E s
 done:∀(X:Cx),X.prog=P->X.w=w->X.K=K->X.calm=ah->∀(i:Nat)(zt:List (az×ao)) (s:RV) (σ:St) (H:Hp) (E:aA->RV->Prop),Inv X zt σ H s->(∀b∈fp,pL X zt H b)->tn i s.heap->J.stop i H →
  av (Su P w) X.A (Vy (.ref it)) (λr s1=>r=af/\Inv X zt σ H s1) E s
 self:∀(A:TF)(i:Nat)(s:RV)(Q:aA->RV->Prop) (E:aA->RV->Prop),tn i s.heap->Q (.ref it) s->av (Su P w) A (pyIter (.ref it)) Q E s
abbrev TI:=St->Hp->(It->Hp->Prop)->Prop
def PIE(X:Cx)(zt:List (az×ao))(σ:St)(tg:Vo)(R:It->Hp->Prop)(q:aA)(s2:RV):Prop :=
 ∃(L:az) (M:List az) (D:Nat->aq->Prop) (J:It) (B:Hp),q=.ref L/\Inv X zt σ B s2/\Turn X.prog X.w X.K tg J M L D/\D 0 s2.heap/\(∀b∈M,pL X zt B b)/\R J B
def PI(X:Cx)(tg iter:Vo)(D:TI):Prop :=
 ∀(B:List (az×ao)) (s:RV) (q:St) (H:Hp) (R:It->Hp->Prop),Inv X B q H s->D q H R →
  av (Su X.prog X.w) X.A (eval iter X.env) (λv J=>av (Su X.prog X.w) X.A (pyIter v) (PIE X B q tg R) X.xe J) X.xe s
def vQ{M:Model}{A:TF}{E:aA->RV->Prop}{s:RV}{tg:Vo}{B:az}{u:aA}{o:ao}{n:String}{vs:Array aA}{Q:Unit->RV->Prop}(D:s.heap.get? B=aa o)(L:o.cls=.type n)(J:o.data=.fields vs)
(hn:["enumerate","zip","dict_itemiterator","dict_reverseitemiterator","odict_iterator","itertools.zip_longest","itertools.pairwise"].contains n=ai)(q:Q () s):av M A (Wo tg (.ref B) u) Q E s:=by
 unfold Wo;cases tg<;>first
  |exact au q
  | (cases u<;>first
   |exact au q
   | (refine RP (wpAny_load D ?_)
      rw[L,J];show av M A (if (["enumerate","zip","dict_itemiterator","dict_reverseitemiterator","odict_iterator","itertools.zip_longest","itertools.pairwise"].contains n&&vs[0]?==aa (U1 _))=ah then _ else _) Q E s;rw[bK (by intro h;rw[hn,Bool.false_and] at h;cases h)];exact au q))
noncomputable def Itl(K:RQ)(a:az):It :=
 ⟨λi H=>∃q x,SqL K H a q/\q[i]?=aa x,λi H x B=>B=H/\∀q,SqL K H a q->q[i]?=aa x,λi H=>∃q,SqL K H a q/\q.length<=i⟩
noncomputable def Itt(K:RQ)(a:az):It :=
 ⟨λi H=>∃q x,SqT K H a q/\q[i]?=aa x,λi H x B=>B=H/\∀q,SqT K H a q->q[i]?=aa x,λi H=>∃q,SqT K H a q/\q.length<=i⟩
noncomputable def Itr(lo:Int)(n:Nat):It:=⟨λi _=>i<n,λi H x q=>q=H/\x=.int (lo+i),λi _=>n<=i⟩
theorem yf{P:So}{w:SQ}{K:RQ}{tg:Vo}(a q:az):Turn P w K tg (Itl K a) [q] q (λi h=>h.IsListIter q a i) where
 mem:=by simp
 obj:=λi h st b B=>by
  have e:b=q:=by simpa using B
  subst e;obtain⟨o,e,c,d⟩:=st;exact⟨o,e,λv z=>by rw[d]at z;cases z⟩
 keep:=λi h M st k=>st.at λo e=>k q (by simp) o e
 item:=by intro X Y hw Z t i r s n H E I L st W;subst Y hw Z;obtain⟨y,x,J,V⟩:=W;obtain⟨U,O,p,F⟩:=I.list J;obtain⟨u,N,C⟩:=O.get V;obtain⟨m,l,Q,j,g,f⟩:=L q (by simp);refine wpAny_pyNext_list_item st p.isList (x:=u) (by simpa using N) λM D A=>?_;have S:Inv X r n H {s with heap:=M}:=I.turned (t':=s.toks) (λb o B e=>(A.2 b B).trans e) m l j g f;obtain⟨o,e,c,d⟩:=id D;exact⟨u,rfl,vQ (s:={s with heap:=M}) e c d (by decide) ⟨x,H,S,C,⟨rfl,λT G=>by rw[I.sy G J];exact V⟩,D,λb B=>(L b B).1⟩⟩
 done:=by intro X Y hw Z t i r s n H E I L st W;subst Y hw Z;obtain⟨y,J,V⟩:=W;obtain⟨U,O,p,F⟩:=I.list J;obtain⟨m,l,Q,j,g,f⟩:=L q (by simp);have hl:=O.length;exact wpAny_pyNext_list_end (I.ok.hd t) st p.isList (by simp;lia) λM R=>⟨rfl,I.turned (t':=s.toks) (λb o B e=>R b o B e) m l j g f⟩
 self:=λ_ _ _ _ _ st h=>wpAny_pyIter_listiter st h
theorem uF{P:So}{w:SQ}{K:RQ}{tg:Vo}(a B:az):Turn P w K tg (Itt K a) [B] B (λi h=>h.IsTupleIter B a i) where
 mem:=by simp
 obj:=λi h st b D=>by
  have e:b=B:=by simpa using D
  subst e;obtain⟨o,e,c,d⟩:=st;exact⟨o,e,λv z=>by rw[d]at z;cases z⟩
 keep:=λi h O st k=>st.at λo e=>k B (by simp) o e
 item:=by intro X Y hw Z t i r s n H E I M st W;subst Y hw Z;obtain⟨y,x,L,V⟩:=W;obtain⟨q,U,p,F⟩:=I.tuple L;obtain⟨u,N,C⟩:=U.get V;obtain⟨m,l,Q,j,g,f⟩:=M B (by simp);refine wpAny_pyNext_tuple_item st (show s.heap.IsTuple a q.toArray from p) (x:=u) (by simpa using N) λO J A=>?_;have S:Inv X r n H {s with heap:=O}:=I.turned (t':=s.toks) (λb o D e=>(A.2 b D).trans e) m l j g f;obtain⟨o,e,c,d⟩:=id J;exact⟨u,rfl,vQ (s:={s with heap:=O}) e c d (by decide) ⟨x,H,S,C,⟨rfl,λT G=>by rw[I.ye G L];exact V⟩,J,λb D=>(M b D).1⟩⟩
 done:=by intro X Y hw Z t i r s n H E I M st W;subst Y hw Z;obtain⟨y,L,V⟩:=W;obtain⟨q,U,p,F⟩:=I.tuple L;obtain⟨m,l,Q,j,g,f⟩:=M B (by simp);have hl:=U.length;exact wpAny_pyNext_tuple_end (I.ok.hd t) st (show s.heap.IsTuple a q.toArray from p) (by simp;lia) λO R=>⟨rfl,I.turned (t':=s.toks) (λb o D e=>R b o D e) m l j g f⟩
 self:=λ_ _ _ _ _ st h=>wpAny_pyIter_tupleiter st h
theorem uG{P:So}{w:SQ}{K:RQ}{tg:Vo}(q:az)(lo:Int)(n:Nat):Turn P w K tg (Itr lo n) [q] q (λi h=>IsRangeIter h q (lo+(i:Nat)*1) ((n:Int)-(i:Nat)) 1) where
 mem:=by simp
 obj:=λi h st b B=>by
  have e:b=q:=by simpa using B
  subst e;exact⟨_,st,λv z=>by have l:Data.fields _=Data.cell v:=z;cases l⟩
 keep:=λi h L st k=>k q (by simp) _ st
 item:=by intro X U hw V O i g s f H E I J st M;subst U hw V;obtain⟨d,c,r,a,Z,Y⟩:=J q (by simp);have W:=Walks.range (prog:=X.prog) (w:=X.w) (I.ok.hd O) q lo 1 n;refine W.item i s _ _ M st λv L j p D m=>?_;obtain⟨t,rfl⟩:=p;have x:Inv X g f H {s with heap:=L,toks:=j}:=I.turned (λb o B e=>m b o (by simpa using B) e) d c a Z Y;refine⟨_,rfl,vQ (s:={s with heap:=L,toks:=j}) (n:="range_iterator") D rfl rfl (by decide) ⟨.int (lo+i),H,x,⟨t,?_⟩,⟨rfl,rfl⟩,D,λb B=>(J b B).1⟩⟩;rw[Int.mul_one]
 done:=by intro X U hw V O i g s f H E I J st M;subst U hw V;obtain⟨d,c,r,a,Z,Y⟩:=J q (by simp);exact wpAny_pyNext_range_end (I.ok.hd O) st (by have:n<=i:=M;lia) λL u=>⟨rfl,I.turned (t':=s.toks) (λb o B e=>u b o B e) d c a Z Y⟩
 self:=λ_ _ _ _ _ st h=>wpAny_pyIter_rangeiter st h
end L2
namespace L2
open PySem PySem.Spec PyProof.Rows
section
variable{X:Cx}{tg:Vo}
def Lo(K:RQ)(tl:TE):TI:=fun B H R=>tl B H λx q=>∃a,x=.ref a/\(∃D,SqL K q a D)/\R (Itl K a) q
def O0(K:RQ)(tl:TE):TI:=fun B H R=>tl B H λx q=>∃a,x=.ref a/\(∃D,SqT K q a D)/\R (Itt K a) q
def vR{l:Vo}{tl:TE}(Y:PE X l tl):PI X tg l (Lo X.K tl):=by
 intro L s J H R I h;refine thn (Y L s J H _ I h) λv B M=>?_;obtain⟨x,c,D,O,U⟩:=M;obtain⟨a,e,⟨d,W⟩,q⟩:=U;subst e;cases O;obtain⟨V,f,p,g⟩:=D.list W;refine wpAny_pyIter_list p.isList ?_;refine⟨B.heap.objs.size,[B.heap.objs.size],_,_,c,rfl,D.aH (t':=B.toks) λb o e=>RT _ e,yf a _,⟨_,R8 _ rfl,rfl,rfl⟩,λb Z=>?_,q⟩;have e:b=B.heap.objs.size:=by simpa using Z
 subst e;exact D.DN (R0 _) (D.aJ.fresh (R0 _))
def Hu{l:Vo}{tl:TE}(Y:PE X l tl):PI X tg l (O0 X.K tl):=by
 intro M s L H R I h;refine thn (Y M s L H _ I h) λv B O=>?_;obtain⟨x,c,D,U,V⟩:=O;obtain⟨a,e,⟨d,W⟩,q⟩:=V;subst e;cases U;obtain⟨J,f,p,g⟩:=D.tuple W;refine WZ (show B.heap.IsTuple a J.toArray from p) ?_;refine⟨B.heap.objs.size,[B.heap.objs.size],_,_,c,rfl,D.aH (t':=B.toks) λb o e=>RT _ e,uF a _,⟨_,R8 _ rfl,rfl,rfl⟩,λb Z=>?_,q⟩;have e:b=B.heap.objs.size:=by simpa using Z
 subst e;exact D.DN (R0 _) (D.aJ.fresh (R0 _))
def sC{zt:List (az×ao)}{σ:St}{H:Hp}{s:RV}{R:It->Hp->Prop}{E:aA->RV->Prop}{lo hi:Int}{t u v:Tok}{tk:Nat}(I:Inv X zt σ H s)(h1:-(2^62)<=lo)(h2:lo<2^62)(L:-(2^62)<=hi)(J:hi<2^62)
(q:R (Itr lo (hi-lo).toNat) H):av (Su X.prog X.w) X.A (pyIter (.ref s.heap.objs.size)) (PIE X zt σ tg R) E {s with heap:=s.heap.push {cls:=.type "range",data:=.fields #[.int lo t,.int hi u,.int 1 v]},toks:=tk}:=by
 refine wpAny_pyIter_range (IsRange.new ..) (small_one h1 h2 L J) ?_;have B:Inv X zt σ H { s with heap:=s.heap.push { cls:=.type "range",data:=.fields #[.int lo t,.int hi u,.int 1 v] },toks:=tk }:=I.aH λb o e=>RT _ e;refine ⟨(s.heap.push { cls:=.type "range",data:=.fields #[.int lo t,.int hi u,.int 1 v] }).objs.size,[(s.heap.push { cls:=.type "range",data:=.fields #[.int lo t,.int hi u,.int 1 v] }).objs.size],_,_,H,rfl,
  B.aH (t':=tk) λb o e=>RT _ e,uG _ lo (hi - lo).toNat,?_,λb D=>?_,q⟩
 ·have e1:lo+((0:Nat):Int)*1=lo:=by simp
  have e2:(((hi-lo).toNat:Nat):Int)-((0:Nat):Int)=Builtin.Range.rangeSize lo hi 1:=by rw[rangeSize_one];split<;>lia
  show IsRangeIter _ _ (lo+((0:Nat):Int)*1) ((((hi-lo).toNat:Nat):Int)-((0:Nat):Int)) 1;rw[e1,e2];exact R8 _ rfl
 ·have e:b=(s.heap.push {cls:=.type "range",data:=.fields #[.int lo t,.int hi u,.int 1 v]}).objs.size:=by simpa using D
  subst e;exact B.DN (R0 _) (B.aJ.fresh (R0 _))
def Lp(ta:TA):TI:=fun q H R=>ta q H λB D=>∃j:Int,B=[.int j]/\-(2^62)<=j/\j<2^62/\R (Itr 0 j.toNat) D
def Lq(ta:TA):TI:=fun q H R=>ta q H λB D=>∃i j:Int,B=[.int i,.int j]/\(-(2^62)<=i/\i<2^62/\-(2^62)<=j/\j<2^62)/\R (Itr i (j-i).toNat) D
def yg{a:Vo}{ta:TA}{p pos:Pos}(V:Gl X "range")(U:X.mg "range"=af)(W:PA X [a] ta)(O:SM [a] X.env=[(ai,eval a X.env)]:=by rfl):PI X tg (.Call (.Name "range" p) [a] [] pos) (Lp ta):=by
 intro J s D H R I h;refine Call_ (gU I V U boot_range (SJ (thn (W pos J s D H _ I h) λus s1 ⟨vs,H1,I1,r1,B⟩=>?_) O rfl));obtain⟨j,e,B,M,q⟩:=B;subst e;cases r1 with
 |cons r L =>
  cases L;obtain⟨t,rfl⟩:=r;exact call_range_1 (sC I1 (by lia) (by lia) B M (by simpa using q))
def yh{a b:Vo}{ta:TA}{p pos:Pos}(c:Gl X "range")(Z:X.mg "range"=af)(d:PA X [a,b] ta)(Y:SM [a,b] X.env=[(ai,eval a X.env),(ai,eval b X.env)]:=by rfl)(B:SM [b] X.env=[(ai,eval b X.env)]:=by rfl):
 PI X tg (.Call (.Name "range" p) [a,b] [] pos) (Lq ta):=by
 intro M s L H R I h;refine Call_ (gU I c Z boot_range (SJ (thn (d pos M s L H _ I h) λus s1 ⟨vs,H1,I1,r1,J⟩=>?_) (by rw[Y,B]) (by rw[B];rfl)));obtain⟨i,j,e,⟨J,W,V,U⟩,q⟩:=J;subst e;cases r1 with
 |cons r D =>
  cases D with
  |cons O D =>
   cases D;obtain⟨t,rfl⟩:=r;obtain⟨f,rfl⟩:=O;exact call_range_2 (sC I1 J W V U q)
def Lr(U:TI)(g:TG)(tb:TS):TS:=λD q H=>U q H λJ Y=>∃W:Nat->Nat->St->Hp->Prop,(∃m,W 0 m q Y)/\∀i m q H,W i m q H →
 (J.stop i H/\D.nx q H)\/(J.go i H/\∃N:St->Hp->Prop,(∀B L,N B L->∃O,O<m/\W (i+1) O B L)/\∀x L,J.yld i H x L->g x q L fun M V=>tb {D with nx:=N,ct:=N,bk:=D.nx} M V)
noncomputable def lZ(fp:List az)(h:aq):List (az×ao):=fp.filterMap λb=>(h.get? b).map λo=>(b,o)
def ji{fp:List az}{h:aq}{b:az}{o:ao}(q:b∈fp)(e:h.get? b=aa o):(b,o)∈lZ fp h:=List.mem_filterMap.mpr ⟨b,q,by rw[e];rfl⟩
def yi{fp:List az}{h:aq}{p:az×ao}(B:p∈lZ fp h):p.1∈fp/\h.get? p.1=aa p.2:=by
 obtain⟨b,D,e⟩:=List.mem_filterMap.mp B;cases q:h.get? b with
 |none=>rw[q]at e;cases e
 |some o =>
  rw[q]at e;have J:(b,o)=p:=Sa e;subst J;exact⟨D,q⟩
def Inv.pinned{zt:List (az×ao)}{σ:St}{H:Hp}{s:RV}{fp:List az}(I:Inv X zt σ H s)(L:∀b∈fp,pL X zt H b)(J:∀b∈fp,∃o,s.heap.get? b=aa o/\∀v,o.data≠.cell v):Inv X (zt++lZ fp s.heap) σ H s :=
 I.m7 λp D=>(List.mem_append.mp D).elim (λz=>I.pin p (S9 _ z)) λz=>by obtain⟨q,e⟩:=yi z;obtain⟨U,O,M,_⟩:=L p.1 q;obtain⟨o,B,d⟩:=J p.1 q;rw[e]at B;cases B;exact⟨e,U,O,M,d⟩
def Inv.k9{zt pl:List (az×ao)}{σ:St}{H:Hp}{s:RV}(I:Inv X (zt++pl) σ H s):Inv X zt σ H s:=I.m7 λp q=>I.pin p (S9 _ (Vl _ q))
def Hv{iter:Vo}{Y:List WJ}{K:TI}{g:TG}{tb:TS}{pos:Pos}(k:PassesOwn (Su X.prog X.w) X.A X.env X.xe)(S:X.calm=ah)(hi:PI X tg iter K)(hg:PG X tg g)(M:PSs X Y tb)
(hs:∀x,foldedSetIterable iter X.env x=pure x:=by intro _;rfl):PS X (.For tg iter Y [] pos) (Lr K g tb):=by
 intro Z s G H D I h;refine wpAny_For (thn (hi Z s G H _ I h) λv s1 h1=>thn h1 λitv s2 h2=>?_) hs;obtain⟨it,l,P,J,H2,e,I2,T,t,f2,W,⟨m0,w0⟩,turn⟩:=h2;subst e;have L:∀{U:Hp},(∀b∈l,U b=af)->∀b∈l,pL X Z U b:=λhn b M=>⟨hn b M,(f2 b M).2⟩;refine codeAny_forLoop_any (λn R=>∃i B U,Inv X Z B U R/\P i R.heap/\(∀b∈l,U b=af)/\W i n B U) ?_ m0 ⟨0,G,H2,I2,t,λb M=>(f2 b M).1,w0⟩
 rintro n s3 ⟨i,σ3,H3,I3,st3,fr3,w3⟩
 rcases turn i n σ3 H3 w3 with⟨stop,qn⟩|⟨go,N,hN,step⟩
 ·refine UQ k (thn (T.done X rfl rfl rfl S i Z s3 σ3 H3 X.xe I3 (L fr3) st3 stop) λr s4 a=>?_);obtain⟨C,I4⟩:=a;subst C;exact Wl ⟨σ3,H3,I4,qn⟩
 ·refine UQ k (thn (T.item X rfl rfl rfl S i Z s3 σ3 H3 X.xe I3 (L fr3) st3 go) λr s4 a=>?_);obtain⟨u,C,h4⟩:=a;subst C;refine UQ k (thn h4 λ_ Q a=>?_);obtain⟨x,H5,I5,r5,y5,c,E⟩:=a;have F:=I5.pinned (L E) (T.obj _ _ c);refine UQ k (thn (hg _ Q σ3 H5 x u _ F r5 (step x H5 y5)) λ_ s6 a=>?_);obtain⟨p,H6,I6,q6⟩:=a;refine UQ k (thn (M _ s6 p H6 _ I6 q6) λf y j=>?_);have again:∀{q:St}{O:Hp},Inv X (Z++lZ l Q.heap) q O y->N q O->∃m,m<n/\∃i B U,Inv X Z B U y/\P i y.heap/\(∀b∈l,U b=af)/\W i m B U:=λ{q O} V z=>by obtain⟨m',hm,w7⟩:=hN q O z;refine⟨m',hm,i+1,q,O,V.k9,T.keep _ _ _ c λb M o e=>(V.pin (b,o) (S9 _ (S9 _ (ji M e)))).1,λb M=>?_,w7⟩;obtain⟨o,e,d⟩:=T.obj _ _ c b M;exact(V.pin (b,o) (S9 _ (S9 _ (ji M e)))).2.1
  cases f with
  |brk=>obtain⟨q,O,V,j⟩:=j;exact⟨q,O,V.k9,j⟩|ret v=>obtain⟨x7,q,O,V,r7,j⟩:=j;exact⟨x7,q,O,V.k9,r7,j⟩|_=>obtain⟨q,O,V,z⟩:=j;exact again V z
end
end L2
namespace L2
open PySem PySem.Spec PyProof.Rows
abbrev R2:=V->V->Hp->VK->Prop
def OpR(X:Cx)(f:aA->aA->Sem aA)(r:R2):Prop :=
 ∀(B:List (az×ao)) (s:RV) (q:St) (H:Hp) (x y:V) (v u:aA) (Q:VK),Inv X B q H s->RelV x v->RelV y u->r x y H Q →
  av (Su X.prog X.w) X.A (f v u) (EP X B q Q) X.xe s
def UnR(X:Cx)(f:aA->Sem aA)(r:V->Hp->VK->Prop):Prop :=
 ∀(B:List (az×ao)) (s:RV) (q:St) (H:Hp) (x:V) (v:aA) (Q:VK),Inv X B q H s->RelV x v->r x H Q →
  av (Su X.prog X.w) X.A (f v) (EP X B q Q) X.xe s
def eW(X:Cx)(f:aA)(r:List V->Hp->VK->Prop):Prop :=
 ∀(B:List (az×ao)) (s:RV) (q:St) (H:Hp) (D:List V) (J:List aA) (Q:VK),Inv X B q H s->dg D J->r D H Q →
  av (Su X.prog X.w) X.A (call f J) (EP X B q Q) X.xe s
def tOp(r:R2)(ta tb:TE):TE:=fun q H Q=>ta q H λx D=>tb q D λy B=>r x y B Q
def tUn(r:V->Hp->VK->Prop)(ta:TE):TE:=fun q H Q=>ta q H λx B=>r x B Q
def rI(C:Int->Int->Prop)(g:Int->Int->V):R2:=λx y H Q=>∃i j,x=.int i/\y=.int j/\C i j/\Q (g i j) H
def rI0(g:Int->Int->V):R2:=λx y H Q=>∃i j,x=.int i/\y=.int j/\Q (g i j) H
def rU(g:Int->V):V->Hp->VK->Prop:=λx H Q=>∃i,x=.int i/\Q (g i) H
section
variable{X:Cx}{a b c:Vo}{ta tb tc:TE}{pos:Pos}
def Hw(Z:PE X a ta)(Y:PE X b tb){zt:List (az×ao)}{s:RV}{σ:St}{H:Hp}{R:V->V->Hp->Prop}(I:Inv X zt σ H s)
(h:ta σ H λx H1=>tb σ H1 λy H2=>R x y H2){Q:aA->RV->Prop}{f:aA->aA->Sem aA}
(W:∀v u s2 x y H2,Inv X zt σ H2 s2->RelV x v->RelV y u->R x y H2->av (Su X.prog X.w) X.A (f v u) Q X.xe s2):
 av (Su X.prog X.w) X.A (eval a X.env) (λv B=>av (Su X.prog X.w) X.A (eval b X.env) (λu q=>av (Su X.prog X.w) X.A (f v u) Q X.xe q) X.xe B) X.xe s:=by
 refine thn (Z zt s σ H _ I h) λv J D=>?_;obtain⟨x,H1,d,M,U⟩:=D;refine thn (Y zt J σ H1 _ d U) λu s2 D=>?_;obtain⟨y,H2,c,L,O⟩:=D;exact W v u s2 x y H2 c M L O
def Ls{B:VN}{r:R2}(U:OpR X (Uq B) r)(W:PE X a ta)(V:PE X b tb):PE X (.BinOp a B b pos) (tOp r ta tb):=by intro J s D H Q I h;exact wpAny_BinOp (Hw W V I h λv u L x y Z Y O M q=>U J L D Z x y v u Q Y O M q)
def GA{D:UnaryOp}{r:V->Hp->VK->Prop}(J:UnR X (unaryOp D) r)(L:PE X a ta):PE X (.UnaryOp D a pos) (tUn r ta):=by intro B s q H Q I h;exact UnaryOp_ (thn (L B s q H _ I h) λv s1 ⟨x,H1,I1,r1,q1⟩=>J B s1 q H1 x v Q I1 r1 q1)
def opI{f:aA->aA->Sem aA}{C:Int->Int->Prop}{g:Int->Int->Int}
(rule:∀(i j:Int)(t u:Tok)(s:RV)(Q:aA->RV->Prop) (E:aA->RV->Prop),C i j->Q (.int (g i j) s.toks) {s with toks:=s.toks+1}->av (Su X.prog X.w) X.A (f (.int i t) (.int j u)) Q E s):
 OpR X f (rI C λi j=>.int (g i j)):=by
 intro O s M H x y v u Q I J D h;obtain⟨i,j,rfl,rfl,L,q⟩:=h;obtain⟨t,rfl⟩:=J;obtain⟨B,rfl⟩:=D;exact rule i j t B s _ _ L ⟨.int (g i j),H,I.tok _,⟨_,rfl⟩,q⟩
def Lu{f:aA->aA->Sem aA}{g:Int->Int->Int}
(rule:∀(i j:Int)(t u:Tok)(s:RV)(Q:aA->RV->Prop) (E:aA->RV->Prop),Q (.int (g i j) s.toks) {s with toks:=s.toks+1}->av (Su X.prog X.w) X.A (f (.int i t) (.int j u)) Q E s):
 OpR X f (rI0 λi j=>.int (g i j)):=by
 intro M s L H x y v u Q I J D h;obtain⟨i,j,rfl,rfl,q⟩:=h;obtain⟨t,rfl⟩:=J;obtain⟨B,rfl⟩:=D;exact rule i j t B s _ _ ⟨.int (g i j),H,I.tok _,⟨_,rfl⟩,q⟩
def DO{f:aA->aA->Sem aA}{g:Int->Int->Bool}
(rule:∀(i j:Int)(t u:Tok)(s:RV)(Q:aA->RV->Prop) (E:aA->RV->Prop),Q (.bool (g i j)) s->av (Su X.prog X.w) X.A (f (.int i t) (.int j u)) Q E s):
 OpR X f (rI0 λi j=>.bl (g i j)):=by
 intro M s L H x y v u Q I J D h;obtain⟨i,j,rfl,rfl,q⟩:=h;obtain⟨t,rfl⟩:=J;obtain⟨B,rfl⟩:=D;exact rule i j t B s _ _ ⟨.bl (g i j),H,I,rfl,q⟩
def O1(i j:Int):Prop:=0<j/\j<1073741824
def DP(i j:Int):Prop:=(-(2^64)<i/\i<2^64)\/(-(2^64)<j/\j<2^64)
def DP.ok{i j:Int}(h:DP i j):IntMulOk i j:=by
 rcases h with⟨B,q⟩|⟨B,q⟩
 exact .of_left (intBits_le_64 B q);exact .of_right (intBits_le_64 B q)
def Hx:OpR X (Uq .Add) (rI0 λi j=>.int (i+j)):=Lu λ_ _ _ _ _ _ _ q=>add_int q
def Hy:OpR X (Uq .Sub) (rI0 λi j=>.int (i-j)):=Lu λ_ _ _ _ _ _ _ q=>sub_int q
def Hz:OpR X (Uq .Mult) (rI DP λi j=>.int (i*j)):=opI λ_ _ _ _ _ _ _ B q=>mul_int q B.ok
def DQ:OpR X (Uq .FloorDiv) (rI O1 λi j=>.int (i/j)):=opI λi j _ _ _ _ _ B q=>by have J:(0:Int)<j:=B.1;have D:j<1073741824:=B.2;exact floordiv_int (by lia) (by rw[Int.fdiv_eq_ediv_of_nonneg i (by lia)];exact q) (.inl (PyProof.noPylong_small (by lia)))
def HA:OpR X (Uq .Mod) (rI (λ_ j=>0<j) λi j=>.int (i%j)):=opI λi j _ _ _ _ _ B q=>by have D:(0:Int)<j:=B;exact mod_int' (by lia) (by rw[Int.fmod_eq_emod_of_nonneg i (by lia)];exact q)
def unI{f:aA->Sem aA}{g:Int->Int}
(rule:∀(i:Int)(t:Tok)(s:RV)(Q:aA->RV->Prop) (E:aA->RV->Prop),Q (.int (g i) s.toks) {s with toks:=s.toks+1}->av (Su X.prog X.w) X.A (f (.int i t)) Q E s):
 UnR X f (rU λi=>.int (g i)):=by
 intro J s D H x v Q I B h;obtain⟨i,rfl,q⟩:=h;obtain⟨t,rfl⟩:=B;exact rule i t s _ _ ⟨.int (g i),H,I.tok _,⟨_,rfl⟩,q⟩
def zU:UnR X (unaryOp .USub) (rU λi=>.int (-i)):=unI λ_ _ _ _ _ q=>neg_int q
end
section
variable{X:Cx}{a b c:Vo}{ta tb tc:TE}{pos:Pos}
def zV{zt:List (az×ao)}{σ:St}{H:Hp}{s:RV}{Q:VK}{k B:Bool}(I:Inv X zt σ H s)(q:Q (.bl k) H)(e:k=B):EP X zt σ Q (.bool B) s:=by subst e;exact⟨.bl k,H,I,rfl,q⟩
def Lv:OpR X (TL .Lt) (rI0 λi j=>.bl (decide (i<j))):=DO λ_ _ _ _ _ _ _ q=>lt_int q
def Lx:OpR X (TL .LtE) (rI0 λi j=>.bl (decide (i<=j))):=DO λ_ _ _ _ _ _ _ q=>le_int q
def Ly:OpR X (TL .Gt) (rI0 λi j=>.bl (decide (j<i))):=DO λ_ _ _ _ _ _ _ q=>gt_int q
def Lz:OpR X (TL .GtE) (rI0 λi j=>.bl (decide (j<=i))):=DO λ_ _ _ _ _ _ _ q=>ge_int q
def HB:OpR X (TL .Is) (λx y H Q=>y=.aD/\Q (.bl (decide (x=.aD))) H):=by
 intro L s J H x y v u Q I B D h;obtain⟨rfl,q⟩:=h;cases D;refine is_none_gen (zV I q ?_);cases x<;>first
  |(cases B;rfl)
  |(obtain⟨t,rfl⟩:=B;rfl)
def DR:OpR X (TL .IsNot) (λx y H Q=>y=.aD/\Q (.bl (!decide (x=.aD))) H):=by
 intro L s J H x y v u Q I B D h;obtain⟨rfl,q⟩:=h;cases D;refine isnot_none_gen (zV I q ?_);cases x<;>first
  |(cases B;rfl)
  |(obtain⟨t,rfl⟩:=B;rfl)
def DS{B:CmpOp}{r:R2}(U:OpR X (TL B) r)(Y:PE X a ta)(W:PE X b tb)(V:YK B b=ai):PE X (.Compare a [B] [b] pos) (tOp r ta tb):=by intro J s D H Q I h;exact wpAny_Compare1 (Hw Y W I h λv u L x y c Z O M q=>U J L D c x y v u Q Z O M q) V
def zW(t:TE):TT:=fun q H Q=>t q H λx B=>∃k,x=.bl k/\Q k B
def DT{D:CmpOp}{r:R2}(J:OpR X (TL D) r)(O:PE X a ta)(M:PE X b tb)(L:YK D b=ai):PT X (.Compare a [D] [b] pos) (zW (tOp r ta tb)):=by
 intro B s q H Q I h;refine wpAny_isTrue_Compare1 (thn (O B s q H _ I h) λv s1 ⟨x,H1,I1,r1,q1⟩=>thn (M B s1 q H1 _ I1 q1) λu s2 ⟨y,H2,I2,r2,q2⟩ =>
  thn (J B s2 q H2 x y v u _ I2 r1 r2 q2) λc s3 ⟨z,H3,I3,r3,k,e,q3⟩=>?_) L
 subst e;cases r3;exact Uc ⟨H3,I3,q3⟩
def uH(r J:R2)(ta tb tc:TE):TE:=fun q H Q=>ta q H λx O=>tb q O λy M=>r x y M λz B=>∃k,z=.bl k ∧
 (if k=ah then tc q B λD L=>J y D L Q else Q (.bl ai) B)
def zX{J q:CmpOp}{r M:R2}(O:OpR X (TL J) r)(L:OpR X (TL q) M)(Y:PE X a ta)(W:PE X b tb)(V:PE X c tc)
(U:lastMarks [J,q] [b,c]=ai:=by with_unfolding_all rfl):PE X (.Compare a [J,q] [b,c] pos) (uH r M ta tb tc):=by
 intro D s B H Q I h;refine Compare_chain (thn (Y D s B H _ I h) λv s1 ⟨x,H1,I1,r1,q1⟩=>chain_link (thn (W D s1 B H1 _ I1 q1) λu s2 ⟨y,H2,I2,r2,q2⟩ =>
  thn (O D s2 B H2 x y v u _ I2 r1 r2 q2) λd s3 ⟨z,H3,I3,r3,k,e,q3⟩=>?_)) U
 subst e;cases r3;refine Uc ?_;cases k with
 |false=>exact ite_ff ⟨.bl ai,H3,I3,rfl,q3⟩|true=>exact ite_tt (chain_last (thn (V D s3 B H3 _ I3 q3) λw' s4 ⟨z',H4,I4,r4,q4⟩=>L D s4 B H4 y z' u w' Q I4 r2 r4 q4))
def zY{J q:CmpOp}{r M:R2}(Y:OpR X (TL J) r)(L:OpR X (TL q) M)(i:PE X a ta)(g:PE X b tb)(f:PE X c tc)
(Z:lastMarks [J,q] [b,c]=ai:=by with_unfolding_all rfl):PT X (.Compare a [J,q] [b,c] pos) (zW (uH r M ta tb tc)):=by
 intro D s B H Q I h;refine isTrue_chain (thn (i D s B H _ I h) λv s1 ⟨x,H1,I1,r1,q1⟩=>test_link (thn (g D s1 B H1 _ I1 q1) λu s2 ⟨y,H2,I2,r2,q2⟩ =>
  thn (Y D s2 B H2 x y v u _ I2 r1 r2 q2) λd s3 ⟨z,H3,I3,r3,k,e,q3⟩=>?_)) Z
 subst e;cases r3;refine Uc ?_;cases k with
 |false =>
  obtain⟨p,j,W⟩:=q3;cases j;exact ite_ff ⟨H3,I3,W⟩
 |true =>
  refine ite_tt (test_last (thn (f D s3 B H3 _ I3 q3) λw' s4 ⟨z',H4,I4,r4,q4⟩=>thn (L D s4 B H4 y z' u w' _ I4 r2 r4 q4) λt o O=>?_));obtain⟨n,m,l,U,k2,e2,V⟩:=O;subst e2;cases U;exact Uc ⟨m,l,V⟩
def l6:(aj:Nat)<2^63:=by rw[WI];decide
def uI:OpR X (Uq .Add) (λx y H Q=>∃i j,x=.str i/\y=.str j/\i.length+j.length<=aj/\Q (.str (i++j)) H):=by intro O s M H x y v u Q I J D h;obtain⟨i,j,rfl,rfl,L,q⟩:=h;obtain⟨t,rfl⟩:=J;obtain⟨B,rfl⟩:=D;exact add_str (λB U=>⟨.str (i++j),H,I.tok _,⟨_,rfl⟩,q⟩) L
def vals1{x:V}{us:List aA}(r:dg [x] us):∃u,us=[u]/\RelV x u:=by
 cases r with
 |cons B q=>cases q;exact⟨_,rfl,B⟩
def vals2{x y:V}{us:List aA}(r:dg [x,y] us):∃u q,us=[u,q]/\RelV x u/\RelV y q:=by
 cases r with
 |cons L J =>
  cases J with
  |cons D B=>cases B;exact⟨_,_,rfl,L,D⟩
def yj(D:X.calm=ah):eW X (.builtin "max") (λxs H Q=>∃i j,xs=[.int i,.int j]/\Q (.int (if j>i then j else i)) H):=by
 intro L s J H xs O Q I r h;obtain⟨i,j,rfl,q⟩:=h;obtain⟨u,M,rfl,⟨t,rfl⟩,⟨V,rfl⟩⟩:=vals2 r;refine max_two_ints (I.ok.hd D) λW U k=>⟨_,H,I.aH k,?_,q⟩
 by_cases B:j>i
 rw[bJ B,bJ B];exact⟨_,rfl⟩;rw[bK B,bK B];exact⟨_,rfl⟩
def yk(D:X.calm=ah):eW X (.builtin "min") (λxs H Q=>∃i j,xs=[.int i,.int j]/\Q (.int (if j<i then j else i)) H):=by
 intro L s J H xs O Q I r h;obtain⟨i,j,rfl,q⟩:=h;obtain⟨u,M,rfl,⟨t,rfl⟩,⟨V,rfl⟩⟩:=vals2 r;refine min_two_ints (I.ok.hd D) λW U k=>⟨_,H,I.aH k,?_,q⟩
 by_cases B:j<i
 rw[bJ B,bJ B];exact⟨_,rfl⟩;rw[bK B,bK B];exact⟨_,rfl⟩
def qe:eW X (.type "int") (λxs H Q=>(∃i,xs=[.int i]/\Q (.int i) H)\/∃k,xs=[.bl k]/\Q (.int (if k then 1 else 0)) H):=by
 intro J s D H xs L Q I r h;rcases h with⟨i,rfl,q⟩|⟨k,rfl,q⟩
 ·obtain⟨u,rfl,t,rfl⟩:=vals1 r;exact call_int_int ⟨.int i,H,I,⟨_,rfl⟩,q⟩
 ·obtain⟨u,rfl,B⟩:=vals1 r;cases B;exact call_int_bool ⟨.int (if k then 1 else 0),H,I.tok _,⟨_,rfl⟩,q⟩
end
end L2
namespace L2
open PySem PySem.Spec PyProof.Rows
structure uJ(h:aq)(x dx C:az)(mA:ay->Option aA):Prop where
 obj:h.get? x=aa (Uo C dx)
 ns:h.Ns1 dx mA
 ne:dx≠x
def yl{h:aq}{dx:az}{mA:ay->Option aA}(n:h.Ns1 dx mA):∃D,h.get? dx=aa D/\∀name,V0 name D=aa (mA name):=by
 obtain⟨o,J,Y,M,V,U,_,O⟩:=n;refine⟨o,M,λname=>?_⟩;have e:=O name;unfold nsFind findBy at e;rw[←Array.find?_toList]at e;unfold V0;rw[V];dsimp only;split
 ·rename_i y q;rw[q]at e;exact bR aa e
 ·rename_i q;rw[q]at e;have a:J.toList.any (·.refKey)=ai:=by rw[List.any_eq_false];intro y L;obtain⟨z,t,B⟩:=U y (Array.mem_toList_iff.mp L);simp[DictEntry.refKey,B]
  have W:¬J.toList.any (·.refKey)=ah:=by rw[a];exact SE
  rw[bK W];exact bR aa e
def uJ.look{h:aq}{x dx C:az}{mA:ay->Option aA}(I:uJ h x dx C mA):∃q,PySem.W.InstAt h x (Uo C dx) C (aa q)/\∀name,V0 name q=aa (mA name) :=
 let ⟨q,ho,hl⟩:=yl I.ns
 ⟨q,⟨I.obj,rfl,rfl,ho⟩,hl⟩
section
variable{prog:So}{w:SQ}{A:TF}{E:aA->RV->Prop}{s:RV}{K:RQ}{x dx C f:az}{mA:ay->Option aA}{name:ay}{v:aA}
def get_map{q:Bool}{Q:aA->RV->Prop}(X:K.In s.heap)(I:uJ s.heap x dx C mA)(O:Vc K C name=ah)(M:UE K C=ah)
(U:SD K (.ref C) name=aa af)(D:mA name=aa v)(B:Yv v=ah)(h:Q v {s with toks:=s.toks+1}):
 av (Su prog w) A (getAttr (.ref x) name q) Q E s:=by
 obtain⟨V,J,L⟩:=I.look;exact PySem.W.get_value X J (V8 O).1 (PySem.W.findObj_own M U rfl (by rw[L,D])) B h
def zZ{pl:Sem Bool}{Q:aA×List aA->RV->Prop}(X:K.In s.heap)(I:uJ s.heap x dx C mA)(q:Vc K C name=ah)
(O:SD K (.ref C) name=aa (aa (.ref f)))(L:VQ K (.ref f)=ah)(D:mA name=af)(h:Q (.ref f,[.ref x]) s):
 av (Su prog w) A (X4 (.ref x) name pl) Q E s:=by
 obtain⟨B,J,M⟩:=I.look;exact PySem.W.method_fn X J (V8 q).1 (V8 q).2 O (beq_iff_eq.mp L) (by show(V0 name B).map (·.isSome)=aa ai;rw[M,D];rfl) h
def DU{ns:List ay}{Q:Unit->RV->Prop}(X:K.In s.heap)(I:uJ s.heap x dx C mA)
(Y:SD K (.ref C) "__setattr__"=aa (aa (.builtin "object.__setattr__")))(Z:Wr K C=ah)(V:WK K C name=aa af)(c:UE K C=ah)
(hw:X7 mA ns)(hsz:ns.length<=aj)
(h:∀h',uJ h' x dx C (λy=>if y=name then aa v else mA y)->Tv dx s.heap h'->Q () {s with heap:=h',toks:=s.toks+2}):
 av (Su prog w) A (setAttr (.ref x) name v) Q E s:=by
 obtain⟨g,J,j⟩:=I.look;refine PySem.W.set_plain X J Y (PySem.W.osa_open (s:={s with toks:=s.toks+1}) (r:=af) X J Z V λb=>?_);obtain⟨k,d,M⟩:=PySem.W.any_some c;have U:s.heap.get? x=aa ⟨.ref C,aa dx,.plain,#[]⟩:=I.obj;refine RP (au (RP (RP (wpAny_loadPart U (RP (PySem.W.Looks.here (s:={s with toks:=s.toks+1}) (PySem.W.looks_clsIn X d) ?_))))));rw[M];refine au (a:=aa dx) (RP (au (RP ?_)));refine wpAny_nsSet1 (s:={s with toks:=s.toks+1}) I.ns λh' B q=>?_;obtain⟨i,e,f,D,L,O⟩:=B.count (PySem.Within.cons name v hw);refine RP (wpAny_lookBehind D (by rw[L];exact pastItsLine_dict (SK O (by rw[Sh];lia))) ?_);exact au (h _ ⟨(q.2 _ (Td I.ne)).trans I.obj,B,I.ne⟩ q)
def Aa{R:Xy->RV->Prop}{vs:List aA}{kw:List (ay×aA)}(X:K.In s.heap)(B:WM K C=ah)
(hi:SD K (.ref C) "__init__"=aa (aa (.ref f)))(D:PySem.W.typeIn K (.ref f)=aa (.type "function"))
(h:ak (Su prog w) (A.under (.builtin "type.__call__" ⟨.ref C::vs,kw⟩)) (.call (.ref f) ⟨.ref (s.heap.objs.size+1)::vs,kw⟩) (PySem.W.InitBack (s.heap.objs.size+1) R)
  { s with heap:=(s.heap.push TX).push (Uo C s.heap.objs.size) }):
 ak (Su prog w) A (.call (.ref C) ⟨vs,kw⟩) R s:=by
 obtain⟨J,g,d,t,os⟩:=s;exact PySem.W.make_core (PySem.W.makes_of X B) (PySem.W.looks_findIn X hi) (λq=>PySem.W.bind_fn X q D) (.inl rfl) h
end
noncomputable def eS(f:ay)(v:V):List (ay×V)->List (ay×V)
 |[]=>[(f,v)]
 |(g,x)::r=>if g=f then(g,v)::r else(g,x)::eS f v r
theorem mO(f g:ay)(v:V):∀fs:List (ay×V),(eS f v fs).lookup g=if g=f then aa v else fs.lookup g
 |[]=>by
  show UV g [(f,v)]=_
  by_cases h:g=f
  ·have q:(g==f)=ah:=beq_iff_eq.mpr h;simp only[UV,q,bJ h]
  ·have q:(g==f)=ai:=beq_eq_false_iff_ne.mpr h;simp only[UV,q,bK h]
 |(k,x)::r=>by
  have D:=mO f g v r;rw[show eS f v ((k,x)::r)=(if k=f then(k,v)::r else(k,x)::eS f v r) from rfl]
  by_cases B:k=f
  ·rw[bJ B]
   by_cases h:g=k
   ·have q:(g==k)=ah:=beq_iff_eq.mpr h;simp only[UV,q,bJ (h.trans B)]
   ·have q:(g==k)=ai:=beq_eq_false_iff_ne.mpr h;simp only[UV,q,bK (λe:g=f=>h (e.trans B.symm))]
  ·rw[bK B]
   by_cases h:g=k
   ·have q:(g==k)=ah:=beq_iff_eq.mpr h;simp only[UV,q,bK (λe:g=f=>B (h.symm.trans e))]
   ·have q:(g==k)=ai:=beq_eq_false_iff_ne.mpr h;simp only[UV,q];exact D
theorem l7(f:ay)(v:V):∀fs:List (ay×V),f∈(eS f v fs).map (·.1)/\∀g,g∈fs.map (·.1)->g∈(eS f v fs).map (·.1)
 |[]=>⟨by simp[eS],λg h=>by simp at h⟩
 |(k,x)::r=>by
  obtain⟨D,B⟩:=l7 f v r;rw[show eS f v ((k,x)::r)=(if k=f then(k,v)::r else(k,x)::eS f v r) from rfl]
  by_cases q:k=f
  ·rw[bJ q];subst q;exact⟨by simp,λg h=>by simpa using h⟩
  ·rw[bK q];refine⟨?_,λg h=>?_⟩
   ·rw[Sf];exact Sb _ D
   ·rw[Sf]at h⊢;rcases List.mem_cons.mp h with e|e
    exact List.mem_cons.mpr (.inl e);exact Sb _ (B g e)
theorem mP(f:ay)(v:V):∀fs:List (ay×V),(eS f v fs).length<=fs.length+1
 |[]=>by simp[eS]
 |(k,x)::r=>by
  have B:=mP f v r;rw[show eS f v ((k,x)::r)=(if k=f then(k,v)::r else(k,x)::eS f v r) from rfl]
  by_cases q:k=f
  rw[bJ q,Sh,Sh];lia;rw[bK q,Sh,Sh];lia
def nE.some_of{v:V}{o:Option aA}(r:nE (aa v) o):∃u,o=aa u/\RelV v u:=by
 cases o with
 |none=>exact(show False from r).elim|some u=>exact⟨u,rfl,r⟩
def nE.none_of{o:Option aA}(r:nE af o):o=af:=by
 cases o with
 |none=>rfl|some u=>exact(show False from r).elim
def ym{v:V}{u:aA}(r:RelV v u):Yv u=ah:=by
 cases v with
 |aD=>cases (show u=T5 from r);rfl|bl b=>cases (show u=VE b from r);rfl|int i=>obtain⟨t,e⟩:=(show ∃t,u=Vs i t from r);cases e;rfl|str x=>obtain⟨t,e⟩:=(show ∃t,u=X6 x t from r);cases e;rfl|byt b=>obtain⟨t,e⟩:=(show ∃t,u=Value.bytes b t from r);cases e;rfl|flt b=>obtain⟨t,e⟩:=(show ∃t,u=Value.float b t from r);cases e;rfl|ref a=>cases (show u=S7 a from r);rfl|ty n=>cases (show u=UL n from r);rfl
section
variable{P:So}{w:SQ}{H H':Hp}{h h':aq}{a C dx:az}{fs fs':List (ay×V)}
def lg(D:HOk P w H h)(e:H a=aa (.ins C dx fs)):∃mA,uJ h a dx C mA/\(∀f,nE (fs.lookup f) (mA f))/\X7 mA (fs.map (·.1))/\fs.length<=1000/\H dx=aa (.own a):=by obtain⟨d,z,B,ob,mA,n,r,q⟩:=(show gG P w H h a (.ins C dx fs) from D a _ e);exact⟨mA,⟨ob,n,B⟩,r,q,z,d⟩
end
structure Cls(K:RQ)(C:az):Prop where
 pg:Vc K C Str.empty=ah
 hd:UE K C=ah
 po:Wr K C=ah
 sa:SD K (.ref C) "__setattr__"=aa (aa (.builtin "object.__setattr__"))
def Cls.get{K:RQ}{C:az}(c:Cls K C)(f:ay):Vc K C f=ah:=c.pg
def jH(K:RQ)(C:az)(f:ay):Prop:=SD K (.ref C) f=aa af
def jH.LC{K:RQ}{C:az}{f:ay}(n:jH K C f):WK K C f=aa af:=by unfold WK;rw[show SD K (.ref C) f=aa af from n];rfl
structure Ab(K:RQ)(C:az)(m:ay)(f:az):Prop where
 at_:SD K (.ref C) m=aa (aa (.ref f))
 fn:VQ K (.ref f)=ah
 kp:TY K (.ref f)=ah
section
variable{X:Cx}{zt:List (az×ao)}{σ:St}{H:Hp}{s:RV}{a C dx:az}{fs:List (ay×V)}{f:ay}{v:V}{A:TF}{E:aA->RV->Prop}
def nG{b:Bool}{Q:aA->RV->Prop}(I:Inv X zt σ H s)(e:H a=aa (.ins C dx fs))(c:Cls X.K C)(n:jH X.K C f)(l:fs.lookup f=aa v)
(h:∀u s',Inv X zt σ H s'->RelV v u->Q u s'):av (Su X.prog X.w) A (getAttr (.ref a) f b) Q E s:=by
 obtain⟨B,O,r,_,_,_⟩:=lg I.aJ e;obtain⟨u,D,q⟩:=nE.some_of (v:=v) (o:=B f) (by rw[←l];exact r f);exact get_map I.kIn O (c.get f) c.hd n D (ym q) (h u _ (I.tok _) q)
def nH{m:ay}{g:az}{pl:Sem Bool}{Q:aA×List aA->RV->Prop}(I:Inv X zt σ H s)(e:H a=aa (.ins C dx fs))(c:Cls X.K C)(k:Ab X.K C m g)(l:fs.lookup m=af)
(h:Q (.ref g,[.ref a]) s):av (Su X.prog X.w) A (X4 (.ref a) m pl) Q E s:=by
 obtain⟨q,O,r,_,_,_⟩:=lg I.aJ e;have hn:q m=af:=nE.none_of (by rw[←l];exact r m);exact zZ I.kIn O (c.get m) k.at_ k.fn hn h
def nI{y:V}{u:aA}{Q:Unit->RV->Prop}(I:Inv X zt σ H s)(e:H a=aa (.ins C dx fs))(c:Cls X.K C)(n:jH X.K C f)(i:fs.length<1000)(U:RelV y u)
(h:∀s',Inv X zt σ (upd H a (.ins C dx (eS f y fs))) s'->Q () s'):av (Su X.prog X.w) A (setAttr (.ref a) f u) Q E s:=by
 obtain⟨J,O,r,D,_,L⟩:=lg I.aJ e;have W:(fs.map (·.1)).length<=aj:=by rw[Se,WI];lia
 refine DU I.kIn O c.sa c.po n.LC c.hd D W λd B M=>h _ ?_;have hd:∃o,d.get? dx=aa o:=let ⟨o,_,_,e',_⟩:=B.ns;⟨o,e'⟩;refine I.write (x:=a) (e:=dx) (by rw[e];exact UW) (.inr L) (λb q Z z=>(M.2 b Z).trans z) hd ?_;refine⟨by rw[dB O.ne];exact L,?_,O.ne,B.obj,_,B.ns,λg=>?_,λg Y=>?_⟩;have:=mP f y fs;lia
 ·show nE ((eS f y fs).lookup g) (if g=f then aa u else J g);rw[mO]
  by_cases q:g=f
  rw[bJ q,bJ q];exact U;rw[bK q,bK q];exact r g
 ·by_cases q:g=f
  rw[q];exact(l7 f y fs).1
  ·refine(l7 f y fs).2 g (D g λz=>Y ?_);show(if g=f then aa u else J g)=af;rw[bK q];exact z
def Inv.made(I:Inv X zt σ H s):Inv X zt σ (upd (upd H s.heap.objs.size (.own (s.heap.objs.size+1))) (s.heap.objs.size+1) (.ins C s.heap.objs.size []))
 {s with heap:=(s.heap.push TX).push (Uo C s.heap.objs.size)}:=by
 have e1:(s.heap.push TX).get? s.heap.objs.size=aa TX:=R8 s.heap rfl;have e2:((s.heap.push TX).push (Uo C s.heap.objs.size)).get? (s.heap.objs.size+1)=aa (Uo C s.heap.objs.size):=by
  have:=R8 (s.heap.push TX) (o:=Uo C s.heap.objs.size) rfl
  rwa [SY]at this
 have L:(s.heap.push TX).Ns s.heap.objs.size (λ_=>af):=⟨TX,#[],_,e1,rfl,(λe J=>bL J (by simp)),λ_=>rfl⟩;have M:=I.laid (a:=s.heap.objs.size) (o:=.own (s.heap.objs.size+1)) (h':=s.heap.push TX) (t':=s.toks) (λb u q=>RT _ q) (R0 _) ⟨_,e1⟩;refine M.laid (a:=s.heap.objs.size+1) (o:=.ins C s.heap.objs.size []) (t':=s.toks) (λb u q=>RT _ q) (Nat.le_of_eq (SY _ _)) ?_;have B:s.heap.objs.size≠s.heap.objs.size+1:=SA (Ul _);refine⟨by rw[dB B,eN],Tu _,B,e2,λ_=>af,(Heap.Ns1.of_empty L).at λo q=>RT _ q,λ_=>UW,λy D=>bL rfl D⟩
def DV{prog:So}{w:SQ}{env:Env}{e:Vo}{f:ay}{pos:Pos}{s:RV}{Q:aA->RV->Prop}(B:V7 e f env (eval e env)=eval e env)
(h:av (Su prog w) A (eval e env) (λo q=>av (Su prog w) A (getAttr o f ah) Q E q) E s):av (Su prog w) A (eval (.Attribute e f pos) env) Q E s :=
 Attribute_any_ h (by rw[arm_eval_Attribute,B])
end
def O2(K:RQ)(ta:TE)(f:ay):TE:=fun B H Q=>ta B H λx q=>∃a C D fs v,x=.ref a/\q a=aa (.ins C D fs)/\Cls K C/\jH K C f/\fs.lookup f=aa v/\Q v q
def LD(K:RQ)(ta tv:TE)(f:ay):TS:=λD q H=>tv q H λy L=>ta q L λx J=>∃a C B fs,x=.ref a/\J a=aa (.ins C B fs)/\Cls K C/\jH K C f/\fs.length<1000 ∧
 D.nx q (upd J a (.ins C B (eS f y fs)))
def O3(X:Cx)(D:VN)(rd:V->V->Hp->VK->Prop):Prop :=
 ∀(B:List (az×ao)) (s:RV) (q:St) (H:Hp) (x y:V) (u v:aA) (Q:VK),Inv X B q H s->RelV x u->RelV y v->rd x y H Q->av (Su X.prog X.w) X.A (inplaceOp D u v) (EP X B q Q) X.xe s
def vS(K:RQ)(ta tv:TE)(rd:V->V->Hp->VK->Prop)(f:ay):TS:=λD J H=>ta J H λx M=>∃a C O fs v,x=.ref a/\M a=aa (.ins C O fs)/\Cls K C/\jH K C f/\fs.lookup f=aa v ∧
 tv J M λy U=>rd v y U λz L=>∃B q,L a=aa (.ins C B q)/\q.length<1000/\D.nx J (upd L a (.ins C B (eS f z q)))
section
variable{X:Cx}{o e value:Vo}{f:ay}{pos pos' tpos:Pos}{ta tv:TE}
def HC(O:PE X e ta)(U:V7 e f X.env (eval e X.env)=eval e X.env):PE X (.Attribute e f pos) (O2 X.K ta f):=by intro D s B H Q I h;refine DV U (thn (O D s B H _ I h) λu g J=>?_);obtain⟨x,Z,Y,L,a,C,i,fs,v,ex,V,c,n,l,q⟩:=J;subst ex;obtain rfl:u=S7 a:=L;exact nG Y V c n l λb d W M=>⟨v,Z,W,M,q⟩
def HD(O:PE X o ta)(L:PE X value tv)(M:VC value (aa (.Attribute o f pos')) pos.line X.env=pure ai):PS X (.Assign [.Attribute o f pos'] value pos) (LD X.K ta tv f):=by intro J s B H D I h;refine plainObj_wpAny_Assign_Attribute (thn (L J s B H _ I h) λu s1 ⟨y,H1,I1,ry,q⟩=>thn (O J s1 B H1 _ I1 q) λov s2 ⟨x,H2,I2,rx,a,C,dx,fs,ex,ea,c,n,l,q2⟩=>?_) M;subst ex;obtain rfl:ov=S7 a:=rx;exact nI I2 ea c n l ry λV U=>⟨B,_,U,q2⟩
def yo{U:VN}{rd:V->V->Hp->VK->Prop}(j:PE X o ta)(i:PE X value tv)(M:O3 X U rd):PS X (.AugAssign (.Attribute o f tpos) U value pos) (vS X.K ta tv rd f):=by intro J s B H D I h;refine wpAny_AugAssign_AttributeAny (thn (j J s B H _ I h) λe P L=>?_);obtain⟨x,E,A,Z,a,C,Q,fs,v,ex,m,c,n,l,q⟩:=L;subst ex;obtain rfl:e=S7 a:=Z;refine nG A m c n l λu W w b=>thn (i J W B E _ w q) λw3 s3 ⟨y,H2,I3,ry,q3⟩=>thn (M J s3 B H2 v y u w3 _ I3 b ry q3) λF N L=>?_;obtain⟨z,R,t,Y,p,k,O,g,d⟩:=L;exact nI t O c n g Y λG r=>⟨B,_,r,d⟩
end
section
variable{X:Cx}{zt:List (az×ao)}{σ:St}{H:Hp}{s:RV}{A:TF}{E:aA->RV->Prop}{Q:aA->RV->Prop}{c:aA}{b:Bool}
end
end L2
namespace L2
open PySem PySem.Spec PyProof.Rows
structure fW(k:Nat)(A:TF):Prop where
 hd:A.handled=af
 dp:A.depth+3*k+5<recursionLimit
 un:A.units+16*k+200<cLine
def fW.mono{j k:Nat}{A:TF}(r:fW k A)(h:j<=k):fW j A:=⟨r.hd,by have:=r.dp;lia,by have:=r.un;lia⟩
def fW.deeper{k:Nat}{A:TF}(r:fW (k+1) A)(env:Env):fW k (A.deeper env) :=
 ⟨r.hd,by have:=r.dp;show A.depth+1+3*k+5<_;lia,by have:=r.un;show A.units+3+16*k+200<_;lia⟩
def uK{A:TF}{C:az}{us:List aA}{kw:List (ay×aA)}:(A.under (.builtin "type.__call__" ⟨.ref C::us,kw⟩)).depth=A.depth+1:=by first|rfl|simp[XY,Code.weight,Code.isCreation,Code.isGuard,Code.isCaller,Code.frames,Yi,guardIds]
def uL{A:TF}{C:az}{us:List aA}{kw:List (ay×aA)}:(A.under (.builtin "type.__call__" ⟨.ref C::us,kw⟩)).units=A.units+1:=by first|rfl|simp[XY,Code.cUnits,Code.frames,Yi]
def fW.make{k:Nat}{A:TF}(r:fW (k+1) A)(C:az)(us:List aA)(kw:List (ay×aA)):fW k (A.under (.builtin "type.__call__" ⟨.ref C::us,kw⟩)) :=
 ⟨r.hd,by have:=r.dp;rw[uK];lia,by have:=r.un;rw[uL];lia⟩
def fW.depth{k:Nat}{A:TF}(r:fW k A):A.depth<recursionLimit:=by have:=r.dp;lia
def Ac:TA:=λ_ H Q=>Q [] H
def GB(ta:TE)(tr:TA):TA:=fun q H Q=>ta q H λx J=>tr q J λB D=>Q (x::B) D
section
variable{X:Cx}{e:Vo}{es:List Vo}{te:TE}{t:TA}{pos:Pos}
def qJ:PA X [] Ac:=λ_ _ _ _ H Q I h=>VH ⟨[],H,I,.nil,h⟩
def j7(W:PE X e te)(V:PA X es t)(U:SM (e::es) X.env=(ai,eval e X.env)::SM es X.env:=by rfl):PA X (e::es) (GB te t):=by intro q D s B H Q I h;rw[U];show av _ _ (spliced ((ai,eval e X.env)::Vb q (SM es X.env))) _ _ s;refine Vz (thn (W D s B H _ I h) λu L J=>?_);obtain⟨x,Z,Y,M,O⟩:=J;exact thn (V q D L B Z _ Y O) λus s2 ⟨xs,H2,I2,r2,q2⟩=>⟨x::xs,H2,I2,.cons M r2,q2⟩
def LF(t:TA):TE:=fun D H Q=>t D H λq B=>q.length<=aj/\∀p,B p=af->Q (.ref p) (upd B p (.aC q))
def HE(t:TA):TE:=fun D H Q=>t D H λq B=>q.length<=aj/\∀p,B p=af->Q (.ref p) (upd B p (.aB q))
def HF{x1}(h:PA X es t):PE X (.Tuple es x1 pos) (LF t):=by intro D s B H Q I J;refine wpAny_Tuple_spliced (thn (h pos D s B H _ I J) λus s1 ⟨xs,H1,I1,r,z,q⟩=>⟨by rw[←r.length];exact z,?_⟩);have L:H1 s1.heap.objs.size=af:=I1.aJ.fresh (R0 _);refine⟨.ref s1.heap.objs.size,upd H1 s1.heap.objs.size (.aC xs),I1.laid (t':=s1.toks) (λb u e=>RT _ e) (R0 _) ?_,rfl,q _ L⟩;exact⟨z,us,r,⟨_,R8 _ rfl,rfl,_,rfl⟩⟩
def Ad(h:PA X es t):PE X (.List es pos) (HE t):=by intro D s B H Q I J;refine wpAny_List_spliced (thn (h pos D s B H _ I J) λus s1 ⟨xs,H1,I1,r,z,q⟩=>⟨by rw[←r.length];exact z,?_⟩);have L:H1 s1.heap.objs.size=af:=I1.aJ.fresh (R0 _);refine⟨.ref s1.heap.objs.size,upd H1 s1.heap.objs.size (.aB xs),I1.laid (t':=s1.toks) (λb u e=>RT _ e) (R0 _) ?_,rfl,q _ L⟩;exact⟨z,us,0,r,R8 _ rfl⟩
end
abbrev Sp:=List V->Hp->VK->XK->Prop
abbrev CXT:=List Env->Hp->RV->XK->aA->RV->Prop
structure sD(P:So)(w:SQ)(K:RQ)(mg:ay->Option aA)(base:aq)(A:TF)(outer:List Env)(s:RV)(H:Hp):Prop where
 frames:A.frames=aa outer
 mod:Mod K mg base
 bs:∀b o,base.get? b=aa o->s.heap.get? b=aa o/\H b=af
 bsz:base.objs.size<=s.heap.objs.size
 lY:s.heap.FunFrames base outer
 frf:∀b∈frs outer,H b=af
 aJ:HOk P w H s.heap
 bare:Yc s.gens
inductive CE(outer:List Env)(P:So)(w:SQ)(H:Hp)(s:RV)(Q:VK)(u:aA)(s':RV):Prop
 |mk(v:V)(H':Hp)(os:s'.os=s.os)(b:Yc s'.gens)(un:Un (frs outer) [] H H' s.heap s'.heap)(B:HOk P w H' s'.heap)(r:RelV v u)(q:Q v H'):CE outer P w H s Q u s'
def CR(CX:CXT)(outer:List Env)(P:So)(w:SQ)(H:Hp)(s:RV)(Q:VK)(E:XK)(r:Xy)(s':RV):Prop :=
 match r with
 |.ok (.ret u)=>CE outer P w H s Q u s'|.ok _=>False|.error e=>CX outer H s E e s'
structure jj(P:So)(w:SQ)(K:RQ)(mg:ay->Option aA)(base:aq)(CX:CXT)(k:Nat)(f:az)(fd:Uv)(ps:List ay)(sp:Sp):Prop where
 len:∀vs H Q E,sp vs H Q E->vs.length=ps.length
 run:∀(A:TF)(outer:List Env)(s:RV)(H:Hp) (args:Args) (us:List aA) (vs:List V) (Q:VK) (E:XK),fW k A->sD P w K mg base A outer s H->BindsTo s fd args (ps.zip us)->dg vs us->sp vs H Q E →
  ak (Su P w) A (.call (.ref f) args) (CR CX outer P w H s Q E) s
def sD.make{P:So}{w:SQ}{K:RQ}{mg:ay->Option aA}{base:aq}{A:TF}{outer:List Env}{s:RV}{H:Hp}(e:sD P w K mg base A outer s H)(C:az)(us:List aA)(kw:List (ay×aA)):
 sD P w K mg base (A.under (.builtin "type.__call__" ⟨.ref C::us,kw⟩)) outer s H:=⟨by first|exact e.frames|(simpa [XY,Code.envs,Yi,pushEnvs]using e.frames),e.mod,e.bs,e.bsz,e.lY,e.frf,e.aJ,e.bare⟩
section
variable{X:Cx}{zt:List (az×ao)}{σ:St}{H:Hp}{s s':RV}
def Inv.LG(I:Inv X zt σ H s):sD X.prog X.w X.K X.mg X.base X.A X.stack s H :=
 ⟨I.ok.frames,I.ok.mod,I.bs,SK I.ok.bsz I.sz,I.stack,I.vM,I.aJ,I.bare⟩
def Inv.after{Q:VK}{u:aA}(I:Inv X zt σ H s)(h:CE X.stack X.prog X.w H s Q u s'):EP X zt σ Q u s':=by obtain⟨v,M,os,B,un,L,r,q⟩:=h;obtain⟨J,g,d,t,D⟩:=s';obtain rfl:D=s.os:=os;exact⟨v,M,I.call (h':=J) (g':=g) (d':=d) (t':=t) (ch:=[]) un L B (λb z=>bL z (by simp)),r,q⟩
end
def vU(sp:Sp)(dvs:List V)(E:XK)(t:TA):TE:=fun q H Q=>t q H λB D=>sp (B++dvs) D Q E
def Ae(C:az)(m:ay)(sp:Sp)(dvs:List V)(E:XK)(ta:TE)(t:TA):TE:=fun q H Q=>ta q H λx B=>∃a J fs,x=.ref a/\B a=aa (.ins C J fs)/\fs.lookup m=af ∧
 t q B λD L=>sp (x::(D++dvs)) L Q E
def Af(C:az)(sp:Sp)(dvs:List V)(E:XK)(t:TA):TE:=fun D H Q=>t D H λJ B=>∀x q,B x=af->B q=af->q≠x →
 sp (.ref x::(J++dvs)) (upd (upd B q (.own x)) x (.ins C q [])) (λv L=>v=.aD/\Q (.ref x) L) E
def Binds(K:RQ)(fd:Uv)(ps:List ay)(ds:List aA):Prop :=
 ∀(s:RV)(q:List aA),K.In s.heap->(q++ds).length=ps.length->BindsTo s fd ⟨q,[]⟩ (ps.zip (q++ds))
def Binds.all{K:RQ}{fd:Uv}{ps:List ay}(h:∀us:List aA,us.length=ps.length->YJ fd ⟨us,[]⟩=pure (ps.zip us)):Binds K fd ps []:=λs us _ q=>by rw[TJ]at q⊢;exact .of_eq (h us q)
def jk(CX:CXT)(X:Cx)(E:XK):Prop:=∀(D:List (az×ao)) (B:St) (H:Hp) (s:RV) (e:aA) (q:RV),Inv X D B H s->CX X.stack H s E e q->X.xe e q
section
variable{X:Cx}{CX:CXT}{k:Nat}{f C:az}{fd:Uv}{ps:List ay}{sp:Sp}{dvs:List V}{ds:List aA}{E:XK}{x m:ay}{p pos apos:Pos}{e o:Vo}{es:List Vo}{ta:TE}{t:TA}
def nJ{zt:List (az×ao)}{σ:St}{H:Hp}{s:RV}{Q:VK}{us:List aA}{vs:List V}(F:jj X.prog X.w X.K X.mg X.base CX k f fd ps sp)(L:fW k X.A)(U:Binds X.K fd ps ds)(O:dg dvs ds)(J:jk CX X E)
(I:Inv X zt σ H s)(r:dg vs us)(h:sp (vs++dvs) H Q E):av (Su X.prog X.w) X.A (call (.ref f) us) (EP X zt σ Q) X.xe s:=by
 have B:dg (vs++dvs) (us++ds):=r.append O;have M:(us++ds).length=ps.length:=by rw[←B.length];exact F.len _ _ _ _ h
 refine Xj (codeAny_mono (F.run X.A X.stack s H ⟨us,[]⟩ (us++ds) (vs++dvs) Q E L I.LG (U s us I.kIn M) B h) λr D q=>?_);cases r with
 |error e=>exact J zt σ H s e D I q
 |ok W =>
  cases W with
  |ret u=>exact I.after q|_=>exact Ui q
def DW(F:jj X.prog X.w X.K X.mg X.base CX k f fd ps sp)(O:fW k X.A)(W:Gl X x)(U:X.mg x=aa (.ref f))(V:TY X.K (.ref f)=ah)(a:Binds X.K fd ps ds)(Z:dg dvs ds)(M:jk CX X E)
(b:PA X (e::es) t)(D:(x==("__debug__":ay))=ai:=by decide)(Y:SM (e::es) X.env=(ai,eval e X.env)::SM es X.env:=by rfl)(B:(Vb pos (SM es X.env)).any (·.1)=ai:=by rfl):
 PE X (.Call (.Name x p) (e::es) [] pos) (vU sp dvs E t):=by
 intro L s J H Q I h;refine UN (k8 I W U ?_ D);refine Vu (h₀:=X.base) I.ok.mod.kin V (thn (b pos L s J H _ I h) λus s1 ⟨vs,H1,I1,r,q⟩=>⟨I1.kIn,?_⟩) Y B;exact nJ F O a Z M I1 r q
def Ah(F:jj X.prog X.w X.K X.mg X.base CX k f fd ps sp)(D:fW k X.A)(M:Gl X x)(J:X.mg x=aa (.ref f))(L:TY X.K (.ref f)=ah)(U:Binds X.K fd ps ds)(O:dg dvs ds)(B:jk CX X E)
(q:(x==("__debug__":ay))=ai:=by decide):PE X (.Call (.Name x p) [] [] pos) (vU sp dvs E Ac):=by
 intro W s V H Q I h;refine UN (k8 I M J ?_ q);exact V9 I.kIn L (nJ (us:=[]) F D U O B I .nil h)
def DX{pl:Sem Bool}(W:PE X o ta)(c:Cls X.K C)(M:Ab X.K C m f)(F:jj X.prog X.w X.K X.mg X.base CX k f fd ps sp)(V:fW k X.A)(Z:Binds X.K fd ps ds)(Y:dg dvs ds)(O:jk CX X E)(b:PA X (e::es) t)
(B:SM (e::es) X.env=(ai,eval e X.env)::SM es X.env:=by rfl)(D:(Vb pos (SM es X.env)).any (·.1)=ai:=by rfl)
(U:eval (.Call (.Attribute o m apos) (e::es) [] pos) X.env=(do
  let ov ←eval o X.env
  X3 apos.atName
  let (f,first) ←V6 [ov] (X4 ov m pl)
  callWith pos f first (Vb pos (SM (e::es) X.env)) (XQ pos (V5 [] X.env))):=by rfl):
 PE X (.Call (.Attribute o m apos) (e::es) [] pos) (Ae C m sp dvs E ta t):=by
 intro L s J H Q I h;refine VP (pl:=pl) (thn (W L s J H _ I h) λu s1 ⟨x,H1,I1,rx,a,dx,fs,ex,ea,l,q⟩=>?_) U;subst ex;obtain rfl:u=S7 a:=rx;refine nH I1 ea c M l ?_;refine Vu (first:=[.ref a]) (h₀:=X.base) I.ok.mod.kin M.kp (thn (b pos L s1 J H1 _ I1 q) λus s2 ⟨vs,H2,I2,r,q2⟩=>⟨I2.kIn,?_⟩) B D;exact nJ (us:=.ref a::us) (vs:=.ref a::vs) F V Z Y O I2 (.cons rfl r) q2
def Ai{pl:Sem Bool}(U:PE X o ta)(c:Cls X.K C)(B:Ab X.K C m f)(F:jj X.prog X.w X.K X.mg X.base CX k f fd ps sp)(O:fW k X.A)(W:Binds X.K fd ps ds)(V:dg dvs ds)(L:jk CX X E)
(M:eval (.Call (.Attribute o m apos) [] [] pos) X.env=(do
  let ov ←eval o X.env
  X3 apos.atName
  let (f,first) ←V6 [ov] (X4 ov m pl)
  callWith pos f first (Vb pos (SM [] X.env)) (XQ pos (V5 [] X.env))):=by rfl):
 PE X (.Call (.Attribute o m apos) [] [] pos) (Ae C m sp dvs E ta Ac):=by
 intro J s D H Q I h;refine VP (pl:=pl) (thn (U J s D H _ I h) λu s1 ⟨x,H1,I1,rx,a,dx,fs,ex,ea,l,q⟩=>?_) M;subst ex;obtain rfl:u=S7 a:=rx;refine nH I1 ea c B l ?_;exact V9 (first:=[.ref a]) I1.kIn B.kp (nJ (us:=[.ref a]) (vs:=[.ref a]) F O W V L I1 (.cons rfl .nil) q)
structure Mk(K:RQ)(C f:az):Prop where
 makes:WM K C=ah
 init:SD K (.ref C) "__init__"=aa (aa (.ref f))
 fn:VQ K (.ref f)=ah
 kp:TY K (.ref C)=ah
def sF{zt:List (az×ao)}{σ:St}{H:Hp}{s:RV}{Q:VK}{us:List aA}{vs:List V}(M:Mk X.K C f)(F:jj X.prog X.w X.K X.mg X.base CX k f fd ps sp)(Y:fW (k+1) X.A)(b:Binds X.K fd ps ds)(a:dg dvs ds)
(W:jk CX X E)(I:Inv X zt σ H s)(r:dg vs us)
(h:∀x dx,H x=af->H dx=af->dx≠x->sp (.ref x::(vs++dvs)) (upd (upd H dx (.own x)) x (.ins C dx [])) (λv H2=>v=.aD/\Q (.ref x) H2) E):
 av (Su X.prog X.w) X.A (call (.ref C) us) (EP X zt σ Q) X.xe s:=by
 have J:=h (s.heap.objs.size+1) s.heap.objs.size (I.aJ.fresh (T3 _)) (I.aJ.fresh (R0 _)) (SA (Ul _));have B:=Inv.made (C:=C) I;have D:dg (V.ref (s.heap.objs.size+1)::(vs++dvs)) (S7 (s.heap.objs.size+1)::(us++ds)):=.cons rfl (r.append a);have Z:(S7 (s.heap.objs.size+1)::us++ds).length=ps.length:=by have e:=D.length;rw[F.len _ _ _ _ J]at e;exact e.symm
 refine Xj (Aa (f:=f) I.kIn M.makes M.init (beq_iff_eq.mp M.fn) (codeAny_mono (F.run _ X.stack _ _ ⟨S7 (s.heap.objs.size+1)::us,[]⟩ (S7 (s.heap.objs.size+1)::(us++ds)) _ _ E (Y.make C us [])
  (B.LG.make C us []) (b _ (S7 (s.heap.objs.size+1)::us) B.kIn Z) D J) λr L q=>?_))
 cases r with
 |error e=>exact W zt σ _ _ e L B q
 |ok c =>
  cases c with
  |ret u =>
   obtain⟨v,g,d,O,ev,U⟩:=B.after q;subst ev;exact⟨O,⟨V.ref (s.heap.objs.size+1),g,d,rfl,U⟩⟩
  |_=>exact Ui q
def DY(M:Mk X.K C f)(F:jj X.prog X.w X.K X.mg X.base CX k f fd ps sp)(U:fW (k+1) X.A)(W:Gl X x)(V:X.mg x=aa (.ref C))(a:Binds X.K fd ps ds)(Z:dg dvs ds)(O:jk CX X E)
(b:PA X (e::es) t)(D:(x==("__debug__":ay))=ai:=by decide)(Y:SM (e::es) X.env=(ai,eval e X.env)::SM es X.env:=by rfl)(B:(Vb pos (SM es X.env)).any (·.1)=ai:=by rfl):
 PE X (.Call (.Name x p) (e::es) [] pos) (Af C sp dvs E t):=by
 intro L s J H Q I h;refine UN (k8 I W V ?_ D);refine Vu (h₀:=X.base) I.ok.mod.kin M.kp (thn (b pos L s J H _ I h) λus s1 ⟨vs,H1,I1,r,q⟩=>⟨I1.kIn,?_⟩) Y B;exact sF M F U a Z O I1 r q
def Aj(M:Mk X.K C f)(F:jj X.prog X.w X.K X.mg X.base CX k f fd ps sp)(D:fW (k+1) X.A)(L:Gl X x)(J:X.mg x=aa (.ref C))(U:Binds X.K fd ps ds)(O:dg dvs ds)(B:jk CX X E)
(q:(x==("__debug__":ay))=ai:=by decide):PE X (.Call (.Name x p) [] [] pos) (Af C sp dvs E Ac):=by
 intro W s V H Q I h;refine UN (k8 I L J ?_ q);exact V9 I.kIn M.kp (sF (us:=[]) M F D U O B I .nil h)
end
section
variable{X:Cx}{CX:CXT}{k:Nat}{f C:az}{fd:Uv}{ps ks:List ay}{sp:Sp}{E:XK}{x m:ay}{p pos apos kpos:Pos}{e o:Vo}{es:List Vo}{kws:List Wv}{te ta:TE}{t tk:TA}{nm:Option ay}
variable{g:List aA->List aA->List aA}{gV:List V->List V->List V}
end
structure fY(N P:List ay)(sc:TV):Prop where
 kind:sc.kind=.function
 co:sc.isCoroutine=ai
 gen:sc.isGenerator=ai
 nd:N.Nodup
 pre:N.take P.length=P
 par:∀x∈P,sc.names.lookup x=aa .local\/sc.names.lookup x=aa .cell
 nofree:∀y∈sc.names,y.2≠.free
theorem qf{kindOf:ay->Option Vd}{x:ay}:∀{binds:List (ay×aA)}{m:ay->Option aA},(∀v,(x,v)∉binds)->bindL kindOf binds m x=m x
 |[],_,_=>rfl
 |(n,v)::r,m,h=>by
  unfold bindL;rw[qf λw hw=>h w (Sb _ hw)];split
  ·have:x≠n:=by rintro rfl;exact h v Sj
   simp[this]
  rfl
theorem qh{kindOf:ay->Option Vd}{x:ay}:∀{binds:List (ay×aA)}{m:ay->Option aA},(∀v,(x,v)∉binds)->bindC kindOf binds m x=m x
 |[],_,_=>rfl
 |(n,v)::r,m,h=>by
  unfold bindC;rw[qh λw hw=>h w (Sb _ hw)];split;rfl
  ·have:x≠n:=by rintro rfl;exact h v Sj
   simp[this]
theorem qi{kindOf:ay->Option Vd}{x:ay}{v:aA}:∀{P:List ay}{vs:List aA}{i:Nat}{m:ay->Option aA},P.Nodup->P[i]?=aa x->vs[i]?=aa v->kindOf x=aa .local →
 bindL kindOf (P.zip vs) m x=aa v
 |[],_,_,_,_,h,_,_=>by simp at h
 |_::_,[],_,_,_,_,h,_=>by simp at h
 |p::P,w::vs,0,m,nd,h1,h2,hk=>by simp at h1 h2;subst h1;subst h2;show bindL kindOf ((p,w)::P.zip vs) m p=_;unfold bindL;rw[qf λv q=>(List.nodup_cons.mp nd).1 (Xc q).1,bJ hk];simp
 |p::P,w::vs,i+1,m,nd,h1,h2,hk=>by show bindL kindOf ((p,w)::P.zip vs) m x=_;unfold bindL;exact qi (i:=i) (List.nodup_cons.mp nd).2 (by simpa using h1) (by simpa using h2) hk
theorem qj{kindOf:ay->Option Vd}{x:ay}{v:aA}:∀{P:List ay}{vs:List aA}{i:Nat}{m:ay->Option aA},P.Nodup->P[i]?=aa x->vs[i]?=aa v->kindOf x≠aa .local →
 bindC kindOf (P.zip vs) m x=aa v
 |[],_,_,_,_,h,_,_=>by simp at h
 |_::_,[],_,_,_,_,h,_=>by simp at h
 |p::P,w::vs,0,m,nd,h1,h2,hk=>by simp at h1 h2;subst h1;subst h2;show bindC kindOf ((p,w)::P.zip vs) m p=_;unfold bindC;rw[qh λv q=>(List.nodup_cons.mp nd).1 (Xc q).1,bK hk];simp
 |p::P,w::vs,i+1,m,nd,h1,h2,hk=>by show bindC kindOf ((p,w)::P.zip vs) m x=_;unfold bindC;exact qj (i:=i) (List.nodup_cons.mp nd).2 (by simpa using h1) (by simpa using h2) hk
noncomputable def start(N:List ay)(vs:List V):St:=vs.map aa++Sw (N.length-vs.length) af
noncomputable def uM(CX:CXT)(P:So)(w:SQ)(K:RQ)(mg:ay->Option aA)(base:aq)(N:List ay)(qual:ay)(q:TV)(f:az)(D:aA)(A:TF)(outer:List Env)(s:RV)(H:Hp)(E:XK):Cx where
 prog:=P
 w:=w
 K:=K
 mg:=mg
 base:=base
 A:=A.deeper (X5 qual q s.heap.objs.size f D)
 N:=N
 s₀:=s
 H₀:=H
 env:=X5 qual q s.heap.objs.size f D
 outer:=outer
 stack:=X5 qual q s.heap.objs.size f D::outer
 ex:=[]
 calm:=ah
 fn:=λ_=>ah
 pn:=[]
 xe:=λe J=>av (Su P w) (A.deeper (X5 qual q s.heap.objs.size f D)) (leaving (X5 qual q s.heap.objs.size f D) e) (λ_ B=>CX outer H s E e B) (λL B=>CX outer H s E L B) J
def sG{sc:TV}{n:Nat}{x:ay}(h:sc.names.lookup x=aa .cell):∃c,(cellsFrom n sc.names []).lookup x=aa c:=by have q:=Xz sc.names n [] (.inl h);exact Option.isSome_iff_exists.mp q
def yp{CX:CXT}{P:So}{w:SQ}{K:RQ}{mg:ay->Option aA}{base:aq}{N ps:List ay}{qual:ay}{B:TV}{f:az}{Z:aA}{A:TF}{outer:List Env}{s d:RV}{H:Hp}{E:XK}{us:List aA}{vs:List V}
(S:fY N ps B)(o:A.handled=af)(J:sD P w K mg base A outer s H)(F:vs.length=ps.length)(r:dg vs us)
(x:InCallC s s.heap.objs.size (bindL (X5 qual B s.heap.objs.size f Z).kindOf (ps.zip us) λ_=>af) (cellsFrom (s.heap.objs.size+1) B.names []) (bindC (X5 qual B s.heap.objs.size f Z).kindOf (ps.zip us) λ_=>af) d):
 Inv (uM CX P w K mg base N qual B f Z A outer s H E) [] (start N vs) H d:=by
 have m:ps.length<=N.length:=by have:=bR Xe S.pre;rw[VS]at this;lia
 obtain ⟨Y,C,rfl,j⟩:=x.done;have L:∀ b:az,b∉(uM CX P w K mg base N qual B f Z A outer s H E).ex:=λb z=>bL (show b∈([]:List az) from z) (by simp);refine ⟨⟨J.mod,S.kind,rfl,rfl,R0 _,λy z c Y D=>?_,λy M=>?_,λy c _ h=>?_,λ_=>o,Around.frames_deeper J.frames,.inr ⟨rfl,rfl⟩,λb z=>bL z (L b),J.bs,J.bsz,λb _ _=>L b,λb z=>bL z (L b),J.lY,J.frf⟩,
  rfl,J.bare,Un.aH j,⟨_,x.toInCall.ns,λi y v Y D G=>?_⟩,λy c h=>⟨_,x.cell y c h⟩,J.aJ.fresh (R0 _),λy c h=>?_,λp U=>bL (show p∈([]:List (az×ao)) from U) (by simp),J.aJ.aH j,?_⟩
 exact name_of_addr x.apart (UU Y) (UU D)
 ·have M:B.names.lookup y=aa .cell\/B.names.lookup y=aa .free:=M;rcases M with M|M
  exact sG M;exact bL rfl (S.nofree _ (UU M))
 exact Uu (x.above y c (UU h))
 ·have W:i<vs.length:=by
   unfold start at D
   by_cases W:i<vs.length
   exact W
   ·rw[SS (by simpa using W)]at D;rw[U4]at D;split at D<;>cases D
  have t:vs[i]?=aa v:=by
   unfold start at D;rw[RU (by simpa using W),Sv]at D;cases e:vs[i]? with
   |none=>rw[e]at D;cases D|some a=>rw[e]at D;cases D;rfl
  obtain⟨u,g,l⟩:=r.get t;have U:ps[i]?=aa y:=by rw[←S.pre,UZ (by lia)];exact Y
  have O:ps.Nodup:=by rw[←S.pre];exact S.nd.sublist (List.take_sublist _ _)
  refine⟨u,l,?_⟩;rcases S.par y (Sg U)with k|k
  exact .inl ⟨k,qi O U g k⟩
  ·obtain⟨c,e⟩:=sG (n:=s.heap.objs.size+1) k;refine .inr ⟨.inl k,c,e,?_⟩;have q:=x.cell y c e;rw[qj O U g (by show B.names.lookup y≠_;rw[k];decide)]at q;exact q
 exact J.aJ.fresh (Uu (x.above y c (UU h)))
 ·unfold start;show _=N.length;rw[Sz,Se,Ve];lia
def LH{CX:CXT}{P:So}{w:SQ}{K:RQ}{mg:ay->Option aA}{base:aq}{k:Nat}{f:az}{name qual:ay}{D:W9}{L:List WJ}{B:TV}{j kV doc pm cdv ct C:aA}{an z:Option az}
{osl:Array (Option aA)}{N ps:List ay}{sp:Sp}(F:K.lookup f=aa ⟨C,z,.func (Ue name qual D L B j kV doc pm an cdv ct),osl⟩)(h:V1 K cdv qual=ah)(S:fY N ps B)
(len:∀vs H Q E,sp vs H Q E->vs.length=ps.length)
(U:∀ (A:TF) (outer:List Env) (s:RV) (H:Hp) (vs:List V) (Q:VK) (E:XK),fW k (A.deeper (X5 qual B s.heap.objs.size f cdv))->sp vs H Q E →
  ∃ t,PSs (uM CX P w K mg base N qual B f cdv A outer s H E) L t/\t { nx:=λ_ H'=>Q .aD H',rt:=Q } (start N vs) H):
 jj P w K mg base CX (k+1) f (Ue name qual D L B j kV doc pm an cdv ct) ps sp:=by
 refine⟨len,λA outer s H l p vs Q E g a hb r Z=>?_⟩;have T:=len _ _ _ _ Z;have m:K.In s.heap:=a.mod.kin.keeps λb o e=>(a.bs b o e).1;have lim:s.heap.NoLimit:=a.mod.nolimit.keeps λb o e=>(a.bs b o e).1;have O:∀y∈ps.zip p,B.names.lookup y.1=aa .local\/(B.names.lookup y.1=aa .cell/\((cellsFrom (s.heap.objs.size+1) B.names []).lookup y.1).isSome=ah):=λ⟨n,v⟩ hy=>by
  rcases S.par n (Xc hy).1 with q|q
  exact .inl q;exact .inr ⟨q,Xz _ _ _ (.inl q)⟩
 refine codeAny_call_function g.depth (m _ _ F) rfl S.co S.gen rfl (PySem.W.codeRec_of m h) (hb _ _ _ _ ?_);refine wpAny_newFunctionEnv_cells S.kind O λenv X i x=>?_;subst X;refine⟨lim.keeps x.toInCall.keep,codeAny_func ?_⟩;obtain⟨t,G,R⟩:=U A outer s H vs Q E (g.deeper _) Z;have I:Inv (uM CX P w K mg base N qual B f cdv A outer s H E) [] (start N vs) H i:=yp S g.hd a T r x;refine Uy (G [] i (start N vs) H _ I R) (λfl c Y=>?_) λe c Y=>Y;have fin:∀{M:St}{H':Hp}{v:V}{u:aA},Inv (uM CX P w K mg base N qual B f cdv A outer s H E) [] M H' c->RelV v u->Q v H'->CE outer P w H s Q u c :=
  λ{M H' v u} J d q=>⟨v,H',J.os,J.bare,J.base,J.aJ,d,q⟩
 cases fl with
 |ret u =>
  obtain⟨v,M,H',J,d,q⟩:=Y;exact fin J d q
 |next =>
  obtain⟨M,H',J,q⟩:=Y;exact fin (v:=V.aD) (u:=T5) J rfl q
 |brk =>
  obtain⟨_,_,_,q⟩:=Y;exact Ui q
 |cont =>
  obtain⟨_,_,_,q⟩:=Y;exact Ui q
end L2
namespace L2
open PySem PySem.Spec PyProof.Rows
section
variable{X:Cx}{x:ay}{p pos:Pos}{e:Vo}{es:List Vo}{t:TA}{id T:String}{r:List V->Hp->VK->Prop}
def tCB(r:List V->Hp->VK->Prop)(t:TA):TE:=fun q H Q=>t q H λB D=>r B D Q
def fB(V:eW X (.builtin id) r)(O:Gl X x)(M:X.mg x=af)(L:VM x=aa (.builtin id))(W:PA X (e::es) t)(hn:x≠"__name__":=by decide)(B:(x==("__debug__":ay))=ai:=by decide)
(U:SM (e::es) X.env=(ai,eval e X.env)::SM es X.env:=by rfl)(q:(Vb pos (SM es X.env)).any (·.1)=ai:=by rfl):PE X (.Call (.Name x p) (e::es) [] pos) (tCB r t):=by
 intro J s D H Q I h;refine UN (gU I O M L ?_ hn B);exact Wa (thn (W pos J s D H _ I h) λus s1 ⟨vs,H1,I1,r1,q1⟩=>V J s1 D H1 vs us Q I1 r1 q1) U q
def j8(V:eW X (.type T) r)(O:Gl X x)(M:X.mg x=af)(L:VM x=aa (.type T))(W:PA X (e::es) t)(hn:x≠"__name__":=by decide)(B:(x==("__debug__":ay))=ai:=by decide)
(U:SM (e::es) X.env=(ai,eval e X.env)::SM es X.env:=by rfl)(q:(Vb pos (SM es X.env)).any (·.1)=ai:=by rfl):PE X (.Call (.Name x p) (e::es) [] pos) (tCB r t):=by
 intro J s D H Q I h;refine UN (gU I O M L ?_ hn B);exact SJ (thn (W pos J s D H _ I h) λus s1 ⟨vs,H1,I1,r1,q1⟩=>V J s1 D H1 vs us Q I1 r1 q1) U q
end
end L2
namespace HT
open PySem PyProof.Rows
section
open PySem.SeqAt
open PySem.AutoSeq1 (wpAny_loadPart')
open PySem.MeetsSeq PySem.MeetsSeq2 PySem.MeetsSeq3
end
section
variable{prog:So}{w:SQ}{A:TF}{E:aA->RV->Prop}{s:RV}
def DZ{t b:az}{vs ws:List aA}{Q:aA->RV->Prop}(a:IsTup s.heap t vs.toArray)(c:IsTup s.heap b ws.toArray)(V:vs≠[])
(h1:ws=[]->Q (.ref t) s)(h2:ws≠[]->Q (.ref s.heap.objs.size) {s with heap:=s.heap.push {cls:=.type "tuple",data:=.seq (vs++ws).toArray} })
(hsz:vs.length+ws.length<=aj):av (Su prog w) A (Uq .Add (.ref t) (.ref b)) Q E s:=by
 obtain⟨⟨cls,dd,data,O⟩,M,Y,n,W⟩:=id a;obtain⟨⟨Z,L,data2,B⟩,q,J,U,D⟩:=id c;simp only at Y W J D;subst Y W J D;have e:vs.toArray++ws.toArray=(vs++ws).toArray:=by simp
 by_cases hw:ws=[]
 ·exact concat_meets ⟨_,M,rfl⟩ ⟨_,q,rfl⟩ XH YD VI VF (VA _ _)
   (tuple_addW1 t b vs.toArray ws.toArray n U dd L O B (by simpa using V) (by simp[hw])) ⟨M,q,h1 hw⟩
 ·refine concat_meets ⟨_,M,rfl⟩ ⟨_,q,rfl⟩ XH YD VI VF (VA _ _)
   (tuple_addW2 t b vs.toArray ws.toArray n U dd L O B (by simpa using V) (by simpa using hw) (by rw[RZ,RZ];exact hsz)) ⟨M,q,?_⟩
  rw[e];exact h2 hw
noncomputable def sIx(n d:Nat):Option Int->Nat
 |none=>d
 |some v=>if v<0 then(v+(n:Int)).toNat else min v.toNat n
def HG(n d:Nat)(B:d<=n)(o:Option Int):sIx n d o<=n:=by
 cases o with
 |none=>exact B
 |some v =>
  show(if v<0 then(v+(n:Int)).toNat else min v.toNat n)<=n
  by_cases q:v<0
  rw[bJ q];lia;rw[bK q];exact Nat.min_le_right _ _
def vV(v:Int)(n d:Nat):(if v<0 then max (v+(n:Int)) 0 else min v (n:Int))=((sIx n d (aa v):Nat):Int):=by
 show(if v<0 then max (v+(n:Int)) 0 else min v (n:Int))=(((if v<0 then(v+(n:Int)).toNat else min v.toNat n):Nat):Int)
 by_cases q:v<0
 simp only[bJ q];lia;simp only[bK q];lia
def uN(lo hi:Option Int)(n:Nat):Vh lo hi 1 (n:Int)=(((sIx n 0 lo:Nat):Int),((sIx n n hi:Nat):Int)):=by
 have q:¬((1:Int)<0):=by lia
 unfold Vh;simp only[q,if_false];refine Prod.ext ?_ ?_
 ·cases lo with
  |none=>rfl|some v=>exact vV v n 0
 ·cases hi with
  |none=>rfl|some v=>exact vV v n n
def uO(i j:Nat):UB (i:Int) (j:Int) 1=j-i:=by
 unfold UB;have q:(1:Int)>0:=by lia
 simp only[q,if_true,Int.ediv_one];split<;>lia
def nK{v:aA}{o:Option Int}{Q:Option Int->RV->Prop}(p:XG v o)(h:Q o s):av (Su prog w) A (Builtin.Slice.slicePartIndex v) Q E s:=by
 cases p with
 |none=>exact slicePart_none h|int i t=>exact slicePart_int h
def ja{L:az}{J D:aA}{lo hi:Option Int}{n:Nat}{Q:Int×Int×Nat->RV->Prop}(O:s.heap.IsSliceOf L J D .none)(pl:XG J lo)(M:XG D hi)
(h:Q (((sIx n 0 lo:Nat):Int),1,sIx n n hi-sIx n 0 lo) s):av (Su prog w) A (Wj (.ref L) (pure (n:Int))) Q E s:=by
 obtain⟨os,q,U,B⟩:=id O;unfold Wj Builtin.Slice.sliceFields;refine RP (RP (TR q B (x:=J) rfl (RP (TR q B (x:=D) rfl (RP (TR q B (x:=.none) rfl (au ?_)))))));refine RP (slicePart_none ?_);show av _ _ (if((1:Int)==0)=ah then _ else _) _ _ s;rw[bK (by decide)];refine RP (nK pl (RP (nK M (RP (au ?_)))));show av _ _ (match Vh lo hi 1 (n:Int)with|(lo,hi)=>pure (lo,(1:Int),UB lo hi 1)) _ _ s;rw[uN lo hi n];show av _ _ (pure (((sIx n 0 lo:Nat):Int),(1:Int),UB ((sIx n 0 lo:Nat):Int) ((sIx n n hi:Nat):Int) 1)) _ _ s;rw[uO];exact au h
def Ak(xs:Array aA)(i k:Nat):((Sk k).filterMap λ(m:Nat)=>xs[((i:Int)+(m:Int)*1).toNat]?).toArray=((xs.toList.drop i).take k).toArray:=by
 have e:(λ(m:Nat)=>xs[((i:Int)+(m:Int)*1).toNat]?)=λm=>xs[i+m]?:=by
  funext m;have:((i:Int)+(m:Int)*1).toNat=i+m:=by lia
  rw[this]
 rw[e];have:=pick_run xs i k;rw[List.filterMap_map]at this;have e2:((λx=>xs[x]?) ∘ λx=>i+x)=λm=>xs[i+m]?:=rfl;rw[e2]at this;rw[this]
def lq{t J:az}{items:Array aA}{W V:aA}{lo hi:Option Int}{Q:aA->RV->Prop}(D:IsTup s.heap t items)(Y:s.heap.IsSliceOf J W V .none)(pl:XG W lo)(Z:XG V hi)
(hw:¬(sIx items.size 0 lo=0/\sIx items.size items.size hi=items.size))
(h:Q (.ref s.heap.objs.size) {s with heap:=s.heap.push {cls:=.type "tuple",data:=.seq ((items.toList.drop (sIx items.size 0 lo)).take (sIx items.size items.size hi-sIx items.size 0 lo)).toArray} })
(hsz:items.size<=aj):av (Su prog w) A (Xl (.ref t) (.ref J)) Q E s:=by
 have B:sizeOk (.seq ((items.toList.drop (sIx items.size 0 lo)).take (sIx items.size items.size hi-sIx items.size 0 lo)).toArray):=by show((items.toList.drop (sIx items.size 0 lo)).take (sIx items.size items.size hi-sIx items.size 0 lo)).toArray.size<=aj;rw[RZ,VS,List.length_drop,SG];lia
 have d:sIx items.size items.size hi<=items.size:=HG _ _ (R0 _) hi;obtain⟨os,L,O,a⟩:=id Y;have U:s.TypeIs (.ref J) "slice":=⟨os,L,O⟩;unfold Xl
 try with_reducible refine Tf ?_
 first|refine RP (au ?_)|skip
 refine RP (wpAny_sequenceKey D.typeIs (by decide) ?_);refine RP (SZ (name:=Sn "__getitem__") D.typeIs Ug
  (TM Ug D.typeIs entry_tuple_getitem ?_ (args_tuple_getitem _ _)))
 show av _ _ (Wi (.ref t) >>= _) _ _ s;refine RP (tupleItemsOf_ D ?_);refine RP (U6 U ?_);rw[bJ (by decide)];refine RP (ja Y pl Z ?_);have M:¬((((sIx items.size 0 lo:Nat):Int)==0&&(1:Int)==1&&(sIx items.size items.size hi-sIx items.size 0 lo)==items.size)=ah):=by intro q;rw[RX,RX]at q;have c:((sIx items.size 0 lo:Nat):Int)=0:=bQ q.1.1;have b:sIx items.size items.size hi-sIx items.size 0 lo=items.size:=bQ q.2;exact hw ⟨by lia,by lia⟩
 show av _ _ (if(((sIx items.size 0 lo:Nat):Int)==0&&(1:Int)==1&&(sIx items.size items.size hi-sIx items.size 0 lo)==items.size)=ah then _ else _) _ _ s;rw[bK M,Ak]
 first
  |exact RP (m:=UJ _) (SL (au ⟨_,rfl,au h⟩) B)
  |exact RP (m:=UJ _) (SL (RP (au (au ⟨_,rfl,au h⟩))) B)
  |exact RP (RP (m:=UJ _) (SL (au (au ⟨_,rfl,au h⟩)) B))
  |exact RP (RP (m:=UJ _) (SL (au ⟨_,rfl,au h⟩) B))
end
end HT
namespace L2
open PySem PySem.Spec PyProof.Rows
abbrev TO:=St->Hp->(Option Int->Hp->Prop)->Prop
def PO(X:Cx)(e:Option Vo)(t:TO):Prop :=
 ∀(B:List (az×ao)) (s:RV) (q:St) (H:Hp) (Q:Option Int->Hp->Prop),Inv X B q H s->t q H Q →
  av (Su X.prog X.w) X.A (evalPart e X.env) (λu J=>∃o D,Inv X B q D J/\XG u o/\Q o D) X.xe s
def D0:TO:=λ_ H Q=>Q af H
def LJ(t:TE):TO:=fun q H Q=>t q H λx B=>∃i,x=.int i/\Q (aa i) B
def intsAre_of{ns:List Int}:∀{us:List aA},dg (ns.map V.int) us->VG us ns:=by
 induction ns with
 |nil=>intro us r;rw[Tc]at r;cases r;exact .nil
 |cons n ns D =>
  intro us r;rw[Sf]at r;cases r with
  |cons B q =>
   obtain⟨t,e⟩:=B;subst e;exact .cons n t (D q)
section
variable{X:Cx}{e:Vo}{te:TE}{lo hi:Option Vo}{tl th:TO}{pos p2:Pos}
def D3:PO X af D0:=by intro B s q H Q I h;rw[YG];exact au ⟨af,H,I,.none,h⟩
def D4(h:PE X e te):PO X (aa e) (LJ te):=by intro D s B H Q I hw;rw[evalPart_some];refine thn (h D s B H _ I hw) λu V J=>?_;obtain⟨x,U,O,L,M⟩:=J;obtain⟨i,rfl,q⟩:=M;obtain⟨t,rfl⟩:=L;exact⟨aa i,U,O,.int i t,q⟩
def SlR(X:Cx)(r:V->Option Int->Option Int->Hp->VK->Prop):Prop :=
 ∀(B:List (az×ao)) (s:RV) (q:St) (H:Hp) (x:V) (v J D:aA) (lo M:Option Int) (L:az) (Q:VK),Inv X B q H s->RelV x v->s.heap.IsSliceOf L J D .none->XG J lo->XG D M->r x lo M H Q →
  ∃T id,Xk (.type T) "__getitem__"=pure (aa (.builtin id))/\s.TypeIs v T/\av (Su X.prog X.w) X.A (Xl v (.ref L)) (EP X B q Q) X.xe s
def tSl(r:V->Option Int->Option Int->Hp->VK->Prop)(te:TE)(tl th:TO):TE:=fun q H Q=>te q H λx J=>tl q J λl D=>th q D λu B=>r x l u B Q
def Al{r:V->Option Int->Option Int->Hp->VK->Prop}(f:SlR X r)(j:PE X e te)(g:PO X lo tl)(c:PO X hi th):PE X (.Subscript e (.Slice lo hi af p2) pos) (tSl r te tl th):=by intro J s D H Q I h;refine Subscript_ (thn (j J s D H _ I h) λv U M=>?_);obtain⟨x,p,o,W,Z⟩:=M;refine wpAny_Slice (thn (g J U D p _ o Z) λvl s2 ⟨l,H2,I2,pl,q2⟩=>thn (c J s2 D H2 _ I2 q2) λL B M=>?_);obtain⟨u,O,n,a,Y⟩:=M;rw[YG];refine au ?_;have m:Inv X J D O {B with heap:=B.heap.push {cls:=.type "slice",data:=.fields #[vl,L,.none]} }:=n.aH (t':=B.toks) λb ob q=>RT _ q;obtain⟨T,id,k,d,i⟩:=f J {B with heap:=B.heap.push {cls:=.type "slice",data:=.fields #[vl,L,.none]} } D O x v vl L l u B.heap.objs.size Q m W (W6 ..) pl a Y;show av (Su X.prog X.w) X.A (YC e (.Slice lo hi af p2) v (.ref B.heap.objs.size)) (EP X J D Q) X.xe {B with heap:=B.heap.push {cls:=.type "slice",data:=.fields #[vl,L,.none]} };exact YB (ops:=[.ref B.heap.objs.size,v]) d k i (by with_unfolding_all rfl)
def sH(xs:List V)(lo hi:Option Int):List V:=(xs.drop (HT.sIx xs.length 0 lo)).take (HT.sIx xs.length xs.length hi-HT.sIx xs.length 0 lo)
def mQ(xs:List V)(lo hi:Option Int):(sH xs lo hi).length<=xs.length:=by unfold sH;rw[VS,List.length_drop];lia
def O4(K:RQ):V->Option Int->Option Int->Hp->VK->Prop:=λx lo B H Q=>∃a q,x=.ref a/\SqT K H a q ∧
 ¬(HT.sIx q.length 0 lo=0/\HT.sIx q.length q.length B=q.length)/\∀p,H p=af->Q (.ref p) (upd H p (.aC (sH q lo B)))
def HJ:SlR X (O4 X.K):=by
 intro d s c H x v f e lo L g Q I U Z W V h;obtain⟨a,D,rfl,Y,hw,q⟩:=h;cases U;obtain⟨J,r,O,M⟩:=I.tuple Y;have B:J.toArray.size=D.length:=by rw[RZ];exact r.length.symm
 refine⟨"tuple",_,PyProof.Rows.slot_tuple_getitem.lookup,O.typeIs,?_⟩;refine HT.lq O Z W V (by rw[B];exact hw) ?_ (by rw[B];exact M);rw[B];refine⟨.ref s.heap.objs.size,_,I.laid (t':=s.toks) (o:=.aC (sH D lo L)) (λb ob q=>RT _ q) (R0 _) ?_,rfl,q _ (I.aJ.fresh (R0 _))⟩;exact⟨SK (mQ D lo L) M,_,(r.drop (HT.sIx D.length 0 lo)).take (HT.sIx D.length D.length L-HT.sIx D.length 0 lo),IsTup.new _ _⟩
def LK(K:RQ):R2:=λx y H Q=>∃a b B q,x=.ref a/\y=.ref b/\SqT K H a B/\SqT K H b q/\B≠[]/\B.length+q.length<=aj ∧
 (q=[]->Q (.ref a) H)/\(q≠[]->∀p,H p=af->Q (.ref p) (upd H p (.aC (B++q))))
def dg.lu{xs:List V}{us:List aA}(r:dg xs us):us=[]↔xs=[]:=by
 cases r with
 |_=>simp
def D5:OpR X (Uq .Add) (LK X.K):=by intro j s i H x y v u Q I V U h;obtain⟨a,b,O,M,rfl,rfl,g,f,e,L,Y,W⟩:=h;cases V;cases U;obtain⟨d,D,c,_⟩:=I.tuple g;obtain⟨J,B,Z,_⟩:=I.tuple f;refine HT.DZ c Z (λz=>e (D.lu.mp z)) (λz=>⟨.ref a,H,I,rfl,Y (B.lu.mp z)⟩) (λz=>?_) (by rw[←D.length,←B.length];exact L);refine⟨.ref s.heap.objs.size,_,I.laid (t':=s.toks) (o:=.aC (O++M)) (λb ob q=>RT _ q) (R0 _) ?_,rfl,W (λw=>z (B.lu.mpr w)) _ (I.aJ.fresh (R0 _))⟩;exact⟨by rw[Sz];exact L,_,D.append B,IsTup.new _ _⟩
end
end L2
namespace L2
open PySem PySem.Spec PyProof.Rows
noncomputable def ixN(n:Nat)(i:Int):Option Nat:=if 0<=i then(if i<n then aa i.toNat else af)else if -(n:Int)<=i then aa (i+n).toNat else af
def atI{q:Type}(xs:List q)(i:Int):Option q:=(ixN xs.length i).bind λj=>xs[j]?
def vW{n:Nat}{i:Int}{j:Nat}(h:ixN n i=aa j):seqIndex? i n=aa j/\j<n/\-(n:Int)<=i/\i<n:=by
 unfold ixN at h
 by_cases B:0<=i
 ·rw[bJ B]at h
  by_cases q:i<n
  ·rw[bJ q]at h;have e:i.toNat=j:=Sa h;exact⟨by rw[seqIndex_of B q,e],by lia,by lia,q⟩
  rw[bK q]at h;cases h
 ·rw[bK B]at h
  by_cases q:-(n:Int)<=i
  ·rw[bJ q]at h;have e:(i+n).toNat=j:=Sa h;exact⟨by rw[seqIndex_neg (by lia) q,e],by lia,q,by lia⟩
  rw[bK q]at h;cases h
def qK{q:Type}{xs:List q}{i:Int}{v:q}(h:atI xs i=aa v):∃j,seqIndex? i xs.length=aa j/\xs[j]?=aa v/\j<xs.length/\-(xs.length:Int)<=i/\i<xs.length:=by
 unfold atI at h;cases e:ixN xs.length i with
 |none=>rw[e]at h;cases h
 |some j =>
  rw[e]at h;obtain⟨L,J,D,B⟩:=vW e;exact⟨j,L,h,J,D,B⟩
def vX(b:Vo):Prop:=∀o i,subscripted b ai o i=operate [o,i] (Xl o i)
def IxR(X:Cx)(r:R2):Prop :=
 ∀(B q:Vo)(J:List (az×ao)) (s:RV) (D:St) (H:Hp) (x y:V) (v u:aA) (Q:VK),Inv X J D H s->RelV x v->RelV y u->r x y H Q →
  subscripted q ai v u=operate [v,u] (Xl v u)->av (Su X.prog X.w) X.A (YC B q v u) (EP X J D Q) X.xe s
def MtR(X:Cx)(id:String)(r:V->List V->Hp->VK->Prop):Prop :=
 ∀(B:List (az×ao)) (s:RV) (q:St) (H:Hp) (x:V) (D:List V) (v:aA) (J:List aA) (Q:VK),Inv X B q H s->RelV x v->dg D J->r x D H Q →
  av (Su X.prog X.w) X.A (call (.builtin id) (v::J)) (EP X B q Q) X.xe s
section
variable{X:Cx}{a b:Vo}{ta tb:TE}{pos:Pos}
def GC{r:R2}(U:IxR X r)(W:PE X a ta)(V:PE X b tb)(O:vX b):PE X (.Subscript a b pos) (tOp r ta tb):=by intro D s B H Q I h;exact Subscript_ (Hw W V I h λv u J x y Z Y M L q=>U a b D J B Z x y v u Q Y M L q (O _ _))
def O5(K:RQ):R2:=λx y H Q=>∃p q i v,x=.ref p/\y=.int i/\SqL K H p q/\atI q i=aa v/\Q v H
def O6(K:RQ):R2:=λx y H Q=>∃p q i v,x=.ref p/\y=.int i/\SqT K H p q/\atI q i=aa v/\Q v H
def O7:R2:=λx y H Q=>∃z i c,x=.str z/\y=.int i/\z.length<=aj/\atI z.cps.toList i=aa c/\Q (.str ⟨#[c]⟩) H
def vY:IxR X (O5 X.K):=by
 intro D J W s V H x y v u Q I d c h Y;obtain⟨p,n,i,z,rfl,rfl,e,g,q⟩:=h;cases d;obtain⟨t,rfl⟩:=c;obtain⟨O,r,M,o⟩:=I.list e;obtain⟨j,B,m,A,l,k⟩:=qK g;obtain⟨w,a,L⟩:=r.get m;have f:=r.length;have hn:=l6;have fin:EP X W V Q w s:=⟨z,H,I,L,q⟩
 by_cases Z:0<=i
 ·have U:i.toNat=j:=by rw[seqIndex_of Z k]at B;exact Sa B
  exact item_listR M.isList Z (by lia) (by rw[U];simpa using a) fin Y
 ·have U:(i+(O.toArray.size:Int)).toNat=j:=by rw[seqIndex_neg (by lia) l]at B;rw[RZ,←f];exact Sa B
  exact subscriptTail_builtinR (x:=w) M.isList.typeIs slot_list_getitem.lookup
   (wpAny_getItem_list_neg (Q:=λr b=>r=w/\EP X W V Q r b) M.isList (by lia) (by rw[RZ]<;>lia) (by lia) (by rw[U];simpa using a) ⟨rfl,fin⟩) Y
def HK:IxR X (O6 X.K):=by
 intro B D M s L H x y v u Q I W V h Z;obtain⟨p,g,i,z,rfl,rfl,a,c,q⟩:=h;cases W;obtain⟨t,rfl⟩:=V;obtain⟨Y,r,O,k⟩:=I.tuple a;obtain⟨j,e,d,n,m,l⟩:=qK c;obtain⟨w,f,J⟩:=r.get d;have b:=r.length;have hn:=l6;have fin:EP X M L Q w s:=⟨z,H,I,J,q⟩;exact subscriptTail_builtinR (x:=w) O.typeIs slot_tuple_getitem.lookup
  (getItem_tuple (j:=j) (Q:=λr U=>r=w/\EP X M L Q r U) O (by lia) (by lia) (by rw[RZ,←b];exact e) (by simpa using f) ⟨rfl,fin⟩) Z
def HL:IxR X O7:=by
 intro B D b s a H x y v u Q I M L h O;obtain⟨z,i,c,rfl,rfl,e,V,q⟩:=h;obtain⟨t,rfl⟩:=M;obtain⟨d,rfl⟩:=L;obtain⟨j,J,Z,f,Y,W⟩:=qK V;have U:z.cps.toList.length=z.length:=by simp[Str.length]
 rw[U] at J Y W;have hn:=l6;exact YB (typeIs_str s z t) slot_str_getitem.lookup (getItem_str (c:=c) (by
  have e1:decide (i < -(2 ^ 63:Int))=ai:=bN (by lia);have e2:decide (i ≥ 2 ^ 63)=ai:=bN (by lia);rw[e1,e2,Vp]) (by rw[J];simpa using Z) ⟨.str ⟨#[c]⟩,H,I.tok _,⟨_,rfl⟩,q⟩) O
def uP(q:List aA)(n j:Nat)(u:aA):TN (·.setIfInBounds j u) {cls:=.type "list",data:=.seq q.toArray n}={cls:=.type "list",data:=.seq (q.set j u).toArray n}:=by simp[TN]
def Inv.aB{zt:List (az×ao)}{σ:St}{H:Hp}{s:RV}{p:az}{xs:List V}(I:Inv X zt σ H s)(h:H p=aa (.aB xs)):
 ∃(q:List aA) (n:Nat),dg xs q/\s.heap.get? p=aa {cls:=.type "list",data:=.seq q.toArray n}/\xs.length<=aj:=by
 obtain⟨z,q,n,r,e⟩:=I.aJ p _ h;exact⟨q,n,r,e,z⟩
def Inv.HM{zt:List (az×ao)}{σ:St}{H:Hp}{s:RV}{p:az}{xs ys:List V}{B its':List aA}{n D:Nat}{f:ao->ao}(I:Inv X zt σ H s)(h:H p=aa (.aB xs))
(L:s.heap.get? p=aa {cls:=.type "list",data:=.seq B.toArray n})(J:f {cls:=.type "list",data:=.seq B.toArray n}={cls:=.type "list",data:=.seq its'.toArray D})(r:dg ys its')(hz:ys.length<=aj)(t:Nat):
 Inv X zt σ (upd H p (.aB ys)) {s with heap:=s.heap.update p f,toks:=t}:=by
 have e:(s.heap.update p f).get? p=aa {cls:=.type "list",data:=.seq its'.toArray D}:=by rw[SB f L (by rw[J]<;>rfl),J]
 refine I.write (x:=p) (e:=p) (by rw[h];trivial) (.inl rfl) (λb u M q=>(Ti _ _ (Td M)).trans q) ⟨_,e⟩ ?_;exact⟨hz,its',D,r,e⟩
def GD:V->V->V->Hp->(Hp->Prop)->Prop:=λo i v H Q=>∃p q k j,o=.ref p/\i=.int k/\H p=aa (.aB q)/\ixN q.length k=aa j/\Q (upd H p (.aB (q.set j v)))
def set_list:Lj X GD:=by
 intro b s a H o i v m w u Q I e f d h;obtain⟨p,c,k,j,rfl,rfl,O,l,q⟩:=h;cases e;obtain⟨t,rfl⟩:=f;obtain⟨B,n,r,J,g⟩:=I.aB O;obtain⟨D,x,V,U⟩:=vW l;have L:=r.length;have hn:=l6;have Z:Inv X b a (upd H p (.aB (c.set j v))) {s with heap:=s.heap.update p (TN (·.setIfInBounds j u))} :=
  I.HM O J (uP B n j u) (r.set d j) (by rw[TH];exact g) s.toks
 by_cases Y:0<=k
 ·have M:k.toNat=j:=by rw[seqIndex_of Y U]at D;exact Sa D
  exact PySem.W.ki_setAt J Y (by lia) (by rw[RZ,←L];exact U) (by rw[M];exact⟨_,Z,q⟩)
 ·have M:(k+(B.toArray.size:Int)).toNat=j:=by rw[seqIndex_neg (by lia) V]at D;rw[RZ,←L];exact Sa D
  exact PySem.W.ki_setBack J (by lia) (by rw[RZ,←L];exact V) (by lia) (by rw[M];exact⟨_,Z,q⟩)
def qL(lo hi:Option Int)(n:Nat):(SR lo hi af n).1=((HT.sIx n 0 lo:Nat):Int)/\(SR lo hi af n).2.1=((HT.sIx n n hi:Nat):Int)/\(SR lo hi af n).2.2=1:=by
 refine⟨?_,?_,rfl⟩
 ·cases lo with
  |none=>simp[SR,HT.sIx]
  |some i =>
   simp only[SR,HT.sIx,YR,show(1:Int)>0 by decide,if_true]
   by_cases h:i<0
   simp only[h,if_true]<;>lia;simp only[h,if_false]<;>lia
 ·cases hi with
  |none=>simp[SR,HT.sIx]
  |some i =>
   simp only[SR,HT.sIx,YR,show(1:Int)>0 by decide,if_true]
   by_cases h:i<0
   simp only[h,if_true]<;>lia;simp only[h,if_false]<;>lia
def pM(q:List aA)(lo hi:Option Int):slicePick q.toArray lo hi af=((q.drop (HT.sIx q.length 0 lo)).take (HT.sIx q.length q.length hi-HT.sIx q.length 0 lo)).toArray:=by obtain⟨J,D,B⟩:=qL lo hi q.toArray.size;unfold slicePick;rw[J,D,B];simp only[sliceRange_one,pick_run,RZ]<;>rfl
def O8(K:RQ):V->Option Int->Option Int->Hp->VK->Prop:=λx lo B H Q=>∃a q,x=.ref a/\SqL K H a q/\∀p,H p=af->Q (.ref p) (upd H p (.aB (sH q lo B)))
def D6:SlR X (O8 X.K):=by intro d s c H x v f e lo J g Q I M Z U O h;obtain⟨a,B,rfl,Y,q⟩:=h;cases M;obtain⟨V,r,L,W⟩:=I.list Y;have D:=r.length;refine⟨"list",_,slot_list_getitem.lookup,L.isList.typeIs,?_⟩;refine Yt L.isList Z U O .none (by simp) ?_ (by rw[RZ]<;>lia);rw[pM,←D];refine⟨.ref s.heap.objs.size,_,I.laid (t':=s.toks) (o:=.aB (sH B lo J)) (λb ob q=>RT _ q) (R0 _) ?_,rfl,q _ (I.aJ.fresh (R0 _))⟩;exact⟨SK (mQ B lo J) W,_,0,(r.drop (HT.sIx B.length 0 lo)).take (HT.sIx B.length B.length J-HT.sIx B.length 0 lo),R8 _ rfl⟩
def jm:eW X (.builtin "len") (λxs H Q=>∃p ys,xs=[.ref p]/\(SqL X.K H p ys\/SqT X.K H p ys)/\Q (.int ys.length) H):=by
 intro W s V H xs Y Q I r h;obtain⟨p,ys,rfl,D,q⟩:=h;obtain⟨u,rfl,O⟩:=vals1 r;cases O;have hn:=l6;rcases D with D|D
 ·obtain⟨M,J,L,U⟩:=I.list D;have B:=J.length;exact Calls.call_len_list L.isList (by simp only[RZ]<;>lia) ⟨.int ys.length,H,I.tok _,⟨s.toks+1,by rw[RZ,B]⟩,q⟩
 ·obtain⟨M,J,L,U⟩:=I.tuple D;have B:=J.length;exact len_tuple L (by simp only[RZ]<;>lia) ⟨.int ys.length,H,I.tok _,⟨s.toks+1,by rw[RZ,B]⟩,q⟩
def qM:eW X (.builtin "len") (λxs H Q=>∃z,xs=[.str z]/\z.length<=aj/\Q (.int z.length) H):=by intro D s B H xs J Q I r h;obtain⟨z,rfl,L,q⟩:=h;obtain⟨u,rfl,t,rfl⟩:=vals1 r;have hn:=l6;exact len_str (by lia) ⟨.int z.length,H,I.tok _,⟨_,rfl⟩,q⟩
def ly:eW X (.type "list") (λxs H Q=>∃p ys,xs=[.ref p]/\(SqL X.K H p ys\/SqT X.K H p ys)/\∀l,H l=af->Q (.ref l) (upd H l (.aB ys))):=by
 intro f s d H xs i Q I r h;obtain⟨p,ys,rfl,U,q⟩:=h;obtain⟨u,rfl,g⟩:=vals1 r;cases g;have fin:∀(B:List aA),dg ys B->ys.length<=aj->∀(D:aq)(L:Nat),(∀b c,s.heap.get? b=aa c->D.get? b=aa c) →
  D.get? s.heap.objs.size=aa {cls:=.type "list",dict:=af,data:=.seq B.toArray L,slots:=#[]}->EP X f d Q (.ref s.heap.objs.size) {s with heap:=D}:=λB J O D L M e =>
  ⟨.ref s.heap.objs.size,_,I.laid (t':=s.toks) M (R0 _) (show gG X.prog X.w _ D _ (.aB ys) from⟨O,B,L,J,e⟩),rfl,q _ (I.aJ.fresh (R0 _))⟩
 rcases U with U|U
 ·obtain⟨B,J,W,O⟩:=I.list U;have V:=J.length;obtain⟨o,Y,a,n,Z⟩:=W.isList;exact call_list_seq p (.inl rfl) Y a Z (λD L M e=>fin B J O D L M e) (by simp only[RZ]<;>lia)
 ·obtain⟨B,J,W,O⟩:=I.tuple U;have V:=J.length;obtain⟨o,Y,a,n,Z⟩:=W;exact call_list_seq p (.inr rfl) Y a Z (λD L M e=>fin B J O D L M e) (by simp only[RZ]<;>lia)
def kJ:eW X (.type "tuple") (λxs H Q=>∃p ys,xs=[.ref p]/\((SqL X.K H p ys/\∀l,H l=af->Q (.ref l) (upd H l (.aC ys)))\/(SqT X.K H p ys/\Q (.ref p) H))):=by
 intro U s O H xs d Q I r h;obtain⟨p,ys,rfl,h⟩:=h;obtain⟨u,rfl,Z⟩:=vals1 r;cases Z;rcases h with⟨M,q⟩|⟨M,q⟩
 ·obtain⟨B,J,L,V⟩:=I.list M;have W:=J.length;refine call_tuple_list L.isList (λD a=>?_) (by simp only[RZ]<;>lia);have Y:Inv X U O H {s with heap:=D}:=I.aH (t':=s.toks) a;have c:Inv X U O (upd H D.objs.size (.aC ys)) {s with heap:=D.push {cls:=.type "tuple",data:=.seq B.toArray} } :=
   Y.laid (t':=s.toks) (λb o e=>RT _ e) (R0 _) (show gG X.prog X.w _ _ _ (.aC ys) from⟨V,B,J,IsTup.new _ _⟩)
  exact⟨.ref D.objs.size,_,c,rfl,q _ (Y.aJ.fresh (R0 _))⟩
 ·obtain⟨B,J,L,V⟩:=I.tuple M;exact call_tuple_same L ⟨.ref p,H,I,rfl,q⟩
def tyV(K:RQ)(T:String)(x:V)(H:Hp):Prop:=match x with
 |.str _=>T="str"|.int _=>T="int"|.ref p=>(T="list"/\∃B,SqL K H p B)\/(T="tuple"/\∃o,K.lookup p=aa o/\o.cls=.type "tuple"/\o.dict=af) ∨
  (T="dict"/\((∃q,H p=aa (.dK q))\/∃q,H p=aa (.dT q)))\/(T="set"/\∃S n,H p=aa (.set S n))
 |_=>False
def Am{zt:List (az×ao)}{σ:St}{H:Hp}{s:RV}{T:String}{x:V}{v:aA}(I:Inv X zt σ H s)(r:RelV x v)(ty:tyV X.K T x H):
 s.TypeIs v T/\∀a,v=.ref a->∃ob,s.heap.get? a=aa ob/\ob.dict=af:=by
 cases x with
 |str z =>
  obtain⟨t,rfl⟩:=r;cases (show T="str" from ty);exact⟨typeIs_str s z t,λ_ e=>nomatch e⟩
 |int i =>
  obtain⟨t,rfl⟩:=r;cases (show T="int" from ty);exact⟨typeIs_int s i t,λ_ e=>nomatch e⟩
 |ref p =>
  cases r;rcases ty with⟨rfl,O,M⟩|⟨rfl,o,q,hc,D⟩|⟨rfl,q⟩|⟨rfl,S,n,q⟩
  ·obtain⟨L,_,J,_⟩:=I.list M;refine⟨J.isList.typeIs,λa e=>?_⟩;cases e;obtain⟨o,n,e,c,D,_⟩:=J;exact⟨o,e,D⟩
  ·refine⟨⟨o,I.kIn p o q,hc⟩,λa e=>?_⟩;cases e;exact⟨o,I.kIn _ o q,D⟩
  ·have z:∃o,s.heap.get? p=aa o/\o.ExactDict:=by
    rcases q with⟨B,q⟩|⟨B,q⟩
    ·obtain⟨_,_,_,_,o,_,_,e,ex,_⟩:=I.aJ p _ q;exact⟨o,e,ex⟩
    ·obtain⟨_,_,_,_,o,_,_,e,ex,_⟩:=I.aJ p _ q;exact⟨o,e,ex⟩
   obtain⟨o,e,ex⟩:=z;refine⟨⟨o,e,ex.1⟩,λa e2=>?_⟩;cases e2;exact⟨o,e,ex.2.1⟩
  ·obtain⟨o,_,_,_,e,ex,_⟩:=I.aJ p _ q;refine⟨⟨o,e,ex.1⟩,λa e2=>?_⟩;cases e2;exact⟨o,e,ex.2.1⟩
 |_=>exact Ui ty
def O9(K:RQ)(T:String)(r:V->List V->Hp->VK->Prop)(to:TE):TE:=fun B H Q=>to B H λx q=>tyV K T x q/\r x [] q Q
def tBM(K:RQ)(T:String)(r:V->List V->Hp->VK->Prop)(to:TE)(t:TA):TE:=fun q H Q=>to q H λx B=>tyV K T x B/\t q B λD J=>r x D J Q
variable{o e:Vo}{es:List Vo}{to:TE}{t:TA}{name:ay}{apos cpos:Pos}{T id:String}{r:V->List V->Hp->VK->Prop}
def HN(Z:PlainAttrs T)(D:Slot T name id)(J:typeOf (.builtin id)=pure (.type "method_descriptor"))(b:MtR X id r)(a:PE X o to)
(B:V7 o name X.env (eval o X.env)=eval o X.env:=by rfl)(q:(apos.endLine==cpos.line)=ah:=by rfl):PE X (.Call (.Attribute o name apos) [] [] cpos) (O9 X.K T r to):=by
 intro M s L H Q I h;refine wpAny_Call_method0_late B q (thn (a M s L H _ I h) λv W V=>?_);obtain⟨x,e,U,O,ty,Y⟩:=V;obtain⟨d,c⟩:=Am U O ty;exact⟨T,id,Z,D,J,d,c,XW rfl (PySem.evalArgs_none (b M W L e x [] v [] Q U O .nil Y))⟩
def An(d:PlainAttrs T)(J:Slot T name id)(U:typeOf (.builtin id)=pure (.type "method_descriptor"))(i:MtR X id r)(g:PE X o to)(j:PA X (e::es) t)
(D:V7 o name X.env (eval o X.env)=eval o X.env:=by rfl)
(L:((Vb cpos (SM (e::es) X.env)).all (λx=>!x.1)&&(XQ cpos (V5 [] X.env)).all (λx=>x.1.isSome)
 &&decide ((e::es).length+([]:List Wv).length+(if ([]:List Wv).isEmpty then 0 else 1) < 30))=ah:=by rfl)
(B:(apos.endLine==cpos.line)=ah:=by rfl)(f:SM (e::es) X.env=(ai,eval e X.env)::SM es X.env:=by rfl)(q:(Vb cpos (SM es X.env)).any (·.1)=ai:=by rfl):
 PE X (.Call (.Attribute o name apos) (e::es) [] cpos) (tBM X.K T r to t):=by
 intro O s M H Q I h;refine wpAny_Call_method_late D L B rfl (thn (g O s M H _ I h) λv b Z=>?_);obtain⟨x,m,Y,V,ty,c⟩:=Z;obtain⟨l,k⟩:=Am Y V ty;refine⟨T,id,d,J,U,l,k,?_⟩;have W:=j cpos O b M m _ Y c;rw[f]at W⊢;refine XW (by show(ai||(Vb cpos (SM es X.env)).any (·.1))=ai;rw[q]<;>rfl) (Calls.evalArgs_plain ?_);exact thn W λus s2 ⟨vs,H2,I2,r2,q2⟩=>i O s2 M H2 x vs v us Q I2 V r2 q2
/- xs.append(e),list.index on a module's tuple .. are MtR facts of 06m -/
end
end L2
namespace L2
open PySem PySem.Spec PyProof.Rows
def MtM(X:Cx)(id:String)(r:V->List V->Hp->VK->Prop):Prop :=
 ∀(B:List (az×ao)) (s:RV) (q:St) (H:Hp) (x:V) (D:List V) (v:aA) (J:List aA) (Q:VK),Inv X B q H s->RelV x v->dg D J->r x D H Q →
  av (Su X.prog X.w) X.A (call (.builtin id) (v::J)) (EP X B q Q) X.xe s
def dg.one{x:V}{us:List aA}(h:dg [x] us):∃u,us=[u]/\RelV x u:=by cases h with|cons r t=>cases t;exact⟨_,rfl,r⟩
def dg.two{x y:V}{us:List aA}(h:dg [x,y] us):∃u v,us=[u,v]/\RelV x u/\RelV y v:=by cases h with|cons r t=>obtain⟨v,rfl,q⟩:=dg.one t;exact⟨_,v,rfl,r,q⟩
theorem dg.zero:∀{us:List aA},dg [] us->us=[]
 |_,.nil=>rfl
def dg.dropLast{xs:List V}{us:List aA}(h:dg xs us):dg xs.dropLast us.dropLast:=by
 induction h with
 |nil=>exact .nil
 |cons r t B =>
  cases t with
  |nil=>exact .nil|cons q D=>exact .cons r B
theorem dg.rep{xs:List V}{us:List aA}(h:dg xs us):∀k:Nat,dg (Sw k xs).flatten (Sw k us).flatten
 |0=>.nil
 |k+1=>by rw[Ua,Ua,UO,UO];exact dg.append h (dg.rep h k)
def uQ{q:Type}(l:List q):l.eraseIdx (l.length-1)=l.dropLast:=by
 induction l with
 |nil=>rfl
 |cons a r B =>
  cases r with
  |nil=>rfl
  |cons b r =>
   have e:(a::b::r).length-1=((b::r).length-1)+1:=by have J:(a::b::r).length=r.length+2:=rfl;have D:(b::r).length=r.length+1:=rfl;lia
   rw[e,List.eraseIdx_cons_succ,B]
   all_goals rfl
theorem foldl_rep(q:List aA):∀(k:Nat)(B:List aA),
 WD (λJ D=>J++D) B.toArray (Sw k q.toArray)=(B++(Sw k q).flatten).toArray
 |0,B=>by simp
 |k+1,B=>by
  have e:B.toArray++q.toArray=(B++q).toArray:=by simp
  have e2:(B++q)++(Sw k q).flatten=B++(Sw (k+1) q).flatten:=by rw[Ua,UO,Tg]
  rw[←e2,←foldl_rep q k (B++q),←e,Ua,UI]
section
variable{X:Cx}{zt:List (az×ao)}{σ:St}{H:Hp}{s:RV}{l b:az}{xs ys zs:List V}
def Inv.D7{B its':List aA}{n:Nat}{f:Array aA->Array aA}{t':Nat}(I:Inv X zt σ H s)(O:H l=aa (.aB xs))
(e:s.heap.get? l=aa {cls:=.type "list",data:=.seq B.toArray n})(L:f B.toArray=its'.toArray)(D:dg ys its')(hz:ys.length<=aj):
 Inv X zt σ (upd H l (.aB ys)) {s with heap:=s.heap.update l (TN f),toks:=t'}:=by
 have q:=PySem.IsL.update e f;rw[L]at q;refine I.write (x:=l) (e:=l) (by rw[O];exact trivial) (.inl rfl) (λU u M J=>(Ti s.heap (TN f) (Td M)).trans J) ⟨_,q⟩ ?_;exact⟨hz,its',_,D,q⟩
def Inv.LM{B:List aA}{t':Nat}(I:Inv X zt σ H s)(D:dg ys B)(hz:ys.length<=aj):
 Inv X zt σ (upd H s.heap.objs.size (.aB ys)) {s with heap:=s.heap.push {cls:=.type "list",data:=.seq B.toArray},toks:=t'} :=
 I.laid (λ_ _ q=>RT _ q) (R0 _) ⟨hz,B,0,D,R8 _ rfl⟩
def Inv.fresh(I:Inv X zt σ H s):H s.heap.objs.size=af:=I.aJ.fresh (R0 _)
def Inv.D8(I:Inv X zt σ H s)(B:H l=aa (.aB xs)):xs.length<=aj/\∃(q:List aA) (n:Nat),dg xs q/\xs.length=q.length/\s.heap.get? l=aa {cls:=.type "list",data:=.seq q.toArray n}:=by obtain⟨z,q,n,r,e⟩:=I.aJ l _ B;exact⟨z,q,n,r,r.length,e⟩
def nL{n:Nat}(h:n<=aj):TZ n=ai:=by unfold TZ;exact bN (by lia)
end
section
variable{X:Cx}
def D9:V->List V->Hp->VK->Prop:=λx B H Q=>∃l q y,x=.ref l/\B=[y]/\H l=aa (.aB q)/\q.length<aj/\Q .aD (upd H l (.aB (q++[y])))
def qk:MtM X "list.append" D9:=by intro U s O H x W v Y Q I J L h;obtain⟨l,V,y,rfl,rfl,D,Z,q⟩:=h;cases J;obtain⟨u,rfl,M⟩:=L.one;obtain⟨z,B,n,r,a,e⟩:=I.D8 D;refine U7 F.slot_list_append ⟨_,e,rfl⟩ F.entry_list_append (F.args_list_append_2 _ _) (PySem.list_append l B.toArray n u (by rw[RZ];lia)) ⟨e,?_⟩;refine⟨.aD,_,I.D7 (its':=B++[u]) D e (by simp) (r.append (.cons M .nil)) ?_,rfl,q⟩;rw[Sz,UH];lia
def Pa:V->List V->Hp->VK->Prop:=λx B H Q=>∃l q y,x=.ref l/\B=[]/\H l=aa (.aB q)/\q[q.length-1]?=aa y/\Q y (upd H l (.aB q.dropLast))
def HP:MtM X "list.pop" Pa:=by
 intro a s Z H x c v d Q I M O h;obtain⟨l,b,y,rfl,rfl,L,V,q⟩:=h;cases M;have J:=O.zero;subst J;obtain⟨z,B,n,r,Y,e⟩:=I.D8 L;obtain⟨u,W,U⟩:=r.get V;have D:B.toArray[B.toArray.size-1]?=aa u:=by show B.toArray[B.length-1]?=aa u;rw[←Yb,←Y];exact W
 refine U7 F.slot_list_pop ⟨_,e,rfl⟩ F.entry_list_pop (F.args_list_pop_1 _) (MeetsSeq.list_pop_last l B.toArray n u D (by rw[RZ];lia)) ⟨e,?_⟩;refine⟨y,_,I.D7 (its':=B.dropLast) L e ?_ r.dropLast ?_,U,q⟩
 ·show B.toArray.eraseIdxIfInBounds (B.toArray.size-1)=B.dropLast.toArray;rw[RZ,List.eraseIdxIfInBounds_toArray,uQ]
 ·rw[List.length_dropLast];lia
def len_rep{q:Type}(xs:List q)(k:Nat):(Sw k xs).flatten.length=k*xs.length:=by
 induction k with
 |zero=>simp|succ k B=>rw[Ua,UO,Sz,B,Nat.succ_mul,Nat.add_comm]
end
section
variable{prog:So}{w:SQ}{A:TF}{E:aA->RV->Prop}{s:RV}
set_option maxRecDepth 100000 in
end
section
variable{X:Cx}
end
end L2
namespace Att
open PySem PySem.W PySem.Calls PyProof.Rows
def mV{P:Params}{h:aq}:∀(ns:List Int)(vs:List aA),WellAll P h vs (ns.map WData.int)->VG vs ns:=by
 intro ns
 induction ns with
 |nil =>
  intro vs w;rw[Tc]at w;cases w;exact .nil
 |cons n ns q =>
  intro vs w;rw[Sf]at w;cases w with
  |cons a b =>
   cases a;exact .cons _ _ (q _ b)
def yq{l:OpenLaw}{n:Nat}(hn:l.most=aa n){P:Params}{h:aq}{args:List WData}{vals:List aA}
(B:l.row.toRowW.claim.pre args=ah)(O:WellAll P h vals args):
 ∃a vs ns,vals=[S7 a]/\args=[WData.list (ns.map WData.int)]/\h.get? a=aa {cls:=.type "list",data:=.seq vs.toArray}/\VG vs ns/\ns.length<=n:=by
 have U:WShape.hasAll [] args [.list .int]=ah:=(pre_splitW B).1;have V:l.pre.holds [] {args:=args}=ah:=(pre_splitW B).2;obtain⟨d,r,rfl,f,e⟩:=hasAllW_cons U;obtain rfl:=hasAllW_nil e;obtain⟨g,rfl,c⟩:=hasW_list f;obtain⟨ns,rfl⟩:=items_int c;have D:ns.length<=n:=by
  unfold OpenLaw.pre at V;have M:(WTm.not (.lt (.lit (.int (n:Int))) (.len (.arg 0)))).holds [] {args:=[.list (ns.map .int)]}=ah:=by have M:=(holds_andW V).1;rw[hn]at M;exact M
  have L:=condW_of M (w_not (w_lt w_lit (w_len_list (w_arg rfl))));rw[Se]at L;refine Nat.le_of_not_lt λq=>?_;have Z:(n:Int)<((ns.length:Nat):Int):=by lia
  first
   |(rw[bO Z]at L;exact bL L (by decide))
   |(simp at L;lia)
 cases O with
 |cons Y W =>
  cases W;cases Y with
  |list b J=>exact⟨_,_,ns,rfl,rfl,b,mV ns _ J,D⟩
def yr(l:OpenLaw)(args:List WData):l.row.toRowW.claim.post args (.bool ah) args=ah :=
 postW_of (r:=l.row.toRowW) (X:=(ah==ah))
  (show WShape.has [] (.bool ah) .bool=ah by first|rfl|decide|simp[WShape.has,WShape.arms,WShape.armsAll])
  (show(WTm.eq .res (.lit (.bool ah))).value [] {args:=args,res:=aa (.bool ah),after:=args}=aa (.bool (ah==ah)) from w_eq_bool (w_res rfl) w_lit) rfl
def sI{l:OpenLaw}{n:Nat}{q:So}{loose:List ay}{XP:(ay->Option aA)->aq->Prop}{YP:SQ->aq->Prop}{d:DefRec}
(hn:l.most=aa n)(b:d.params.defaults=[])
(call:∀ (w:SQ) (s₀ B:RV) (mg V:ay->Option aA) (O:az) (o:ao) (pm U doc:aA) (a:az) (vs:List aA) (ns:List Int),
  Ground q loose [] XP w s₀ mg V B.heap->YP w B.heap →
  B.heap.get? O=aa o->o.data=.func (docDef d.name d.params d.body d.scope pm U doc)->B.heap.CodeRec U d.name->mg d.name=aa (.ref O) →
  B.heap.get? a=aa {cls:=.type "list",data:=.seq vs.toArray}->VG vs ns->ns.length<=n->B.gens=#[] →
  ak (Su l.prog w) YI (.call (.ref O) ⟨[.ref a],[]⟩) (λr s'=>r=.ok (.ret (.bool ah))/\OldK B.heap s'.heap/\s'.os=B.os/\Yc s'.gens) B):
 WalkO q loose XP YP l.row.toRowW d [] (λf vs=>YN f vs):=by
 intro w s₀ B mg V G Y O o pm U doc y kV k t c g Z s h vals z J e i W p;obtain rfl:y=.none:=Dflts.none g b;obtain rfl:kV=.none:=Dflts.noKw g;obtain⟨a,vs,ns,rfl,rfl,L,D,M⟩:=yq hn J W;refine enter_call (codeAny_mono (call w s₀ B mg V O o pm U doc a vs ns G Y k (fd_plain t) c Z L D M s) λr s' j=>?_);obtain⟨rfl,x,v,u⟩:=j;exact⟨.inl ⟨.bool ah,.bool ah,[],rfl,λ_=>rfl,.bool ah,yr l _,λ_=>⟨Xv,λ_ m=>(nomatch m)⟩⟩,x,v,u⟩
section
variable{prog:So}{w:SQ}{A:TF}{E:aA->RV->Prop}{s:RV}{K:Frag}
noncomputable def ledger(h:aq)(L d:az):List (az×ao):=(Sk h.objs.size).filterMap λa=>if a=L\/a=d then af else(h.get? a).map λo=>(a,o)
end
end Att
namespace L2
open PySem PySem.Spec PyProof.Rows
theorem j9:∀{vs:List aA}{ns:List Int},VG vs ns->dg (ns.map V.int) vs
 |_,_,.nil=>.nil|_,_,.cons n t h=>.cons ⟨t,rfl⟩ (j9 h)
end L2
namespace L2
open PySem PySem.Spec PyProof.Rows
noncomputable abbrev KOf{K:RQ}{h:aq}(_:K.In h):RQ:=K
end L2
/- THE LAST THEOREM (shape;LID,My.* are yours):
 My.Adr: a structure of the addresses that your layer names (classes,functions);My.Txt K t: a structure (Prop) of the equations over K;
 My.txt_mk:{K}{implicit addresses ..} (e1:nsIn K Ss "law"=aa (aa (.ref f))) (e2:K.lookup f=aa ⟨oc,od,.func (fnOf "law" "law" params body scope dV kV doc pm an cdv ct),sl⟩) (e3:codeIn K cdv "law"=ah) ..:∃t,My.Txt K t
set_option maxRecDepth 100000 in
set_option maxHeartbeats 0 in
def PySem.Challenge.Ea:PySem.Challenge.rw_LID.Holds:=by
 w_on;o_law;k_head;(case hw=>w_witness2)
 k_fill
 refine L2.walk_of (l:=PySem.Challenge.rw_LID) (n:=63) (k:=40) (x:="script") (CX:=λw=>..) (sp:=λ_=>My.Do) rfl (by decide) rfl ⟨rfl,by decide,by decide⟩ (λw h Y=>PySem.W.kIn_of Y) ?F ?S ?C
 case F =>
  intro w c U h O G M;have T:∃t,My.Txt (L2.KOf O) t:=by
   dsimp only[L2.KOf] -- K must stand as «<heap const> w.params» for k_is;refine' My.txt_mk ?e1 ?e2 ?e3 ..
   (case e1=>PySem.W.k_is) -- in q order: a name->its address->its object->its parts
   (case e2=>PySem.W.k_is)
   ..
  obtain⟨t,T⟩:=T;have V:=M.symm.trans (UX O G T.law);cases V -- U is q law's own address;exact⟨_,λs u=>.of_eq rfl,λB L J=>My.law_fn T L J⟩ -- if «.of_eq rfl» comes too early: refine' ⟨_,?b,λB L J=>My.law_fn T L J⟩;exact λs u=>.of_eq rfl
 case S=>exact λw H a Z d f e=>..
 case C=>exact ..
(q D k_is has no namespace: write k_is) -/
namespace L2
open PySem PySem.Spec PyProof.Rows
abbrev CX0:CXT:=λ_ _ _ _ _ _=>False
abbrev E0:XK:=λ_ _ _=>False
def nM{X:Cx}:jk CX0 X E0:=λ_ _ _ _ _ _ _ h=>h.elim
inductive LN(K:RQ)(x qual:ay)(st:WJ)(f:az)(fd:Uv):Prop
 |mk(B:aA)(q:Option az)(kV doc pm:aA)(an:Option az)(cdv ct:aA)(osl:Array (Option aA))(h1:fd=Ue x qual (fX st) (dS st) (c6 st) .none kV doc pm an cdv ct)(h2:K.lookup f=aa ⟨B,q,.func fd,osl⟩)(D:V1 K cdv qual=ah):LN K x qual st f fd
structure Fun(K:RQ)(x qual:ay)(st:WJ)(f:az)(fd:Uv):Prop where
 ex:LN K x qual st f fd
 kp:TY K (.ref f)=ah
section
variable{P:So}{w:SQ}{K:RQ}{mg:ay->Option aA}{base:aq}
def Fun.binds{x qual:ay}{st:WJ}{f:az}{fd:Uv}{ps:List ay}(F:Fun K x qual st f fd)
(h:∀(kV doc pm:aA)(an:Option az)(cdv ct:aA)(us:List aA),us.length=ps.length->YJ (Ue x qual (fX st) (dS st) (c6 st) .none kV doc pm an cdv ct) ⟨us,[]⟩=pure (ps.zip us)):Binds K fd ps []:=by
 obtain⟨D,B,kV,doc,pm,an,cdv,ct,osl,rfl,J,q⟩:=F.ex;exact .all (h kV doc pm an cdv ct)
def HQ{x qual:ay}{st:WJ}{f:az}{B:aA}{q an:Option az}{osl:Array (Option aA)}{kV doc pm cdv ct:aA}(l:K.lookup f=aa ⟨B,q,.func (Ue x qual (fX st) (dS st) (c6 st) .none kV doc pm an cdv ct),osl⟩)
(c:V1 K cdv qual=ah)(k:TY K (.ref f)=ah):Fun K x qual st f (Ue x qual (fX st) (dS st) (c6 st) .none kV doc pm an cdv ct):=⟨⟨B,q,kV,doc,pm,an,cdv,ct,osl,rfl,l,c⟩,k⟩
end
def yt{n:Nat}(h:n<=1000):n<aj:=Nat.lt_of_le_of_lt h (by decide)
section
variable{X:Cx}
end
end L2
end
section
namespace L2
open PySem PySem.Spec PyProof.Rows
section
variable{κ:Type}[DecidableEq κ]
noncomputable def sJ(kvs:List (κ×V))(k:κ):Option V:=(kvs.find? λq=>decide (q.1=k)).map (·.2)
noncomputable def putK(kvs:List (κ×V))(k:κ)(v:V):List (κ×V) :=
 if(kvs.any λq=>decide (q.1=k))=ah then kvs.map (λq=>if q.1=k then(q.1,v)else q)else kvs++[(k,v)]
def sL{p:κ×V}{r:List (κ×V)}{k:κ}(e:p.1=k):sJ (p::r) k=aa p.2:=by simp[sJ,U5,e]
def sM{p:κ×V}{r:List (κ×V)}{k:κ}(e:¬p.1=k):sJ (p::r) k=sJ r k:=by simp[sJ,U5,e]
def KV.val{kvs:List (κ×V)}{vs:List (κ×aA)}(r:KV kvs vs)(k:κ):nE (sJ kvs k) (valueAt vs k):=by
 unfold KV at r
 induction r with
 |nil=>exact UW
 |@cons p q O B h t L =>
  obtain⟨J,M⟩:=h
  by_cases e:p.1=k
  ·have D:q.1=k:=J.symm.trans e;have b:valueAt (q::B) k=aa q.2:=by simp[valueAt,U5,D]
   rw[sL e,b];exact M
  ·have D:¬q.1=k:=λz=>e (J.trans z);have b:valueAt (q::B) k=valueAt B k:=by simp[valueAt,U5,D]
   rw[sM e,b];exact L
end
def Ao(r:RelV (kV k) u):(dH P w).is k u=ah:=by
 cases k with
 |inl i=>obtain⟨t,e⟩:=(show ∃t,u=Vs i t from r);subst e;exact r8 P w i t|inr x=>obtain⟨t,e⟩:=(show ∃t,u=X6 x t from r);subst e;exact iP P w x t
section
variable{P:So}{w:SQ}{H:Hp}{h:aq}{a:az}
def LP(ok:HOk P w H h)(e:Rd H a u):gG P w H h a u:=e.ok ok
def LQ(ok:HOk P w H h)(e:Rd H a (.dK kvs)):kvs.length<=aj/\(a==Vj)=ai/\∃vs,KV kvs vs/\h.DictOf (dH P w) a vs :=
 show gG P w H h a (.dK kvs) from LP ok e
end
section
variable{X:Cx}{zt:List (az×ao)}{σ:St}{H:Hp}{s:RV}{a:az}{y v:V}{u r:aA}{o:Option V}{A:TF}{E:aA->RV->Prop}
end
end L2
end
section
namespace BT
open PySem PySem.W PyProof.Rows
noncomputable def Ends{q:Type}(n:Nat)(P:q->Prop):KasT q->Prop
 |.ret a=>P a|.ask i j k=>i<n/\j<n/\∀b,Ends n P (k b)
end BT
end
section
namespace BS
open PySem PySem.W PySem.Spec PyProof.Rows
section
variable{E:aA->RV->Prop}
end
end BS
end
section
namespace BX
open PySem PyProof.Rows
def Ri(xs:Array Nat):Prop:=∀i j a b:Nat,i<j->xs[i]?=aa a->xs[j]?=aa b->a<b
def Aq(h:Ri xs)(j:Nat):∀(q lo hi:Nat),lo<=hi->hi<=xs.size->hi-lo<=q->(∀i a,i<lo->xs[i]?=aa a->a<j)->(∀i a,hi<=i->xs[i]?=aa a->j<=a) →
 (∀i a,i<SetTable.below.go xs j q lo hi->xs[i]?=aa a->a<j)/\(∀i a,SetTable.below.go xs j q lo hi<=i->xs[i]?=aa a->j<=a)/\SetTable.below.go xs j q lo hi<=xs.size:=by
 intro q
 induction q with
 |zero =>
  intro lo hi Y L W J D;have:lo=hi:=by lia
  subst this;exact⟨J,D,L⟩
 |succ q U =>
  intro lo hi Y L W J D
  by_cases c:lo<hi
  ·have V:(lo+hi)/2<xs.size:=by lia
   have M:xs[(lo+hi)/2]?=aa xs[(lo+hi)/2]:=SI V;have Z:xs.getD ((lo+hi)/2) j=xs[(lo+hi)/2]:=by simp[Array.getD,V]
   have e:SetTable.below.go xs j (q+1) lo hi=if xs.getD ((lo+hi)/2) j<j then SetTable.below.go xs j q ((lo+hi)/2+1) hi else SetTable.below.go xs j q lo ((lo+hi)/2):=by show(if lo<hi then _ else lo)=_;rw[bJ c]
   rw[e,Z]
   by_cases d:xs[(lo+hi)/2]<j
   ·rw[bJ d];refine U _ _ (by lia) L (by lia) (λi a O B=>?_) D;rcases Sq i ((lo+hi)/2)with z|z
    have:=h i _ a _ z B M;lia
    ·have:i=(lo+hi)/2:=by lia
     subst this;rw[M]at B;cases B;exact d
   ·rw[bK d];refine U _ _ (by lia) (by lia) (by lia) J (λi a O B=>?_);rcases Sq ((lo+hi)/2) i with z|z
    have:=h _ i _ a z M B;lia
    ·have:i=(lo+hi)/2:=by lia
     subst this;rw[M]at B;cases B;lia
  ·have e:SetTable.below.go xs j (q+1) lo hi=lo:=by show(if lo<hi then _ else lo)=_;rw[bK c]
   have:lo=hi:=by lia
   subst this;rw[e];exact⟨J,D,L⟩
def kL(h:Ri xs)(j:Nat):(∀i a,i<SetTable.below xs j->xs[i]?=aa a->a<j)/\(∀i a,SetTable.below xs j<=i->xs[i]?=aa a->j<=a)/\SetTable.below xs j<=xs.size :=
 Aq h j xs.size 0 xs.size (Tu _) (R0 _) (by lia) (λi a z=>bL z (Xr _)) (λi a z e=>by have:xs[i]?=af:=Tz z;rw[this]at e;cases e)
def lg(xs:Array α)(B:p<=xs.size)(x:α)(i:Nat):(SetTable.insertAt xs p x)[i]?=if i<p then xs[i]? else if i=p then aa x else xs[i-1]?:=by
 unfold SetTable.insertAt;have q:((xs.extract 0 p).push x).size=p+1:=by simp;lia
 by_cases c:i<p
 ·rw[bJ c,Xi (by lia),Ys,bK (by simp;lia),XX];simp;lia
 ·rw[bK c]
  by_cases d:i=p
  ·subst d;rw[bJ rfl,Xi (by lia),Ys,bJ (by simp;lia)]
  ·rw[bK d,Array.getElem?_append_right (by lia),q,XX];simp;split;congr 1;lia
   ·rename_i z
    symm
    exact Tz (by lia)
def HR(h:Ri xs)(hn:xs[SetTable.below xs j]?≠aa j):Ri (SetTable.insertAt xs (SetTable.below xs j) j):=by
 obtain⟨Y,W,f⟩:=kL h j;intro i k a b L B D;rw[lg xs f]at B D;generalize SetTable.below xs j=p at *;have d:∀i a,p<=i->xs[i]?=aa a->j<a:=λi a Z e=>by
  have:=W i a Z e;rcases Sq j a with z|z
  exact z
  ·have:a=j:=by lia
   subst this;rcases Sq p i with q|q
   ·cases J:xs[p]? with
    |none =>
     have:xs.size<=p:=by
      rcases Sq p xs.size with w|w
      rw[SI w]at J;cases J;exact w
     rw[Tz (by lia)]at e;cases e
    |some y =>
     have l:=h p i y a q J e;have g:=W p y (R0 _) J;lia
   ·have:i=p:=by lia
    subst this;exact bL e hn
 by_cases V:k<p
 ·rw[bJ V]at D;rw[bJ (by lia)]at B;exact h i k a b L B D
 ·rw[bK V]at D
  by_cases U:k=p
  ·rw[bJ U]at D;cases D;rw[bJ (by lia)]at B;exact Y i a (by lia) B
  ·rw[bK U]at D;have c:=d (k-1) b (by lia) D
   by_cases M:i<p
   ·rw[bJ M]at B;have:=Y i a M B;lia
   ·rw[bK M]at B
    by_cases O:i=p
    rw[bJ O]at B;cases B;exact c
    ·rw[bK O]at B;exact h (i-1) (k-1) a b (by lia) B D
def Ar(n:Nat):Ri (Array.range n):=by
 intro i j a b D B q;rw[Array.getElem?_range]at B q;split at B
 ·split at q;cases B;cases q;exact D;cases q
 cases B
def Eb{l:List Nat}(h:l.Pairwise (· < ·)):Ri l.toArray:=by intro i j a b q D B;simp only[Yh]at D B;obtain⟨L,rfl⟩:=List.getElem?_eq_some_iff.mp D;obtain⟨J,rfl⟩:=List.getElem?_eq_some_iff.mp B;exact List.pairwise_iff_getElem.mp h i j L J q
structure Tb(bt:Bool)(t:SetTable):Prop where
 led:t.led=!bt
 ri:Ri t.place
def As(bt:Bool):Tb bt (SetTable.fresh 0 0 (!bt)):=⟨rfl,λi j a b _ e=>by simp[SetTable.fresh]at e⟩
def lz(h:Tb bt t)(n:Nat):Tb bt (SetTable.standIn t n):=⟨h.led,Ar n⟩
def Fre(t:SetTable)(j:Nat):Prop:=t.place[SetTable.below t.place j]?≠aa j
def sN(h:t.slot j=.empty\/t.slot j=.dummy):Fre t j:=by
 intro z;have e:t.slot j=.live (SetTable.below t.place j):=by unfold SetTable.slot;simp[z]
 rw[e]at h;rcases h with h|h<;>cases h
def Au(t:SetTable)(g:Nat->Int)(h:Int):∀(B:Nat)(p:SetTable.Probe)(j:Nat)(d:Option Nat),(∀x,p.dummy=aa x->Fre t x)->SetTable.probe.go t g h B p=aa (.empty j d)->Fre t j/\∀x,d=aa x->Fre t x:=by
 intro B
 induction B with
 |zero=>intro p j d _ e;cases e
 |succ B L =>
  intro p j d M e;have O:SetTable.probe.go t g h (B+1) p=(match t.slot p.j with
   |.empty=>aa (.empty p.j p.dummy)|.dummy=>SetTable.probe.go t g h B (SetTable.advance t {p with dummy:=aa p.j})
   | .live i=>if (g i==h)=ah then aa (.candidate p.j i (SetTable.advance t p)) else SetTable.probe.go t g h B (SetTable.advance t p)):=rfl
  rw[O]at e;have J:∀q:SetTable.Probe,(SetTable.advance t q).dummy=q.dummy:=λq=>by unfold SetTable.advance;split<;>rfl
  cases s:t.slot p.j with
  |empty =>
   rw[s]at e;cases e;exact⟨sN (.inl s),M⟩
  |dummy =>
   rw[s]at e;exact L _ j d (λx D=>by rw[J]at D;cases D;exact sN (.inr s)) e
  |live i =>
   rw[s]at e;simp only at e;split at e;cases e;exact L _ j d (λx D=>by rw[J]at D;exact M x D) e
def Av(e:SetTable.freeSlot t h=aa (j,b)):Fre t j:=by
 unfold SetTable.freeSlot at e;split at e
 ·rename_i q d D;cases e;obtain⟨L,J⟩:=Au t _ h _ _ q d (λx B=>by simp[SetTable.probeStart]at B) D;cases d with
  |none=>exact L|some x=>exact J x rfl
 cases e
def HS(h:Tb bt t)(es:Array (Int×aA))(k:Int)(x:aA):Tb bt (layNew t es k x).2.1:=by
 unfold layNew;split
 ·rename_i q J e;have D:=Av e;have B:Tb bt (SetTable.put t q).1:=⟨h.led,HR h.ri D⟩;simp only;show Tb bt (SetTable.orStandIn _ _);unfold SetTable.orStandIn;split;exact B;exact lz B _
 exact lz h _
def Aw{bt:Bool}(h:Tb bt t)(es:Array (Int×aA))(n:Nat):Tb bt (relayAll t es n).2.1:=by
 unfold relayAll;split
 ·rename_i J B e;have O:Tb bt J:=by
   unfold SetTable.relaid SetTable.laid at e;cases g:SetTable.layClean (SetTable.sizeAbove n-1) (es.map λx=>x.1)with
   |none=>rw[g]at e;cases e
   |some q =>
    rw[g]at e;cases e;refine⟨h.led,Eb ?_⟩;rw[List.pairwise_map];refine List.Pairwise.filterMap _ (λa b D x M y L=>?_) List.pairwise_lt_range;obtain⟨_,_,rfl⟩:=Option.map_eq_some_iff.mp M;obtain⟨_,_,rfl⟩:=Option.map_eq_some_iff.mp L;exact D
  simp only;split;exact O;exact lz h _
 exact lz h _
section
variable{prog:So}{w:SQ}{A:TF}{E:aA->RV->Prop}{s:RV}
def pN(prog:So)(w:SQ)(bt:Bool)(h:aq)(a:az)(S:Int->Bool)(n:Nat):Prop :=
 ∃o q B t,h.get? a=aa o/\o.ExactSet/\o.data=.set q B t/\ElemsOf (intKind prog w) q.toList/\(∀k,S k=ah↔∃e∈q.toList,(intKind prog w).is k e.2=ah)/\q.size<Vq/\t.fits q.size=ah/\q.size=n/\Tb bt t
def RG{g:Bool->Sem Unit}(D:∀(b:Bool)(q:RV)(Q:Unit->RV->Prop),Q () q->av (Su prog w) A (g b) Q E q){b:Bool}{B:Type}{f:Unit->Sem B}{Q:B->RV->Prop}(h:av (Su prog w) A (f ()) Q E s):av (Su prog w) A (g b >>= f) Q E s :=
 RP (D b s _ h)
def add_int{S:Int->Bool}(hs:pN prog w bt s.heap a S n)(hn:n+1<Vq)
(I:∀b h',Tv a s.heap h'->pN prog w bt h' a (λM=>S M||decide (M=k)) (if S k=ah then n else n+1)->Q b {s with heap:=h'}):
 av (Su prog w) A (setAddHashed a (.int k tk) ((intKind prog w).hash k)) Q E s:=by
 obtain⟨o,U,ep,t,m,O,p,H,F,hb,X,rfl,ht⟩:=hs;have T:=intKind_is prog w k tk;unfold setAddHashed;refine Tf ?_;rw[setAddHashedIn.eq_def];show av _ _ (setState a >>= _) _ _ s;refine RP (Ux m p X ?_);simp only;rw[bJ (byScan_of (knd:=intKind prog w) rfl hb H)];refine RP ?_;unfold setAddByScan;refine RP (VB ?_);refine RP ?_;show av _ _ (setScanFrom a (.int k tk) ((intKind prog w).hash k) ah U.toList 0) _ _ s;refine wpAny_setScanFrom_of (knd:=intKind prog w) T m p X U.toList 0 H ?_;cases g:U.toList.findIdx? λe=>(intKind prog w).is k e.2 with
 |some j =>
  have G:S k=ah:=by obtain⟨hj,Z,_⟩:=List.findIdx?_eq_some_iff_getElem.mp g;exact(F k).mpr ⟨_,VT hj,Z⟩
  refine au (au (I _ _ (Vn _ _) ?_));rw[bJ G];refine⟨o,U,ep,t,m,O,p,H,λM=>?_,hb,X,rfl,ht⟩;rw[←F M]
  by_cases c:M=k
  subst c;simp[G];simp[c]
 |none =>
  have G:¬S k=ah:=λz=>by obtain⟨e,Z,u⟩:=(F k).mp z;have:=List.findIdx?_eq_none_iff.mp g e Z;rw[u]at this;cases this
  rw[bK G]at I;have y:=layNew_fits t U ((intKind prog w).hash k) (.int k tk);have K:=layNew_perm t U ((intKind prog w).hash k) (.int k tk);have x:=HS ht U ((intKind prog w).hash k) (.int k tk);dsimp only;generalize layNew t U ((intKind prog w).hash k) (.int k tk)=r at y K x⊢;obtain⟨q,B,v,gv⟩:=r;simp only at y K x⊢;have Y:q.toList.Perm (U.toList++[((intKind prog w).hash k,.int k tk)]):=by simpa using K
  have sz:q.size=U.size+1:=by have:=Y.length_eq;simpa using this
  have e1:=(H.push T rfl).perm Y;have R:=mem_push_iff T F Y;have z1:q.size<Vq:=by lia
  have fin:av (Su prog w) A (W0 a q B >>= λ_=>if(!v&&B.tooFull)=ah then(match relayAll B q (SetTable.grown q.size)with|(J,W,L)=>(match L with|true=>rule "set.scan.the-table-gave-way" |false=>pure ()) >>= λ_=>W0 a J W >>= λ_=>pure (aa ah))else pure (aa ah))
   (λV l=>av (Su prog w) A (match V with|some D=>pure D|none=>Yk a (.int k tk) ((intKind prog w).hash k) 99999) Q E l) E s:=by
   obtain⟨ob,_⟩:=SetOf_store m O p e1 R z1 y;refine RP (wpAny_storeSet_of m p ?_ (by rw[sz];exact Vk hn))
   by_cases c:(!v&&B.tooFull)=ah
   ·rw[bJ c];have C:=relayAll_fits B q (SetTable.grown q.size);have f:=relayAll_perm B q (SetTable.grown q.size);have N:=Aw x q (SetTable.grown q.size);generalize relayAll B q (SetTable.grown q.size)=r at C f N⊢;obtain⟨J,W,L⟩:=r;simp only at C f N⊢;have i:J.size=U.size+1:=by have:=f.length_eq;simp at this;lia
    have e2:=e1.perm f;have m2:∀M,(S M||decide (M=k))=ah↔∃e∈J.toList,(intKind prog w).is M e.2=ah:=λM=>(R M).trans ⟨λ⟨e,Z,u⟩=>⟨e,f.mem_iff.mpr Z,u⟩,λ⟨e,Z,u⟩=>⟨e,f.mem_iff.mp Z,u⟩⟩;have nx:av (Su prog w) A (W0 a J W >>= λ_=>pure (aa ah)) (λV l=>av (Su prog w) A (match V with|some D=>pure D|none=>Yk a (.int k tk) ((intKind prog w).hash k) 99999) Q E l) E {s with heap:=s.heap.update a (Obj.putSet q B)}:=by obtain⟨P,_⟩:=SetOf_store (h:=s.heap.update a (Obj.putSet q B)) ob ⟨O.1,O.2.1,O.2.2⟩ rfl e2 m2 (by lia) C;refine RP (wpAny_storeSet_of (s:={s with heap:=s.heap.update a (Obj.putSet q B)}) ob rfl ?_ (by rw[i];exact Vk hn));refine au (au (I ah _ ((SV ..).trans (SV ..)) ?_));exact⟨_,J,_,W,P,⟨O.1,O.2.1,O.2.2⟩,rfl,e2,m2,by lia,C,i,N⟩
    refine RP ?_;cases L with
    |true=>exact VB nx|false=>exact au nx
   ·rw[bK c];refine au (au (I ah _ (SV ..) ?_));exact⟨_,q,_,B,ob,⟨O.1,O.2.1,O.2.2⟩,rfl,e1,R,z1,y,sz,x⟩
  refine RP ?_;have nx:av (Su prog w) A (if B.plain=ah then hashByValue 8 (.int k tk) >>= λd=>W0 a q (if d=ah then B else { B with plain:=ai }) >>= λ_=>if (!v&&(if d=ah then B else { B with plain:=ai }).tooFull)=ah then (match relayAll (if d=ah then B else { B with plain:=ai }) q (SetTable.grown q.size) with | (J,W,L)=>(match L with | true=>rule "set.scan.the-table-gave-way" | false=>pure ()) >>= λ_=>W0 a J W >>= λ_=>pure (aa ah)) else pure (aa ah) else
   (pure ah >>= λd=>W0 a q (if d=ah then B else { B with plain:=ai }) >>= λ_=>if (!v&&(if d=ah then B else { B with plain:=ai }).tooFull)=ah then (match relayAll (if d=ah then B else { B with plain:=ai }) q (SetTable.grown q.size) with | (J,W,L)=>(match L with | true=>rule "set.scan.the-table-gave-way" | false=>pure ()) >>= λ_=>W0 a J W >>= λ_=>pure (aa ah)) else pure (aa ah)))
   (λV l=>av (Su prog w) A (match V with|some D=>pure D|none=>Yk a (.int k tk) ((intKind prog w).hash k) 99999) Q E l) E s:=by
   by_cases c:B.plain=ah
   ·rw[bJ c];refine RP ?_;rw[hashByValue.eq_def];exact au fin
   ·rw[bK c];exact RP (au fin)
  cases gv with
  |true=>refine VB ?_;exact nx|false=>refine au ?_;exact nx
end
section
variable{prog:So}{w:SQ}{A:TF}{E:aA->RV->Prop}{R:Xy->RV->Prop}
def Ax(E:A.handled=af){S:az}(hi:VG items.toList ns)(B:S≠it)(h:S≠l)(f:it≠l)(H:items.size+1<Vq):
 ∀(k i:Nat)(s:RV),items.size-i=k->i<=items.size->s.heap.IsListIter it l i->s.heap.IsList l items->pN prog w bt s.heap S (λq=>(Up (λi=>ns.getD i 0) i).any (·==q)) (Up (λi=>ns.getD i 0) i).length →
  (∀h' tk,(∀b o,b≠S->b≠it->s.heap.get? b=aa o->h'.get? b=aa o)->pN prog w bt h' S (λq=>(Up (λi=>ns.getD i 0) items.size).any (·==q)) (Up (λi=>ns.getD i 0) items.size).length->R (.ok (.ret .none)) {s with heap:=h',toks:=tk}) →
  ak (Su prog w) A (.builtin "set.update.loop" ⟨[.ref S,.ref it],[]⟩) R s:=by
 intro k
 induction k with
 |zero =>
  intro i s C g p V n m;have:i=items.size:=by lia
  subst this;refine codeAny_builtin F.entry_set_update_loop ?_;rw[TU F.plain_set_update_loop _];show av _ A.in1 (Vy (.ref it) >>= _) _ _ _;refine RP (wpAny_pyNext_list_end (A:=A.in1) E p V (Tz (R0 _)) λh' M=>?_);refine au (m h' s.toks (λb o _ J e=>M b o J e) ?_);obtain⟨o,v,x,t,u,W⟩:=n;exact⟨o,v,x,t,M S o B u,W⟩
 |succ k z =>
  intro i s C g p V n m;have O:i<items.size:=by lia
  have M:items[i]?=aa items[i]:=SI O;obtain⟨tk,ex⟩:=hi.int_at i items[i] (by simpa using M);refine codeAny_builtin F.entry_set_update_loop ?_;rw[TU F.plain_set_update_loop _];show av _ A.in1 (Vy (.ref it) >>= _) _ _ _;refine RP (wpAny_pyNext_list_item p V M λh' u W=>?_);rw[ex];have j:pN prog w bt h' S (λq=>(Up (λi=>ns.getD i 0) i).any (·==q)) (Up (λi=>ns.getD i 0) i).length:=by obtain⟨o,v,x,t,a,Z⟩:=n;exact⟨o,v,x,t,(W.2 S B).trans a,Z⟩
  have G:(Up (λi=>ns.getD i 0) i).length<=i:=firstMet_length_le _ _;refine RP (Tf ?_);unfold setAdd;refine Tf (RP (wpAny_pyHash_int ?_));refine add_int (bt:=bt) (s:={s with heap:=h',toks:=s.toks+1}) j (by lia) λb D y k2=>?_;have d:pN prog w bt D S (λq=>(Up (λi=>ns.getD i 0) (i+1)).any (·==q)) (Up (λi=>ns.getD i 0) (i+1)).length:=by
   have e1:(λq=>(Up (λi=>ns.getD i 0) (i+1)).any (·==q))=λq=>(Up (λi=>ns.getD i 0) i).any (·==q)||decide (q=ns.getD i 0):=by funext q;rw[firstMet_succ,step_any]
   rw[e1,firstMet_succ,step_length];exact k2
  have L:∀c o,c≠S->c≠it->s.heap.get? c=aa o->D.get? c=aa o:=λc o U J e=>(y.2 c U).trans ((W.2 c J).trans e);refine au ⟨plainId_quiet F.plain_set_update_loop _,z (i+1) {s with heap:=D,toks:=s.toks+1} (by lia) O ?_ ?_ d λr Y a Z=>?_⟩
  ·obtain⟨o,e1,e2⟩:=u;exact⟨o,(y.2 it (Td B)).trans e1,e2⟩
  ·obtain⟨o,e1,e2⟩:=V;exact⟨o,L l o (Td h) (Td f) e1,e2⟩
  exact m r Y (λc o U J e=>a c o U J (L c o U J e)) Z
end
section
variable{prog:So}{w:SQ}{A:TF}{E:aA->RV->Prop}{s:RV}
def lA(h:Q (w.params.followText "set-order") s):av (Su prog w) A setsByText Q E s:=by unfold setsByText;exact RP (wpAny_askSetting (au h))
def Ay{S:az}(a:A.handled=af)(q:s.heap.IsList l items)(hi:VG items.toList ns)(c:items.size+1<Vq)(L:S≠l)
(B:s.heap.get? S=aa {cls:=.type "set",data:=.set #[] 0 (SetTable.fresh 0 0 (!w.params.followText "set-order"))})
(g:∀h' tk,(∀b o,b≠S->s.heap.get? b=aa o->h'.get? b=aa o)->pN prog w (w.params.followText "set-order") h' S (λZ=>(Up (λi=>ns.getD i 0) items.size).any (·==Z)) (Up (λi=>ns.getD i 0) items.size).length->R (.ok (.ret .none)) {s with heap:=h',toks:=tk}):
 av (Su prog w) A.in1 (Builtin.«set.__init__» ⟨[.ref S,.ref l],[]⟩)
  (λfin s'=>match fin with|.done f=>R (.ok f) s'|.again O=>O.quiet=ah/\ak (Su prog w) A O R s') (λe s'=>R (.error e) s') s:=by
 have d:s.TypeIs (.ref S) "set":=⟨_,B,rfl⟩;unfold Builtin.«set.__init__»;refine RP (au ?_);dsimp only;refine RP ?_;unfold typeNameOfCut shownTypeOf;refine RP ?_;refine RP (U6 d ?_);rw[bK (by decide)];refine au ?_;show av _ _ (typeName (.type "set")) _ _ s;refine au ?_;refine RP (au ?_);refine RP (au ?_);refine RP ?_;unfold setUsed;refine RP (Ux B rfl rfl (au ?_));rw[bK (show ¬((SetTable.fresh 0 0 (!w.params.followText "set-order")).fill != 0)=ah from SE)];refine RP ?_;unfold Builtin.Frozenset.updateFrom;refine RP ?_;have M:s.TypeIs (.ref l) "list":=q.typeIs;unfold Builtin.Frozenset.isAnySet;refine RP (U3 (b:=ai) M (isSubtype_of_subB (by decide +kernel)) ?_);show av _ _ (isInstance (.ref l) (.type "frozenset")) _ _ s;refine U3 (b:=ai) M (isSubtype_of_subB (by decide +kernel)) ?_;rw[bK SE];refine RP (U6 M ?_);rw[bK (by decide)];refine RP (wpAny_pyIter_list q ?_);refine RP (wpAny_runValue ?_);have W:S<s.heap.objs.size:=R6 B;have V:l<s.heap.objs.size:=by obtain⟨o,e,_⟩:=q;exact R6 e
 have D:∀b o,s.heap.get? b=aa o->(s.heap.push {cls:=.type "list_iterator",data:=.fields #[.ref l,.int 0 0]}).get? b=aa o:=λb o e=>RT _ e;refine Ax (bt:=w.params.followText "set-order") (A:=A.in1) a hi (SA W) L (Tt V) c items.size 0 _ rfl (Tu _) ⟨_,R8 _ rfl,rfl,rfl⟩ ?_ ?_ λh' tk Y k2=>?_
 ·obtain⟨o,e,r⟩:=q;exact⟨o,D _ _ e,r⟩
 refine⟨_,#[],0,_,D _ _ B,⟨rfl,rfl,rfl⟩,rfl,λe J=>(by simp at J),λk=>⟨λz=>by simp[firstMet_zero]at z,λ⟨e,J,_⟩=>by simp at J⟩,by decide,rfl,by simp[firstMet_zero],As _⟩;refine au (au (g h' tk (λb o U e=>Y b o U (SA (R6 e)) (D b o e)) k2))
def Ec(v:aA)(h:Q₁ (.ref s.heap.objs.size) {s with heap:=s.heap.push {cls:=.type "set",data:=.set #[] 0 (SetTable.fresh 0 0 (!w.params.followText "set-order"))} }):
 ak (Su prog w) A (.call (.builtin "set.__new__") {pos:=[.type "set",v]}) (wants Q₁ E) s:=by
 refine codeAny_call_builtin (by decide +kernel) PySem.F.entry_set_new ?_;rw[PySem.F.newCall_set_1];refine au ?_;unfold Builtin.«set.__new__»;refine RP (au ?_);refine RP ?_;unfold newSet;refine RP (lA ?_);refine SL ?_ (by size_fits);exact au h
def Az(Z:A.handled=af)(O:s.heap.IsList l items)(hi:VG items.toList ns)(a:items.size+1<Vq)
(f:∀h' tk,pN prog w (w.params.followText "set-order") h' s.heap.objs.size (λJ=>(Up (λi=>ns.getD i 0) items.size).any (·==J)) (Up (λi=>ns.getD i 0) items.size).length->(∀b o,s.heap.get? b=aa o->h'.get? b=aa o)->Q (.ref s.heap.objs.size) {s with heap:=h',toks:=tk}):
 av (Su prog w) A (call (.type "set") [.ref l]) Q E s:=by
 have V:l<s.heap.objs.size:=by obtain⟨o,e,_⟩:=O;exact R6 e
 have M:∀b o,s.heap.get? b=aa o->(s.heap.push {cls:=.type "set",data:=.set #[] 0 (SetTable.fresh 0 0 (!w.params.followText "set-order"))}).get? b=aa o:=λb o e=>RT _ e;have U:(s.heap.push {cls:=.type "set",data:=.set #[] 0 (SetTable.fresh 0 0 (!w.params.followText "set-order"))}).get? s.heap.objs.size=aa {cls:=.type "set",data:=.set #[] 0 (SetTable.fresh 0 0 (!w.params.followText "set-order"))}:=R8 _ rfl;refine Xj (codeAny_of_tree ?_);show av _ _ (pure (Fin.again (.builtin "type.__call__" ⟨[.type "set",.ref l],[]⟩))) _ _ s;refine au ⟨Code.quiet_builtin _ (by decide +kernel),codeAny_builtin PySem.F.entry_type_call ?_⟩;rw[Around.under_plain (weight_type_call_type "set" [.ref l] []) rfl];unfold Builtin.«type.__call__»;dsimp only;rw[bK (by rw[PySem.F.called_set.notType];exact SE)];rw[bK (by rw[PySem.F.called_set.canCreate];exact SE)];rw[PySem.F.typeCall_set_1];refine RP (au ?_);obtain⟨c,tl,Y⟩:=PySem.F.called_set.mro;rw[Y];refine RP (au ?_);rw[bK (by simp)];rw[PySem.F.called_set.made];refine RP (au ?_);refine RP (au ?_);refine RP (Tf (Xj ?_));refine codeAny_mono (Ec (E:=E) (Q₁:=λB q=>B=.ref s.heap.objs.size/\q={s with heap:=s.heap.push {cls:=.type "set",data:=.set #[] 0 (SetTable.fresh 0 0 (!w.params.followText "set-order"))} }) _ ⟨rfl,rfl⟩) λr j h=>?_;cases r with
 |error e=>exact h
 |ok g =>
  cases g with
  |ret v =>
   obtain⟨rfl,rfl⟩:=(show _/\_ from h);have L:({s with heap:=s.heap.push {cls:=.type "set",data:=.set #[] 0 (SetTable.fresh 0 0 (!w.params.followText "set-order"))} }:RV).TypeIs (.ref s.heap.objs.size) "set":=⟨_,U,rfl⟩;refine RP (U3 (b:=ah) L PySem.F.called_set.sub ?_);rw[bK (by decide)];refine RP (Tf (SZ L PySem.F.slot_set_init (Xj ?_)));have D:∀R:Xy->RV->Prop,(∀h' tk,(∀b o,b≠s.heap.objs.size->(s.heap.push {cls:=.type "set",data:=.set #[] 0 (SetTable.fresh 0 0 (!w.params.followText "set-order"))}).get? b=aa o->h'.get? b=aa o)->pN prog w (w.params.followText "set-order") h' s.heap.objs.size (λJ=>(Up (λi=>ns.getD i 0) items.size).any (·==J)) (Up (λi=>ns.getD i 0) items.size).length->R (.ok (.ret .none)) {s with heap:=h',toks:=tk}) →
    ak (Su prog w) A.in1 (.call (.builtin "set.__init__") ⟨[.ref s.heap.objs.size,.ref l],[]⟩) R {s with heap:=s.heap.push {cls:=.type "set",data:=.set #[] 0 (SetTable.fresh 0 0 (!w.params.followText "set-order"))} }:=λR d =>
    codeAny_call_builtin (by decide +kernel) PySem.F.entry_set_init (check_set_init_1 L (Ay (prog:=prog) (w:=w) (s:={s with heap:=s.heap.push {cls:=.type "set",data:=.set #[] 0 (SetTable.fresh 0 0 (!w.params.followText "set-order"))} }) (A:=A.in1) Z (let ⟨o,e,r⟩:=O;⟨o,M _ _ e,r⟩) hi a (Tt V) U d))
   refine D _ λh' tk W k2=>?_;show av _ _ (if(T5 != T5)=ah then _ else PySem.ret (.ref s.heap.objs.size)) _ _ _;rw[bK (by decide)];exact au (f h' tk k2 λb o e=>W b o (SA (R6 e)) (M b o e))
  |_=>exact h
end
def lB:Slot "set_iterator" (Sn "__next__") "set_iterator.__next__":=Slot.of (owner:="set_iterator") (n:="__next__") (by rw[Wn,Vr];kernel_rfl) (by kernel_rfl) (by kernel_rfl) (by kernel_rfl) (.inl (by kernel_rfl)) (by rw[isSubtype_type];kernel_rfl) (by decide +kernel)
def sO:entryFor table "set_iterator.__next__"=aa Builtin.«set_iterator.__next__»:=by kernel_rfl
def uR:entryFor table "set.__iter__"=aa Builtin.«frozenset.__iter__»:=by kernel_rfl
def vZ(a:aA):argsOk "set_iterator.__next__" {pos:=[a]}:=by kernel_rfl
noncomputable def itO(first:aA)(i n ep:Nat)(a:az):ao:={cls:=.type "set_iterator",data:=.fields #[first,.int i 0,.ref a,.int n 0,.int ep 0]}
noncomputable def slotAt(pl:Array Nat):Nat->Nat
 |0=>0
 |i+1=>match pl[i]? with
  |some j=>j+1|none=>0
inductive Md(w:SQ)(h:aq)(a:az)(es:Array (Int×aA))(ep:Nat)(t:SetTable):aA->List aA->Nat->Prop
 |A{z:Int}{i:Nat}(q:w.params.followText "set-order"=ah):Md w h a es ep t (.int z 0) ((VD (w.params.setOrder a ep) es).toList.map (·.2)) i
 |B{T:az}{pl:List Nat}{i:Nat}(D:h.IsTuple T (pl.map λ(p:Nat)=>Vs p 0).toArray)(q:∀p∈pl,p<es.size):Md w h a es ep t (.ref T) (pl.filterMap λp=>es[p]?.map (·.2)) i
 |C{i:Nat}(D:w.params.followText "set-order"=ai)(B:(!t.plain&&decide (es.size>1))=ai)(q:Tb ai t):Md w h a es ep t (.int (slotAt t.place i) 0) (es.toList.map (·.2)) i
structure NX(w:SQ)(h:aq)(it a:az)(ord:List aA)(i:Nat):Prop where
 ex:∃o es ep t first,h.get? a=aa o/\o.data=.set es ep t/\t.fits es.size=ah/\h.get? it=aa (itO first i es.size ep a)/\Md w h a es ep t first ord i
def Md.at(m:Md w h a es ep t first ord i)(k:∀b o,(∃xs n,o.data=.seq xs n)->h.get? b=aa o->h'.get? b=aa o):Md w h' a es ep t first ord i:=by
 cases m with
 |A q=>exact .A q
 |B M J =>
  obtain⟨o,e,c,n,d⟩:=M;exact .B ⟨o,k _ o ⟨_,n,d⟩ e,c,n,d⟩ J
 |C q L D=>exact .C q L D
theorem eZ(f:α->Option β):∀(l:List α),(∀x∈l,(f x).isSome=ah)->∀i:Nat,(l.filterMap f)[i]?=(l[i]?).bind f
 |[],_,i=>by simp
 |x::l,h,i=>by
  obtain⟨y,q⟩:=Option.isSome_iff_exists.mp (h x Sj);rw[SC,q];cases i with
  |zero=>simp[q]|succ i=>simpa using eZ f l (λz B=>h z (Sb _ B)) i
section
variable{prog:So}{w:SQ}{A:TF}{E:aA->RV->Prop}{s:RV}
def sP{t:SetTable}{n i:Nat}(h:Ri t.place)(hn:t.place.size=n)(hi:i<n):SetTable.below t.place (slotAt t.place i)=i/\∃j,t.place[i]?=aa j/\slotAt t.place (i+1)=j+1:=by
 obtain⟨L,J,V⟩:=kL h (slotAt t.place i);have B:t.place[i]?=aa t.place[i]:=SI (by lia);refine⟨?_,t.place[i],B,by show(match t.place[i]? with|some j=>j+1|none=>0)=_;rw[B]⟩;have lo:∀k v,k<i->t.place[k]?=aa v->v<slotAt t.place i:=λk v M ev=>by
  cases i with
  |zero=>lia
  |succ i =>
   have q:t.place[i]?=aa t.place[i]:=SI (by lia);have e:slotAt t.place (i+1)=t.place[i]+1:=by show(match t.place[i]? with|some j=>j+1|none=>0)=_;rw[q]
   rw[e];rcases Sq k i with z|z
   have:=h k i v _ z ev q;lia
   ·have:k=i:=by lia
    subst this;rw[q]at ev;cases ev;lia
 have D:slotAt t.place i<=t.place[i]:=by
  cases i with
  |zero=>exact Tu _
  |succ i =>
   have q:t.place[i]?=aa t.place[i]:=SI (by lia);have e:slotAt t.place (i+1)=t.place[i]+1:=by show(match t.place[i]? with|some j=>j+1|none=>0)=_;rw[q]
   rw[e];have:=h i (i+1) _ _ (Ul _) q B;lia
 rcases Nat.lt_trichotomy (SetTable.below t.place (slotAt t.place i)) i with z|z|z
 ·have q:t.place[SetTable.below t.place (slotAt t.place i)]?=aa t.place[SetTable.below t.place (slotAt t.place i)]:=SI (by lia);have U:=lo _ _ z q;have O:=J _ _ (R0 _) q;lia
 exact z
 ·have:=L i _ z B;lia
def AA{t:SetTable}{n:Nat}(h:Ri t.place)(hn:t.place.size=n):n<=SetTable.below t.place (slotAt t.place n):=by
 obtain⟨D,B,J⟩:=kL h (slotAt t.place n);cases n with
 |zero=>exact Tu _
 |succ n =>
  have q:t.place[n]?=aa t.place[n]:=SI (by lia);have e:slotAt t.place (n+1)=t.place[n]+1:=by show(match t.place[n]? with|some j=>j+1|none=>0)=_;rw[q]
  rw[e]at D B⊢;rcases Sq n (SetTable.below t.place (t.place[n]+1))with z|z
  exact z
  ·have:=B n _ z q;lia
def AB{h:aq}{q:az}{first B:aA}{i n ep:Nat}{a:az}(e:h.get? q=aa (itO first i n ep a)):((h.update q (T4 λx=>x.setIfInBounds 0 B)).update q (T4 λx=>x.setIfInBounds 1 (.int ((i:Int)+1) 0))).get? q=aa (itO B (i+1) n ep a):=by have e1:=SB (T4 λx=>x.setIfInBounds 0 B) e rfl;have e2:=SB (T4 λx=>x.setIfInBounds 1 (.int ((i:Int)+1) 0)) e1 rfl;rw[e2];rfl
def Ed{h:aq}{q:az}{first:aA}{i n ep:Nat}{a:az}(e:h.get? q=aa (itO first i n ep a)):(h.update q (T4 λx=>x.setIfInBounds 1 (.int ((i:Int)+1) 0))).get? q=aa (itO first (i+1) n ep a):=by have e2:=SB (T4 λx=>x.setIfInBounds 1 (.int ((i:Int)+1) 0)) e rfl;rw[e2];rfl
def AC(q:s.heap.get? a=aa o)(D:o.data=.set es ep t)(B:t.fits es.size=ah)(J:w.params.followText "set-order"=ah)
(h:Q ((VD (w.params.setOrder a ep) es)[g]?.map λe=>(e.2,sl)) s):av (Su prog w) A (setNext a sl g ep) Q E s:=by
 unfold setNext;refine RP (Ux q D B ?_);dsimp only;refine RP (lA ?_);rw[bJ J,bK (by simp)];refine RP ?_;unfold setWalk;refine RP (Ux q D B ?_);dsimp only;refine RP (lA ?_);rw[bJ J];refine RP (wpAny_askSetting (au (au ?_)));exact h
def AD(D:s.heap.get? a=aa o)(L:o.data=.set es ep t)(J:t.fits es.size=ah)(M:w.params.followText "set-order"=ai)
(q:(!t.plain&&decide (es.size>1))=ai)(B:Tb ai t)(h:Q (match es[SetTable.below t.place sl]?,t.place[SetTable.below t.place sl]? with|some (_,x),aa j=>aa (x,j+1)|_,_=>af) s):av (Su prog w) A (setNext a sl g ep) Q E s:=by
 unfold setNext;refine RP (Ux D L J ?_);dsimp only;refine RP (lA ?_);rw[M,bK SE];show av _ _ (if(!t.plain&&decide (es.size>1))=ah then _ else _) _ _ s;rw[q,bK SE];refine RP ?_;show av _ _ (if(!t.led&&!es.isEmpty)=ah then unsupported "set:maker-not-led" else pure ()) _ _ s;rw[B.led];show av _ _ (if(!(!ai)&&!es.isEmpty)=ah then unsupported "set:maker-not-led" else pure ()) _ _ s;rw[bK (by simp)];exact au (au h)
def HU(q:s.heap.get? a=aa o)(J:o.data=.set es ep t)(B:t.fits es.size=ah)(D:es[p]?=aa e)(h:Q e.2 s):av (Su prog w) A (setNextDrawn a p ep) Q E s:=by unfold setNextDrawn;refine RP (Ux q J B ?_);dsimp only;rw[bK (by simp),D];exact au h
def Ef{D a:az}{ord:List aA}{i:Nat}{x:aA}{Q:PySem.Fin->RV->Prop}(N:NX w s.heap D a ord i)(W:D≠a)(Z:ord[i]?=aa x)(r:∀h',NX w h' D a ord (i+1)->Tv D s.heap h'->Q (.done (.ret x)) {s with heap:=h'}):
 av (Su prog w) A (Builtin.«set_iterator.__next__» {pos:=[.ref D]}) Q E s:=by
 obtain⟨o,L,c,t,first,V,Y,U,O,m⟩:=N.ex;have keep:∀{h':aq},Tv D s.heap h'->∀b o,(∃u n,o.data=Data.seq u n)->s.heap.get? b=aa o->h'.get? b=aa o:=λ{h'} J b ob d e=>(J.2 b (λz=>by subst z;rw[O]at e;cases e;obtain⟨u,n,d⟩:=d;cases d)).trans e
 unfold Builtin.«set_iterator.__next__»;refine RP (au ?_);refine RP (wpAny_fieldsOf O rfl ?_);dsimp only;refine RP (WH V Y U ?_);rw[bK (by simp)];cases m with
 |@A z _ g =>
  have P:(VD (w.params.setOrder a c) L)[i]?.map (λe=>(e.2,z.toNat))=aa (x,z.toNat):=by
   rw[Sv]at Z;obtain⟨e,e1,e2⟩:=Option.map_eq_some_iff.mp Z;have M:(VD (w.params.setOrder a c) L)[i]?=aa e:=by simpa using e1
   rw[M,←e2];rfl
  refine RP (AC V Y U g ?_);show av _ _ (match (VD (w.params.setOrder a c) L)[i]?.map (λe=>(e.2,z.toNat))with|some (x,next)=>_|none=>_) _ _ s;rw[P];refine RP (Us O rfl (by simp) ?_);refine RP (Us (SB _ O rfl) rfl (by simp) ?_);have J:Tv D s.heap ((s.heap.update D (T4 λy=>y.setIfInBounds 0 (.int (z.toNat:Int) 0))).update D (T4 λy=>y.setIfInBounds 1 (.int ((i:Int)+1) 0))):=(SV ..).trans (SV ..);exact au (r _ ⟨⟨o,L,c,t,_,(J.2 a (Td W)).trans V,Y,U,AB O,.A g⟩⟩ J)
 |@B T h _ F v =>
  have d:∀p∈h,((λp:Nat=>L[p]?.map (·.2)) p).isSome=ah:=λp K=>by have:=v p K;simp[this]
  rw[eZ _ h d]at Z;obtain⟨p,e1,e2⟩:=Option.bind_eq_some_iff.mp Z;obtain⟨e,e3,e4⟩:=Option.map_eq_some_iff.mp e2;subst e4;obtain⟨oT,S,g2,nT,R⟩:=id F;show av _ _ (seqItems? (.ref T) >>= _) _ _ s;refine RP (T6 S R ?_);have X:((h.map λ(p:Nat)=>Vs p 0).toArray)[i]?=aa (.int p 0):=by simp[e1]
  dsimp only;rw[TQ,X];dsimp only;refine RP (HU V Y U (by rw[TQ];exact e3) ?_);refine RP (Us O rfl (by simp) ?_);have J:Tv D s.heap (s.heap.update D (T4 λy=>y.setIfInBounds 1 (.int ((i:Int)+1) 0))):=SV ..;refine au (r _ ⟨⟨o,L,c,t,_,(J.2 a (Td W)).trans V,Y,U,Ed O,?_⟩⟩ J);exact(Md.B (i:=i+1) F v).at (keep J)
 |C g f k =>
  have hn:t.place.size=L.size:=by unfold SetTable.fits at U;simp only[RX,beq_iff_eq]at U;exact U.1
  rw[Sv]at Z;obtain⟨e,e1,e2⟩:=Option.map_eq_some_iff.mp Z;have M:L[i]?=aa e:=by simpa using e1
  have l:i<L.size:=by
   rcases Sq i L.size with q|q
   exact q;rw[Tz q]at M;cases M
  obtain⟨I,j,H,G⟩:=sP k.ri hn l;subst e2;refine RP (AD V Y U g f k ?_);rw[TQ,I,M,H];refine RP (Us O rfl (by simp) ?_);refine RP (Us (SB _ O rfl) rfl (by simp) ?_);have J:Tv D s.heap ((s.heap.update D (T4 λy=>y.setIfInBounds 0 (.int ((j+1:Nat):Int) 0))).update D (T4 λy=>y.setIfInBounds 1 (.int ((i:Int)+1) 0))):=(SV ..).trans (SV ..);refine au (r _ ⟨⟨o,L,c,t,_,(J.2 a (Td W)).trans V,Y,U,AB O,?_⟩⟩ J);rw[←G];exact .C g f k
def qN{first:aA}{i n ep:Nat}{a:az}(D:A.handled=af)(q:Tv it h0 s.heap)(hi:∃o vs,s.heap.get? it=aa o/\o.data=.fields vs/\vs.size=5)(O:f<5)
(L:∀h' e,Xg it h0 h'->(∃o,h'.get? e=aa o/\o.cls=.type "StopIteration")->E (.ref e) {s with heap:=h'}):
 av (Su prog w) A (setField (.ref it) f .none >>= λ_=>newExc (.type "StopIteration") [] >>= λe=>(raiseNew e:Sem PySem.Fin)) Q E s:=by
 obtain⟨o,vs,B,J,M⟩:=hi;refine RP (Us B J (by lia) ?_);refine RP ?_;simp only[newExc,newTuple];refine RP (SL ?_ (by size_fits));refine RP (m:=Wz _ _) (wpAny_of_eq (a:=T5) (by first|rfl|(simp only[Wz];rfl)) ?_);refine SL ?_ (by size_fits);simp only[raiseNew];refine RP (wpAny_handled ?_);rw[D];refine wpAny_throw ?_;exact L _ _ (((q.trans (SV ..)).extBut.push _).push _) ⟨_,R8 _ rfl,rfl⟩
def HV{M a:az}{ord:List aA}{i:Nat}{Q:PySem.Fin->RV->Prop}(b:A.handled=af)(N:NX w s.heap M a ord i)(V:i=ord.length)(hn:∀o es ep t,s.heap.get? a=aa o->o.data=.set es ep t->ord.length=es.size)
(g:∀h' e,Xg M s.heap h'->(∃o,h'.get? e=aa o/\o.cls=.type "StopIteration")->E (.ref e) {s with heap:=h'}):
 av (Su prog w) A (Builtin.«set_iterator.__next__» {pos:=[.ref M]}) Q E s:=by
 obtain⟨o,es,ep,t,first,O,U,J,L,m⟩:=N.ex;have l:=hn o es ep t O U;unfold Builtin.«set_iterator.__next__»;refine RP (au ?_);refine RP (wpAny_fieldsOf L rfl ?_);dsimp only;refine RP (WH O U J ?_);rw[bK (by simp)];cases m with
 |@A z _ f =>
  have v:(VD (w.params.setOrder a ep) es)[i]?.map (λe=>(e.2,z.toNat))=af:=by rw[V,Se,SG,Tz (R0 _)];rfl
  refine RP (AC O U J f ?_);show av _ _ (match (VD (w.params.setOrder a ep) es)[i]?.map (λe=>(e.2,z.toNat))with|some (x,next)=>_|none=>_) _ _ s;rw[v];exact qN (first:=.none) (i:=0) (n:=0) (ep:=0) (a:=a) b (Vn _ _) ⟨_,_,L,rfl,rfl⟩ (by decide) g
 |@B T D _ F k =>
  have W:∀p∈D,((λp:Nat=>es[p]?.map (·.2)) p).isSome=ah:=λp r=>by have:=k p r;simp[this]
  have u:i=D.length:=by
   have S:=eZ _ D W D.length;have R:=List.length_filterMap_le (λp:Nat=>es[p]?.map (·.2)) D;rcases Sq i D.length with q|q
   ·have h:=eZ _ D W i;rw[V,Si (R0 _),RY (by lia)]at h;have:=W D[(List.filterMap (λp:Nat=>es[p]?.map (·.2)) D).length] (VT _);rw[SH]at h;dsimp only at this;rw[←h]at this;cases this
   lia
  obtain⟨K,H,X,P,G⟩:=id F;show av _ _ (seqItems? (.ref T) >>= _) _ _ s;refine RP (T6 H G ?_);have I:((D.map λ(p:Nat)=>Vs p 0).toArray)[i]?=af:=by simp[u]
  dsimp only;rw[TQ,I];dsimp only;refine RP (Us L rfl (by simp) ?_);exact qN (s:={s with heap:=s.heap.update M (T4 λy=>y.setIfInBounds 0 (U1 0))}) (first:=.none) (i:=0) (n:=0) (ep:=0) (a:=a) b (SV ..) ⟨_,_,SB _ L rfl,rfl,rfl⟩ (by decide) g
 |C f c j =>
  have Y:t.place.size=es.size:=by unfold SetTable.fits at J;simp only[RX,beq_iff_eq]at J;exact J.1
  have Z:i=es.size:=by rw[V,Se,SG]
  have d:=AA j.ri Y;refine RP (AD O U J f c j ?_);have e1:es[SetTable.below t.place (slotAt t.place i)]?=af:=Tz (by rw[Z];exact d);rw[TQ,e1];exact qN (first:=.none) (i:=0) (n:=0) (ep:=0) (a:=a) b (Vn _ _) ⟨_,_,L,rfl,rfl⟩ (by decide) g
def Eg(N:NX w s.heap it a ord i)(q:it≠a)(J:ord[i]?=aa x)(M:∀h',NX w h' it a ord (i+1)->Tv it s.heap h'->Q (aa x) {s with heap:=h'}):
 av (Su prog w) A (Vy (.ref it)) Q E s:=by
 have B:s.TypeIs (.ref it) "set_iterator":=by obtain⟨o,W,Y,t,first,O,V,U,L,m⟩:=N.ex;exact⟨_,L,rfl⟩
 unfold Vy;exact RP (V4 (SZ (name:=Sn "__next__") B lB (TM lB B sO (Ef N q J λh' D k2=>⟨x,rfl,au (M h' D k2)⟩) (vZ _))))
def HW(M:A.handled=af)(N:NX w s.heap it a ord i)(J:i=ord.length)(hn:∀o es ep t,s.heap.get? a=aa o->o.data=.set es ep t->ord.length=es.size)(U:∀h',Xg it s.heap h'->Q af {s with heap:=h'}):
 av (Su prog w) A (Vy (.ref it)) Q E s:=by
 have B:s.TypeIs (.ref it) "set_iterator":=by obtain⟨o,es,ep,t,first,q,W,V,L,m⟩:=N.ex;exact⟨_,L,rfl⟩
 unfold Vy;refine RP (V4 (SZ (name:=Sn "__next__") B lB (TM lB B sO (HV (A:=A.in1) M N J hn λh' e D k2=>?_) (vZ _))));obtain⟨o,q,O⟩:=k2;refine RP (U3 (T:="StopIteration") (b:=ah) ⟨o,q,O⟩ isSubtype_stop ?_);exact au (U _ D)
theorem kM:∀{l:List α}{i:Nat}(h:i<l.length),(l[i]::l.eraseIdx i).Perm l
 |x::l,0,_=>.refl _
 |x::l,i+1,h=>by
  have q:i<l.length:=by simpa using h
  have:=kM q;show(l[i]::x::l.eraseIdx i).Perm (x::l);exact(List.Perm.swap _ _ _).trans (this.cons x)
def wp_choose(hn:n≠0)(h:∀i d,i<n->Q i {s with drawn:=d}):av (Su prog w) A (choose src n) Q E s:=by intro q p _;unfold choose;rw[Sem.wp_choose];exact⟨hn,h _ _ (WN _ (by lia))⟩
def yu:∀(n:Nat)(xs:List α)(s:RV){Q:List α->RV->Prop},xs.length=n->(∀ys d,ys.Perm xs->Q ys {s with drawn:=d})->av (Su prog w) A (drawOrder n xs) Q E s:=by
 intro n
 induction n with
 |zero =>
  intro xs s Q q h;have:=List.length_eq_zero_iff.mp q;subst this;exact au (h [] s.drawn .nil)
 |succ n D =>
  intro xs s Q q h;cases xs with
  |nil=>cases q
  |cons x r =>
   show av _ _ (choose Source.order (x::r).length >>= λi=>match (x::r)[i]? with
    |some y=>drawOrder n ((x::r).eraseIdx i) >>= λl=>pure (y::l)
    | none=>unsupported "internal:drawOrder") _ _ s
   refine RP (wp_choose (by simp) λi d B=>?_);rw[RY B];dsimp only;refine RP (D _ _ (by rw[Xu B];lia) λys L J=>?_);refine au (h _ L ?_);exact(J.cons _).trans (kM B)
def Eh(next:Nat->Nat):∀(fuel k:Nat)(left:List α)(out:Array α),left.length<=fuel->(Vm next fuel k left out).toList.Perm (out.toList++left):=by
 intro fuel
 induction fuel with
 |zero =>
  intro k left out h;have:=List.length_eq_zero_iff.mp (Nat.le_zero.mp h);subst this;show out.toList.Perm _;rw[TJ]
 |succ fuel B =>
  intro k left out h;cases left with
  |nil =>
   have e:Vm next (fuel+1) k ([]:List α) out=out:=by show(match ([]:List α)[next k%0]? with|some x=>Vm next fuel (k+1) (([]:List α).eraseIdx (next k%0)) (out.push x)|none=>out)=out;rfl
   rw[e,TJ]
  |cons x r =>
   have q:next k%(x::r).length<(x::r).length:=WN _ (by simp)
   have e:Vm next (fuel+1) k (x::r) out=Vm next fuel (k+1) ((x::r).eraseIdx (next k%(x::r).length)) (out.push (x::r)[next k%(x::r).length]):=by show(match (x::r)[next k%(x::r).length]? with|some y=>Vm next fuel (k+1) ((x::r).eraseIdx (next k%(x::r).length)) (out.push y)|none=>out)=_;rw[RY q]
   rw[e];refine(B _ _ _ (by rw[Xu q];simp at h⊢;lia)).trans ?_;rw[YU,Tg];exact(kM q).append_left _
def yv(next:Nat->Nat)(xs:Array α):(VD next xs).toList.Perm xs.toList:=by
 have:=Eh next xs.size 0 xs.toList #[] (by simp)
 simpa [VD]using this
def AE(D:s.heap.get? a=aa o)(k:o.ExactSet)(M:o.data=.set es ep t)(L:t.fits es.size=ah)(m:es.size<Vq)(h:Tb (w.params.followText "set-order") t)
(f:∀h' d V ord,NX w h' V a ord 0->(∀b o,s.heap.get? b=aa o->h'.get? b=aa o)->s.heap.objs.size<=V->s.heap.objs.size<=h'.objs.size->ord.Perm (es.toList.map (·.2))->Q (.ref V) {s with heap:=h',drawn:=d}):
 av (Su prog w) A (pyIter (.ref a)) Q E s:=by
 have j:s.TypeIs (.ref a) "set":=⟨o,D,k.1⟩;refine wpAny_pyIter_slot j XM (TM XM j uR ?_ (PySem.F.args_set_iter_1 _));unfold Builtin.«frozenset.__iter__» Builtin.Frozenset.slot0;refine RP (RP (au (au ?_)));refine RP ?_;unfold Builtin.Frozenset.sizeOf;refine RP (WH D M L (au ?_));refine RP ?_;unfold setDrawn;refine RP (Ux D M L ?_);dsimp only;refine RP (lA (au ?_));have g:Xk (.type "set_iterator") (Sn "__next__")=pure (aa (.builtin "set_iterator.__next__")):=lB.lookup;show av _ _ (if(!w.params.followText "set-order"&&(!t.plain&&decide (es.size>1)))=ah then _ else _) _ _ s;have u:a<s.heap.objs.size:=R6 D
 by_cases c:(!w.params.followText "set-order"&&(!t.plain&&decide (es.size>1)))=ah
 ·rw[bJ c];refine RP (yu es.size (Sk es.size) s (by simp) λU d W=>?_);refine RP ?_;simp only[newTuple];have l:U.length=es.size:=by rw[W.length_eq,T9]
  refine SL ?_ (by
   have:=Vk m;show (List.map (λ(i:Nat)=>U1 i) U).toArray.size<=aj;rw[RZ,Se];lia)
  refine RP (wpAny_setEpoch_of (RT _ D) M L ?_);refine RP ?_;unfold newFields;refine SL ?_ (by size_fits);refine au ⟨_,rfl,"set_iterator",_,⟨_,R8 _ rfl,rfl⟩,g,?_⟩;have J:∀b o,s.heap.get? b=aa o->((s.heap.push {cls:=.type "tuple",data:=.seq (U.map λ(i:Nat)=>U1 i).toArray}).push {cls:=.type "set_iterator",data:=.fields #[.ref s.heap.objs.size,U1 0,.ref a,U1 es.size,U1 ep]}).get? b=aa o:=λb o e=>RT _ (RT _ e);have lt:∀p∈U,p<es.size:=λp Y=>List.mem_range.mp (W.mem_iff.mp Y);refine f _ d _ _ ⟨⟨o,es,ep,t,_,J _ _ D,M,L,R8 _ rfl,.B (pl:=U) ⟨_,RT _ (R8 _ rfl),rfl,_,rfl⟩ lt⟩⟩ J (by rw[SY];exact T3 _) (by rw[SY,SY];exact Nat.le_succ_of_le (T3 _)) ?_;have r:=W.filterMap λp=>es[p]?.map (·.2);refine r.trans ?_;have n:(Sk es.size).filterMap (λp=>es[p]?.map (·.2))=es.toList.map (·.2):=by
   refine List.ext_getElem? λi=>?_;rw[eZ _ _ (λp Y=>by have:=List.mem_range.mp Y;simp[this])];rcases Sq i es.size with q|q
   rw[Vw q];simp;rw[Si (by simpa using q),Si (by simpa using q)];rfl
  rw[n]
 ·rw[bK c];refine RP (au ?_);refine RP (wpAny_setEpoch_of D M L ?_);refine RP ?_;unfold newFields;refine SL ?_ (by size_fits);refine au ⟨_,rfl,"set_iterator",_,⟨_,R8 _ rfl,rfl⟩,g,?_⟩;have J:∀b o,s.heap.get? b=aa o->(s.heap.push {cls:=.type "set_iterator",data:=.fields #[U1 0,U1 0,.ref a,U1 es.size,U1 ep]}).get? b=aa o:=λb o e=>RT _ e;cases O:w.params.followText "set-order" with
  |true =>
   refine f _ s.drawn _ _ ⟨⟨o,es,ep,t,_,J _ _ D,M,L,R8 _ rfl,.A (z:=0) O⟩⟩ J (R0 _) (by rw[SY];exact T3 _) ?_;exact(yv _ es).map _
  |false =>
   rw[O]at c h;have Z:(!t.plain&&decide (es.size>1))=ai:=by
    cases z:(!t.plain&&decide (es.size>1))with
    |false=>rfl|true=>rw[z]at c;exact bL rfl c
   exact f _ s.drawn _ _ ⟨⟨o,es,ep,t,_,J _ _ D,M,L,R8 _ rfl,.C (i:=0) O Z h⟩⟩ J (R0 _) (by rw[SY];exact T3 _) (.refl _)
end
end BX
end
section
namespace BX
open PySem PySem.Spec PyProof.Rows
section
variable{prog:So}{w:SQ}{A:TF}{E:aA->RV->Prop}{h:aq}{g:Array GenState}{d:Drawn}{t:Nat}{os:OsState}{a:az}{o:ao}
end
section
variable{prog:So}{w:SQ}{K:Type}[DecidableEq K]{knd:KeyKind prog w K}{A:TF}{E:aA->RV->Prop}{s:RV}
end
end BX
end
section
namespace BT
open PySem
def eU{P:Prop}(h:ai=ah):P:=nomatch h
def LR{P:Prop}(h:ah=ai):P:=nomatch h
def fP{q:Type}{a:q}{P:Prop}(h:(af:Option q)=aa a):P:=nomatch h
inductive D
 |aD|bl(b:Bool)|int(i:Int)|str(x:ay)|aC(xs:List D)|aB(xs:List D)
inductive FK
 |f(x:ay)|m(c x:ay)|l(i:Nat)
 deriving DecidableEq
instance:Coe String FK:=⟨λs=>.f (Sn s)⟩
inductive Cp
 |p(d:D)|o(n:Nat)
noncomputable abbrev Ky:=Int ⊕ ay
inductive Kd
 |t(kvs:List (ay×D))|l(kvs:List (Ky×D))
inductive W
 |p(d:D)|r(n:Nat)|k(kvs:Kd)|o(n:Nat)|c(f:FK)(q:List Cp)|x(c:ay)
noncomputable def Cp.w:Cp->W
 |.p d=>.p d|.o n=>.o n
@[simp]theorem Cp.w_p(d:D):Cp.w (.p d)=.p d:=rfl
@[simp]theorem Cp.w_o(n:Nat):Cp.w (.o n)=.o n:=rfl
noncomputable def v7:W->Option Cp
 |.p d=>aa (.p d)|.o n=>aa (.o n)|.r _=>af|.k _=>af|.c _ _=>af|.x _=>af
@[simp]theorem NU(d:D):v7 (.p d)=aa (.p d):=rfl
@[simp]theorem NV(n:Nat):v7 (.o n)=aa (.o n):=rfl
inductive Cl
 |l(xs:List D)|o(c:ay)(fs:List (ay×W))|d(kvs:List (Ky×D))|z|b(ns:List Nat)
noncomputable abbrev HH:=List Cl
noncomputable abbrev Sl:=List (Option W)
set_option genInjectivity false in
inductive Bin
 |add|sub|mul|mod|fdiv
set_option genInjectivity false in
inductive Cm
 |eq|ne|lt|le|gt|ge|isN|notN|mem|nmem
set_option genInjectivity false in
inductive Sr
 |seq|rng1|rng2|rev|enu|zip2|rng3|itm|chs|zipG
inductive Bi
 |len|int|str|list|tuple|all|isInt|isBool|isStr|isTuple|min2|max2
 |sum|sorted|max1|lzip|sset|min1
set_option genInjectivity false in
inductive Me
 |append|pop|extend|tindex|sindex|dget|count|lindex
inductive Tx
 |join|split|str|intS|all|inS|ninS|dget|pre
inductive Dk
 |of|ks|so|it
set_option genInjectivity false in
mutual
inductive E
 |v(i:Nat)
 |j(d:D)
 |aE(x:ay)
 |bin(o:Bin)(a b:E)
 |neg(a:E)
 |not(a:E)
 |and(a b:E)
 |or(a b:E)
 |z(o:Cm)(a b:E)
 |chain(o o':Cm)(a b c:E)
 |ite(c a b:E)
 |aC(as:Es)
 |aB(mu:Bool)(as:Es)
 |y(a i:E)
 |n(a:E)(lo hi:Es)
 |rvs(a:E)
 |stp(mu:Bool)(k:Int)(a:E)
 |call(f:ay)(as:Es)
 |i(a:E)(f:ay)
 |aF(o:E)(m:ay)(as:Es)
 |make(c:ay)(as:Es)
 |bi(b:Bi)(mu:Bool)(as:Es)
 |lsr(mu:Bool)(q:Sr)(as:Es)
 |me(m:Me)(o:E)(as:Es)
 |comp(mu:Bool)(J:Sr)(B:Es)(tg:List ay)(D:List (Nat×ay))(cond:Es)(q:E)
 |callv(i:Nat)(as:Es)
 |methL(o:E)(m:ay)(as:Es)(L:Nat)(q:List (Nat×ay))
 |obl(a:E)
 |oba(o a:E)
 |obi(o i:E)
 |obn(o:E)
 |sup(c:ay)(as:Es)
inductive Es
 |nil
 |cons(a:E)(as:Es)
end
set_option genInjectivity false in
inductive S
 |nil
 |seq(a b:S)
 |set(i:Nat)(e:E)
 |unp(xs:List (Nat×ay))(e:E)
 |aug(i:Nat)(o:Bin)(e:E)
 |put(i:Nat)(k e:E)
 |setf(o:E)(f:ay)(e:E)
 |augf(o:E)(f:ay)(q:Bin)(e:E)
 |ex(e:E)
 |ret(e:E)
 |v(c:E)(a b:S)
 |j(c:E)(b:S)
 |for(tg:List (Nat×ay))(B:Sr)(q:Es)(b:S)
 |brk|cnt
 |bad
 |rai(c:ay)(e:E)
set_option genInjectivity false in
structure Fn where
 ps:List ay
 ns:List ay
 body:S
noncomputable abbrev Z9(a:E):Es:=.cons a .nil
noncomputable abbrev Z8(a b:E):Es:=.cons a (.cons b .nil)
noncomputable abbrev Z7(a b c:E):Es:=.cons a (.cons b (.cons c .nil))
noncomputable abbrev Z6(a b c d:E):Es:=.cons a (.cons b (.cons c (.cons d .nil)))
noncomputable abbrev Z5(a b c d e:E):Es:=.cons a (.cons b (.cons c (.cons d (.cons e .nil))))
noncomputable abbrev Z4(a b c d e f:E):Es:=.cons a (.cons b (.cons c (.cons d (.cons e (.cons f .nil)))))
noncomputable abbrev Z2(a b c d e f g h:E):Es:=.cons a (.cons b (.cons c (.cons d (.cons e (.cons f (.cons g (.cons h .nil)))))))
noncomputable def bnd{B q:Type}(x:Option (B×HH))(k:B->HH->Option q):Option q :=
 match x with|some (a,h)=>k a h|none=>af
@[simp]theorem d9(a:α)(h:HH)(k:α->HH->Option β):bnd (aa (a,h)) k=k a h:=rfl
@[simp]theorem LS(k:α->HH->Option β):bnd af k=af:=rfl
@[simp]noncomputable def lim:Nat:=100000
mutual
@[simp]noncomputable def eqv:D->D->Bool
 |.aD,.aD=>ah|.bl a,.bl b=>a==b|.bl a,.int j=>(if a then(1:Int)else 0)==j|.int i,.bl b=>i==(if b then(1:Int)else 0)|.int i,.int j=>i==j|.str x,.str y=>x==y|.aC xs,.aC ys=>pO xs ys|.aB xs,.aB ys=>pO xs ys|_,_=>ai
@[simp]noncomputable def pO:List D->List D->Bool
 |[],[]=>ah|x::xs,y::ys=>eqv x y&&pO xs ys|_,_=>ai
end
noncomputable def nN:Cl->Option (List D)
 |.l q=>aa q|.o _ _=>af|.d _=>af|.z=>af|.b _=>af
def pP:Cl->Option (ay×List (ay×W))
 |.l _=>af|.o c fs=>aa (c,fs)|.d _=>af|.z=>af|.b _=>af
noncomputable def yw:Cl->Option (List (Ky×D))
 |.l _=>af|.o _ _=>af|.d q=>aa q|.z=>af|.b _=>af
noncomputable def mR:Cl->Option (List Nat)
 |.b q=>aa q|_=>af
@[simp]theorem Pb(ns:List Nat):nN (.b ns)=af:=rfl
@[simp]theorem Pc(ns:List Nat):pP (.b ns)=af:=rfl
@[simp]theorem Pd(ns:List Nat):yw (.b ns)=af:=rfl
@[simp]theorem NW(ns:List Nat):mR (.b ns)=aa ns:=rfl
@[simp]theorem NY(xs:List D):mR (.l xs)=af:=rfl
@[simp]theorem NZ(c:ay)(fs:List (ay×W)):mR (.o c fs)=af:=rfl
@[simp]theorem Pe(kvs:List (Ky×D)):nN (.d kvs)=af:=rfl
@[simp]theorem Pf(kvs:List (Ky×D)):pP (.d kvs)=af:=rfl
@[simp]theorem Ph(kvs:List (Ky×D)):yw (.d kvs)=aa kvs:=rfl
@[simp]theorem Pi:nN .z=af:=rfl
@[simp]theorem Pj:pP .z=af:=rfl
@[simp]theorem Pk:yw .z=af:=rfl
@[simp]theorem Pn(xs:List D):yw (.l xs)=af:=rfl
@[simp]theorem Po(c:ay)(fs:List (ay×W)):yw (.o c fs)=af:=rfl
@[simp]theorem HX(xs:List D):nN (.l xs)=aa xs:=rfl
@[simp]theorem Pp(c:ay)(fs:List (ay×W)):nN (.o c fs)=af:=rfl
@[simp]theorem Pq(xs:List D):pP (.l xs)=af:=rfl
@[simp]theorem HY(c:ay)(fs:List (ay×W)):pP (.o c fs)=aa (c,fs):=rfl
def lat(h:HH)(n:Nat):Option (List D):=(h[n]?).bind nN
def oat(h:HH)(n:Nat):Option (ay×List (ay×W)):=(h[n]?).bind pP
def dat(h:HH)(n:Nat):Option (List (Ky×D)):=(h[n]?).bind yw
def bat(h:HH)(n:Nat):Option (List Nat):=(h[n]?).bind mR
noncomputable def pQ:D->Option Ky
 |.aD=>af|.bl _=>af|.int i=>aa (.inl i)|.str x=>aa (.inr x)|.aC _=>af|.aB _=>af
@[simp]theorem LU(i:Int):pQ (.int i)=aa (.inl i):=rfl
@[simp]theorem LV(x:ay):pQ (.str x)=aa (.inr x):=rfl
noncomputable def HZ:Ky->D
 |.inl i=>.int i|.inr x=>.str x
@[simp]theorem Pr(i:Int):HZ (.inl i)=.int i:=rfl
@[simp]theorem Pu(x:ay):HZ (.inr x)=.str x:=rfl
noncomputable def fZ(kvs:List (Ky×D))(k:Ky):Option D:=(kvs.find? λq=>decide (q.1=k)).map (·.2)
noncomputable def GE(kvs:List (Ky×D))(k:Ky)(v:D):List (Ky×D) :=
 if(kvs.any λq=>decide (q.1=k))=ah then kvs.map (λq=>if q.1=k then(q.1,v)else q)else kvs++[(k,v)]
def rd(w:W)(h:HH):Option D:=match w with
 |.p d=>aa d|.r n=>(lat h n).map D.aB|.k _=>af|.o _=>af|.c _ _=>af|.x _=>af
@[simp]theorem RI(d:D)(h:HH):rd (.p d) h=aa d:=rfl
noncomputable def big(i:Int):Bool:=decide (i.natAbs<2^64)
noncomputable def rep(k:Nat)(xs:List D):List D:=(Sw k xs).flatten
def kH:Bin->D->D->Option D
 |.add,.int i,.int j=>aa (.int (i+j))
 |.add,.str x,.str y=>if x.length+y.length<=lim then aa (.str (x++y))else af
 |.add,.aC xs,.aC ys=>if xs.length+ys.length<=lim then aa (.aC (xs++ys))else af
 |.add,.aB xs,.aB ys=>if xs.length+ys.length<=lim then aa (.aB (xs++ys))else af
 |.sub,.int i,.int j=>aa (.int (i-j))
 |.mul,.int i,.int j=>if big i||big j then aa (.int (i*j))else af
 |.mul,.aC xs,.int k=>if 2<=k&&k<=1000&&!xs.isEmpty&&xs.length*k.toNat<=lim then aa (.aC (rep k.toNat xs))else af
 |.mul,.aB xs,.int k=>if -1000<=k&&k<=1000&&xs.length*k.toNat<=lim then aa (.aB (rep k.toNat xs))else af
 |.mod,.int i,.int j=>if 0<j then aa (.int (i%j))else af
 |.fdiv,.int i,.int j=>if 0<j&&j<1073741824 then aa (.int (i/j))else af
 |_,_,_=>af
def nO:Bin->D->D->Option D
 |.add,.int i,.int j=>aa (.int (i+j))|.sub,.int i,.int j=>aa (.int (i-j))
 |.mul,.int i,.int j=>if big i||big j then aa (.int (i*j))else af
 |_,_,_=>af
@[simp]theorem LW(i j:Int):nO .add (.int i) (.int j)=aa (.int (i+j)):=rfl
@[simp]theorem LY(i j:Int):nO .sub (.int i) (.int j)=aa (.int (i-j)):=rfl
@[simp]theorem sR(i j:Int):nO .mul (.int i) (.int j)=if big i||big j then aa (.int (i*j))else af:=rfl
@[simp]noncomputable def place(n:Nat)(i:Int):Option Nat :=
 if 0<=i then(if i<n then aa i.toNat else af)else if -(n:Int)<=i then aa (i+n).toNat else af
@[simp]def atP{q:Type}(xs:List q)(i:Int):Option q:=(place xs.length i).bind λj=>xs[j]?
@[simp]noncomputable def fy(k:ay):List (ay×D)->Option D
 |[]=>af
 |(x,d)::r=>if k=x then aa d else fy k r
def dI:D->D->Option D
 |.aC xs,.int i=>atP xs i|.aB xs,.int i=>atP xs i
 |.str x,.int i=>if x.length<=lim then(atP x.cps.toList i).map λc=>.str ⟨#[c]⟩else af
 |_,_=>af
@[simp]noncomputable def clip(n d:Nat):Option Int->Nat
 |none=>d
 |some v=>if v<0 then(v+(n:Int)).toNat else if v<=(n:Int)then v.toNat else n
@[simp]def cut(xs:List D)(lo hi:Option Int):List D:=(xs.drop (clip xs.length 0 lo)).take (clip xs.length xs.length hi-clip xs.length 0 lo)
@[simp]noncomputable def qO:List D->Option (Option Int)
 |[]=>aa af|[.int i]=>aa (aa i)|_=>af
def uS(x:D)(lo hi:Option Int):Option D:=match x with
 |.aC q=>aa (.aC (cut q lo hi))|.aB q=>aa (.aB (cut q lo hi))|_=>af
noncomputable def dok:Nat->D->Bool
 |_,.aD=>ah|_,.bl _=>ah|_,.int _=>ah|_,.str _=>ah|0,.aC _=>ai|0,.aB _=>ai|n+1,.aC xs=>xs.all (dok n)|n+1,.aB xs=>xs.all (dok n)
@[simp]theorem N1(n:Nat):dok n .aD=ah:=by cases n<;>rfl
@[simp]theorem Pv(n:Nat)(b:Bool):dok n (.bl b)=ah:=by cases n<;>rfl
@[simp]theorem lC(n:Nat)(i:Int):dok n (.int i)=ah:=by cases n<;>rfl
@[simp]theorem N2(n:Nat)(x:ay):dok n (.str x)=ah:=by cases n<;>rfl
@[simp]theorem v8(n:Nat)(xs:List D):dok (n+1) (.aC xs)=xs.all (dok n):=rfl
@[simp]theorem v9(n:Nat)(xs:List D):dok (n+1) (.aB xs)=xs.all (dok n):=rfl
def ef(x y:D):Bool:=dok 100 x||dok 100 y
@[simp]theorem LZ(x:D)(y:ay):ef x (.str y)=ah:=by simp[ef]
@[simp]theorem L0(x:D)(y:Int):ef x (.int y)=ah:=by simp[ef]
@[simp]theorem Kv(x:D)(y:ay):ef (.str y) x=ah:=by simp[ef]
@[simp]theorem Kw(x:D)(y:Int):ef (.int y) x=ah:=by simp[ef]
@[simp]theorem Kx(x:D):ef x (.aC [])=ah:=by simp[ef,dok]
@[simp]theorem Kz(x:D):ef x (.aB [])=ah:=by simp[ef,dok]
@[simp]theorem N3(x:D)(b:Bool):ef x (.bl b)=ah:=by simp[ef]
def jI(h:dok 100 y=ah):ef x y=ah:=by simp[ef,h]
noncomputable def jJ:D->Bool
 |.aD=>ah|.bl _=>ai|.int _=>ai|.str _=>ai|.aC _=>ai|.aB _=>ai
@[simp]theorem KA:jJ .aD=ah:=rfl
@[simp]theorem L1(z:Bool):jJ (.bl z)=ai:=rfl
@[simp]theorem KB(z:Int):jJ (.int z)=ai:=rfl
@[simp]theorem KC(z:ay):jJ (.str z)=ai:=rfl
@[simp]theorem KG(z:List D):jJ (.aC z)=ai:=rfl
@[simp]theorem KH(z:List D):jJ (.aB z)=ai:=rfl
noncomputable def qP(b:Bool):D->Bool
 |.aD=>ai|.bl c=>c==b|.int _=>ai|.str _=>ai|.aC _=>ai|.aB _=>ai
@[simp]theorem L3(b:Bool):qP b .aD=ai:=rfl
@[simp]theorem N4(b z:Bool):qP b (.bl z)=(z==b):=rfl
@[simp]theorem L4(b:Bool)(z:Int):qP b (.int z)=ai:=rfl
@[simp]theorem L5(b:Bool)(z:ay):qP b (.str z)=ai:=rfl
@[simp]theorem L6(b:Bool)(z:List D):qP b (.aC z)=ai:=rfl
@[simp]theorem L7(b:Bool)(z:List D):qP b (.aB z)=ai:=rfl
def gB:Cm->D->D->Option Bool
 |.eq,x,y=>if ef x y then aa (eqv x y)else af
 |.ne,x,y=>if ef x y then aa (!eqv x y)else af
 |.lt,.int i,.int j=>aa (decide (i<j))|.le,.int i,.int j=>aa (decide (i<=j))|.gt,.int i,.int j=>aa (decide (j<i))|.ge,.int i,.int j=>aa (decide (j<=i))|.isN,x,.aD=>aa (jJ x)|.notN,x,.aD=>aa (!jJ x)|.notN,x,.bl b=>aa (!qP b x)
 |.mem,x,.aC ys=>if ys.all λy=>ef y x then aa (ys.any λy=>eqv y x)else af
 |.mem,x,.aB ys=>if ys.all λy=>ef y x then aa (ys.any λy=>eqv y x)else af
 |.nmem,x,.aC ys=>if ys.all λy=>ef y x then aa (!ys.any λy=>eqv y x)else af
 |.nmem,x,.aB ys=>if ys.all λy=>ef y x then aa (!ys.any λy=>eqv y x)else af
 |_,_,_=>af
@[simp]noncomputable def intsOf:List D->Option (List Int)
 |[]=>aa []|.int i::r=>(intsOf r).map (i :: ·)|_=>af
@[simp]noncomputable def allB:List D->Option Bool
 |[]=>aa ah
 |.bl b::r=>if b then allB r else aa ai
 |_=>af
@[simp]noncomputable def anyB:List D->Option Bool
 |[]=>aa ai
 |.bl b::r=>if b then aa ah else anyB r
 |_=>af
noncomputable def isI:D->Bool
 |.aD=>ai|.bl _=>ah|.int _=>ah|.str _=>ai|.aC _=>ai|.aB _=>ai
@[simp]theorem N5:isI .aD=ai:=rfl
@[simp]theorem Pw(z:Bool):isI (.bl z)=ah:=rfl
@[simp]theorem N6(z:Int):isI (.int z)=ah:=rfl
@[simp]theorem N7(z:ay):isI (.str z)=ai:=rfl
@[simp]theorem N8(z:List D):isI (.aC z)=ai:=rfl
@[simp]theorem N9(z:List D):isI (.aB z)=ai:=rfl
noncomputable def isB:D->Bool
 |.aD=>ai|.bl _=>ah|.int _=>ai|.str _=>ai|.aC _=>ai|.aB _=>ai
@[simp]theorem Oa:isB .aD=ai:=rfl
@[simp]theorem Px(z:Bool):isB (.bl z)=ah:=rfl
@[simp]theorem Ob(z:Int):isB (.int z)=ai:=rfl
@[simp]theorem Oc(z:ay):isB (.str z)=ai:=rfl
@[simp]theorem Od(z:List D):isB (.aC z)=ai:=rfl
@[simp]theorem Oe(z:List D):isB (.aB z)=ai:=rfl
noncomputable def isS:D->Bool
 |.aD=>ai|.bl _=>ai|.int _=>ai|.str _=>ah|.aC _=>ai|.aB _=>ai
@[simp]theorem Of:isS .aD=ai:=rfl
@[simp]theorem Py(z:Bool):isS (.bl z)=ai:=rfl
@[simp]theorem Og(z:Int):isS (.int z)=ai:=rfl
@[simp]theorem Oh(z:ay):isS (.str z)=ah:=rfl
@[simp]theorem Oi(z:List D):isS (.aC z)=ai:=rfl
@[simp]theorem Oj(z:List D):isS (.aB z)=ai:=rfl
noncomputable def isT:D->Bool
 |.aD=>ai|.bl _=>ai|.int _=>ai|.str _=>ai|.aC _=>ah|.aB _=>ai
@[simp]theorem Ol:isT .aD=ai:=rfl
@[simp]theorem Pz(z:Bool):isT (.bl z)=ai:=rfl
@[simp]theorem Om(z:Int):isT (.int z)=ai:=rfl
@[simp]theorem On(z:ay):isT (.str z)=ai:=rfl
@[simp]theorem Oo(z:List D):isT (.aC z)=ah:=rfl
@[simp]theorem Oq(z:List D):isT (.aB z)=ai:=rfl
noncomputable def isL:D->Bool
 |.aD=>ai|.bl _=>ai|.int _=>ai|.str _=>ai|.aC _=>ai|.aB _=>ah
noncomputable def sortI(ns:List Int):List Int:=ns.mergeSort λa b=>decide (a<=b)
noncomputable def Ia:List Int->Option Int
 |[]=>af|n::ns=>aa (ns.foldl max n)
noncomputable def Ib:List Int->Option Int
 |[]=>af|n::ns=>aa (ns.foldl min n)
@[simp]noncomputable def sU:List D->List D->List D
 |x::xs,y::ys=>.aC [x,y]::sU xs ys|_,_=>[]
noncomputable def ded(ns:List Int):List Int:=ns.foldl (fun q v=>if q.any (·==v)then q else q++[v]) []
noncomputable def Rc(a b c:Int):Nat:=if a<b then((b-a-1)/c+1).toNat else 0
noncomputable def stepI(a c:Int)(n:Nat):List Int:=(Sk n).map λ(k:Nat)=>a+(k:Int)*c
def biD:Bi->List D->Option D
 |.len,[.aC xs]=>aa (.int xs.length)|.len,[.aB xs]=>aa (.int xs.length)
 |.len,[.str x]=>if x.length<=lim then aa (.int x.length)else af
 |.int,[.int i]=>aa (.int i)|.int,[.bl b]=>aa (.int (if b then 1 else 0))
 |.str,[.int i]=>if big i then aa (.str (toString i))else af
 |.tuple,[.aB xs]=>aa (.aC xs)|.tuple,[.aC xs]=>aa (.aC xs)|.list,[.aB xs]=>aa (.aB xs)|.list,[.aC xs]=>aa (.aB xs)|.all,[.aB xs]=>(allB xs).map .bl|.isInt,[x]=>aa (.bl (isI x))|.isBool,[x]=>aa (.bl (isB x))|.isStr,[x]=>aa (.bl (isS x))|.isTuple,[x]=>aa (.bl (isT x))|.min2,[.int i,.int j]=>aa (.int (if j<i then j else i))|.max2,[.int i,.int j]=>aa (.int (if j>i then j else i))
 |.sorted,[.aB xs]=>(intsOf xs).bind λq=>if q.length<64 then aa (.aB ((sortI q).map .int))else af
 |.max1,[.aB xs]=>(intsOf xs).bind λq=>(Ia q).map .int
 |.sum,[.aB xs]=>(intsOf xs).map λq=>.int q.sum
 |.sset,[.aB xs]=>(intsOf xs).bind λq=>if q.length<64 then aa (.aB ((sortI (ded q)).map .int))else af
 |.lzip,[.aC xs,.aC ys]=>if 0<xs.length/\xs.length=ys.length then aa (.aB (sU xs ys))else af
 |.min1,[.aB xs]=>(intsOf xs).bind λq=>(Ib q).map .int
 |_,_=>af
@[simp]noncomputable def qm:Nat->List D->List D
 |_,[]=>[]|k,x::r=>.aC [.int k,x]::qm (k+1) r
noncomputable def qQ:D->Option (List D)
 |.aC q=>aa q|.aB q=>aa q|_=>af
noncomputable def upto(lo:Int)(n:Nat):List D:=(Sk n).map λ(k:Nat)=>D.int (lo+(k:Int))
noncomputable def down(a:Int)(n:Nat):List D:=(Sk n).map λi=>.int (a-(i:Nat))
noncomputable def Ic(x:ay):List D:=x.cps.toList.map λc=>.str ⟨#[c]⟩
def Ei:D->Option (List D)
 |.aC q=>aa q|.aB q=>aa q|.str x=>aa (Ic x)|_=>af
def gH:Sr->List D->Option (List D)
 |.seq,[x]=>qQ x
 |.rng1,[.int n]=>if -100000<=n&&n<=100000 then aa (upto 0 n.toNat)else af
 |.rng2,[.int a,.int b]=>if -100000<=a&&a<=100000&&-100000<=b&&b<=100000 then aa (upto a (b-a).toNat)else af
 |.rev,[.aB q]=>aa q.reverse|.enu,[.aB q]=>aa (qm 0 q)|.zip2,[.aB q,.aB ys]=>aa (sU q ys)|.itm,[.aB q]=>aa q|.chs,[.str x]=>aa (Ic x)
 |.zipG,[x,y]=>(Ei x).bind λq=>(Ei y).map (sU q)
 |.rng3,[.int a,.int b,.int c]=>if c=-1/\-100000<=a/\a<=100000/\-100000<=b/\b<=100000 then aa (down a (a-b).toNat)else af
 |_,_=>af
@[simp]def jK(x:D):List D->Nat->Option Nat
 |[],_=>af
 |y::r,k=>if eqv y x then aa k else jK x r (k+1)
@[simp]noncomputable def L8(c:Nat):List Nat->Nat->Option Nat
 |[],_=>af
 |y::r,k=>if y=c then aa k else L8 c r (k+1)
@[simp]noncomputable def dN:List W->Option (List D)
 |[]=>aa []|.p d::r=>(dN r).map (d :: ·)|.r _::_=>af|.k _::_=>af|.o _::_=>af|.c _ _::_=>af|.x _::_=>af
def meD:Me->D->List D->Option D
 |.tindex,.aC xs,[x]=>if xs.all λy=>ef y x then(jK x xs 0).map λ(q:Nat)=>D.int (q:Int)else af
 |.sindex,.str x,[.str y]=>match UR x y 0 x.length 1 with
  |i::_=>aa (.int (i:Int))|[]=>af
 |.count,.aB xs,[x]=>if xs.all λy=>ef y x then aa (.int ((xs.countP λy=>eqv y x:Nat):Int))else af
 |.lindex,.aB xs,[x]=>if xs.all λy=>ef y x then(jK x xs 0).map λ(q:Nat)=>D.int (q:Int)else af
 |_,_,_=>af
theorem AF:meD .count (.aB xs) [x]=if xs.all λy=>ef y x then aa (.int ((xs.countP λy=>eqv y x:Nat):Int))else af:=rfl
theorem AG:meD .tindex (.aC xs) [x]=if xs.all λy=>ef y x then(jK x xs 0).map λ(q:Nat)=>D.int (q:Int)else af:=rfl
theorem AH:meD .sindex (.str x) [.str y]=match UR x y 0 x.length 1 with
 |i::_=>aa (.int (i:Int))|[]=>af:=rfl
def meW(m:Me)(o:W)(as:List W)(h:HH):Option (W×HH):=match m,o,as with
 |.append,.r n,[.p d]=>match lat h n with
  |some q=>if q.length<lim then aa (.p .aD,h.set n (.l (q++[d])))else af
  |none=>af
 |.pop,.r n,[]=>match lat h n with
  |some q=>match q.getLast? with
   |some d=>aa (.p d,h.set n (.l q.dropLast))|none=>af
  |none=>af
 |.extend,.r n,[w]=>match lat h n,(rd w h).bind qQ with
  |some q,aa ys=>if q.length+ys.length<=lim then aa (.p .aD,h.set n (.l (q++ys)))else af
  |_,_=>af
 |.dget,.k (.t kvs),[.p (.str x)]=>aa (.p ((fy x kvs).getD .aD),h)|.dget,.k (.t _),[.p .aD]=>aa (.p .aD,h)|.dget,.k (.t kvs),[.p (.str x),.p d]=>aa (.p ((fy x kvs).getD d),h)
 |m,.p d,as=>match dN as with
  |some B=>(meD m d B).map λx=>(.p x,h)
  |none=>af
 |_,_,_=>af
section
variable(n:Nat)(d:D)(h:HH)(kvs:List (ay×D))(x:ay)(as:List W)
@[simp]theorem iE:meW .append (.r n) [.p d] h=match lat h n with
 |some q=>if q.length<lim then aa (.p .aD,h.set n (.l (q++[d])))else af
 |none=>af:=rfl
@[simp]theorem Ej:meW .pop (.r n) [] h=match lat h n with
 |some q=>match q.getLast? with
  |some d=>aa (.p d,h.set n (.l q.dropLast))|none=>af
 |none=>af:=rfl
@[simp]theorem uT(w:W):meW .extend (.r n) [w] h=match lat h n,(rd w h).bind qQ with
 |some xs,aa ys=>if xs.length+ys.length<=lim then aa (.p .aD,h.set n (.l (xs++ys)))else af
 |_,_=>af:=rfl
@[simp]theorem nP:meW .tindex (.p d) as h=match dN as with
 |some q=>(meD .tindex d q).map λx=>(.p x,h)
 |none=>af:=rfl
@[simp]theorem yx:meW .count (.p d) as h=match dN as with
 |some q=>(meD .count d q).map λx=>(.p x,h)
 |none=>af:=rfl
@[simp]theorem Ie:meW .lindex (.p d) as h=match dN as with
 |some q=>(meD .lindex d q).map λx=>(.p x,h)
 |none=>af:=rfl
@[simp]theorem nQ:meW .sindex (.p d) as h=match dN as with
 |some q=>(meD .sindex d q).map λx=>(.p x,h)
 |none=>af:=rfl
end
noncomputable def new(mu:Bool)(xs:List D)(h:HH):W×HH:=if mu then(.r h.length,h++[.l xs])else(.p (.aB xs),h)
@[simp]theorem Re(xs:List D)(h:HH):new ai xs h=(.p (.aB xs),h):=rfl
@[simp]theorem Rf(xs:List D)(h:HH):new ah xs h=(.r h.length,h++[.l xs]):=rfl
@[simp]def rds(ws:List W)(h:HH):Option (List D):=match ws with
 |[]=>aa []
 |w::r=>(rd w h).bind λd=>(rds r h).map (d :: ·)
noncomputable def unpack(n:Nat):D->Option (List D)
 |.aC q=>if q.length=n then aa q else af
 |.aB q=>if q.length=n then aa q else af
 |_=>af
def target(n:Nat)(d:D):Option (List D):=if n=1 then aa [d]else unpack n d
section
variable(i j k a b:Int)(c:Bool)(x y:ay)(xs ys:List D)(kvs:List (ay×D))(d e:D)(lo hi:Option Int)
@[simp]theorem sV:kH .add (.int i) (.int j)=aa (.int (i+j)):=rfl
@[simp]theorem nR:kH .add (.str x) (.str y)=if x.length+y.length<=lim then aa (.str (x++y))else af:=rfl
@[simp]theorem nU:kH .add (.aC xs) (.aC ys)=if xs.length+ys.length<=lim then aa (.aC (xs++ys))else af:=rfl
@[simp]theorem e9:kH .add (.aB xs) (.aB ys)=if xs.length+ys.length<=lim then aa (.aB (xs++ys))else af:=rfl
@[simp]theorem nV:kH .sub (.int i) (.int j)=aa (.int (i-j)):=rfl
@[simp]theorem sW:kH .mul (.int i) (.int j)=if big i||big j then aa (.int (i*j))else af:=rfl
@[simp]theorem nW:kH .mul (.aC xs) (.int k)=if 2<=k&&k<=1000&&!xs.isEmpty&&xs.length*k.toNat<=lim then aa (.aC (rep k.toNat xs))else af:=rfl
@[simp]theorem nX:kH .mul (.aB xs) (.int k)=if -1000<=k&&k<=1000&&xs.length*k.toNat<=lim then aa (.aB (rep k.toNat xs))else af:=rfl
@[simp]theorem nY:kH .mod (.int i) (.int j)=if 0<j then aa (.int (i%j))else af:=rfl
@[simp]theorem l9:kH .fdiv (.int i) (.int j)=if 0<j&&j<1073741824 then aa (.int (i/j))else af:=rfl
@[simp]theorem gW:dI (.aC xs) (.int i)=atP xs i:=rfl
@[simp]theorem dJ:dI (.aB xs) (.int i)=atP xs i:=rfl
@[simp]theorem jL:dI (.str x) (.int i)=if x.length<=lim then(atP x.cps.toList i).map λc=>.str ⟨#[c]⟩else af:=rfl
@[simp]theorem AI:uS (.aC xs) lo hi=aa (.aC (cut xs lo hi)):=rfl
@[simp]theorem PB:uS (.aB xs) lo hi=aa (.aB (cut xs lo hi)):=rfl
@[simp]theorem we:gB .eq d e=if ef d e then aa (eqv d e)else af:=rfl
@[simp]theorem wg:gB .ne d e=if ef d e then aa (!eqv d e)else af:=rfl
@[simp]theorem ng:gB .lt (.int i) (.int j)=aa (decide (i<j)):=rfl
@[simp]theorem nh:gB .le (.int i) (.int j)=aa (decide (i<=j)):=rfl
@[simp]theorem kg:gB .gt (.int i) (.int j)=aa (decide (j<i)):=rfl
@[simp]theorem nj:gB .ge (.int i) (.int j)=aa (decide (j<=i)):=rfl
@[simp]theorem lD:gB .isN d .aD=aa (jJ d):=rfl
@[simp]theorem kh:gB .notN d .aD=aa (!jJ d):=rfl
@[simp]theorem yy{b:Bool}:gB .notN d (.bl b)=aa (!qP b d):=rfl
@[simp]theorem iF:gB .mem d (.aC ys)=if ys.all λy=>ef y d then aa (ys.any λy=>eqv y d)else af:=rfl
@[simp]theorem iG:gB .mem d (.aB ys)=if ys.all λy=>ef y d then aa (ys.any λy=>eqv y d)else af:=rfl
@[simp]theorem iQ:gB .nmem d (.aC ys)=if ys.all λy=>ef y d then aa (!ys.any λy=>eqv y d)else af:=rfl
@[simp]theorem gI:gB .nmem d (.aB ys)=if ys.all λy=>ef y d then aa (!ys.any λy=>eqv y d)else af:=rfl
@[simp]theorem qo:biD .len [.aC xs]=aa (.int xs.length):=rfl
@[simp]theorem KI:biD .len [.aB xs]=aa (.int xs.length):=rfl
@[simp]theorem yz:biD .len [.str x]=if x.length<=lim then aa (.int x.length)else af:=rfl
@[simp]theorem Os:biD .int [.int i]=aa (.int i):=rfl
@[simp]theorem KJ:biD .int [.bl c]=aa (.int (if c then 1 else 0)):=rfl
@[simp]theorem Ot:biD .str [.int i]=if big i then aa (.str (toString i))else af:=rfl
@[simp]theorem GF:biD .tuple [.aB xs]=aa (.aC xs):=rfl
@[simp]theorem GG:biD .tuple [.aC xs]=aa (.aC xs):=rfl
theorem nZ:biD .sorted [.aB xs]=(intsOf xs).bind λns=>if ns.length<64 then aa (.aB ((sortI ns).map .int))else af:=rfl
theorem sX:biD .sset [.aB xs]=(intsOf xs).bind λns=>if ns.length<64 then aa (.aB ((sortI (ded ns)).map .int))else af:=rfl
theorem AJ{ys:List D}:biD .lzip [.aC xs,.aC ys]=if 0<xs.length/\xs.length=ys.length then aa (.aB (sU xs ys))else af:=rfl
theorem wj:biD .sum [.aB xs]=(intsOf xs).map λns=>.int ns.sum:=rfl
theorem sY:biD .min1 [.aB xs]=(intsOf xs).bind λns=>(Ib ns).map .int:=rfl
theorem AK:biD .max1 [.aB xs]=(intsOf xs).bind λns=>(Ia ns).map .int:=rfl
def sortI_perm(ns:List Int):(sortI ns).Perm ns:=List.mergeSort_perm _ _
def n8(ns:List Int):(sortI ns).Pairwise (·<=·):=by have:=List.pairwise_mergeSort (le:=λ(a b:Int)=>decide (a<=b)) (λa b c B q=>by simp only[bM]at *;lia) (λa b=>by simp only[UK,bM];lia) ns;exact this.imp λh=>bP h
def foldl_max(l:List Int):∀n:Int,(l.foldl max n=n\/l.foldl max n∈l)/\n<=l.foldl max n/\∀a∈l,a<=l.foldl max n:=by
 induction l with
 |nil=>intro n;exact⟨.inl rfl,Int.le_refl _,λa h=>nomatch h⟩
 |cons x l D =>
  intro n;obtain⟨L,M,J⟩:=D (max n x);rw[UI];refine⟨?_,by lia,λa B=>?_⟩
  ·rcases L with h|h
   ·rw[h];rcases Int.le_total n x with q|q
    exact .inr (by rw[show max n x=x by lia];exact Sj);exact .inl (by lia)
   exact .inr (Sb _ h)
  ·rcases List.mem_cons.mp B with rfl|B
   lia;exact J a B
theorem foldl_min:∀(l:List Int)(n:Int),(l.foldl min n=n\/l.foldl min n∈l)/\l.foldl min n<=n/\∀a∈l,l.foldl min n<=a
 |[],n=>⟨.inl rfl,Int.le_refl _,λa h=>bL h (by simp)⟩
 |b::l,n=>by
  obtain⟨J,L,D⟩:=foldl_min l (min n b);rw[UI];refine⟨?_,by lia,λa B=>?_⟩
  ·rcases J with h|h
   ·rw[h];rcases Int.le_total n b with q|q
    exact .inl (by lia);exact .inr (by rw[show min n b=b by lia];exact Sj)
   exact .inr (Sb _ h)
  ·rcases List.mem_cons.mp B with rfl|B
   lia;exact D a B
def yC{ns:List Int}{M:Int}(h:Ib ns=aa M):M∈ns/\∀a∈ns,M<=a:=by
 cases ns with
 |nil=>cases h
 |cons n l =>
  cases h;obtain⟨L,J,D⟩:=foldl_min l n;refine⟨?_,λa B=>?_⟩
  ·rcases L with q|q
   rw[q];exact Sj;exact Sb _ q
  ·rcases List.mem_cons.mp B with rfl|B
   exact J;exact D a B
def yD(h:Ia ns=aa M):M∈ns/\∀a∈ns,a<=M:=by
 cases ns with
 |nil=>cases h
 |cons n l =>
  cases h;obtain⟨L,J,D⟩:=foldl_max l n;refine⟨?_,λa B=>?_⟩
  ·rcases L with q|q
   rw[q];exact Sj;exact Sb _ q
  ·rcases List.mem_cons.mp B with rfl|B
   exact J;exact D a B
@[simp]theorem Ig:biD .list [.aB xs]=aa (.aB xs):=rfl
@[simp]theorem Ih:biD .list [.aC xs]=aa (.aB xs):=rfl
@[simp]theorem Ou:biD .all [.aB xs]=(allB xs).map .bl:=rfl
@[simp]theorem KM:biD .isInt [d]=aa (.bl (isI d)):=rfl
@[simp]theorem Ii:biD .isBool [d]=aa (.bl (isB d)):=rfl
@[simp]theorem KN:biD .isStr [d]=aa (.bl (isS d)):=rfl
@[simp]theorem GH:biD .isTuple [d]=aa (.bl (isT d)):=rfl
@[simp]theorem Ow:biD .min2 [.int i,.int j]=aa (.int (if j<i then j else i)):=rfl
@[simp]theorem Ox:biD .max2 [.int i,.int j]=aa (.int (if j>i then j else i)):=rfl
@[simp]theorem PC:qQ (.aC xs)=aa xs:=rfl
@[simp]theorem PD:qQ (.aB xs)=aa xs:=rfl
@[simp]theorem AL:gH .seq [d]=qQ d:=rfl
@[simp]theorem eV:gH .rng1 [.int a]=if -100000<=a&&a<=100000 then aa (upto 0 a.toNat)else af:=rfl
@[simp]theorem mh:gH .rng2 [.int a,.int b]=if -100000<=a&&a<=100000&&-100000<=b&&b<=100000 then aa (upto a (b-a).toNat)else af:=rfl
@[simp]theorem Ma:gH .rev [.aB xs]=aa xs.reverse:=rfl
@[simp]theorem Mb{x:ay}:gH .chs [.str x]=aa (Ic x):=rfl
@[simp]theorem KO{x y:D}:gH .zipG [x,y]=(Ei x).bind λxs=>(Ei y).map (sU xs):=rfl
@[simp]theorem Mc:gH .itm [.aB xs]=aa xs:=rfl
@[simp]theorem Ij:meD .tindex (.aC xs) [d]=if xs.all λy=>ef y d then(jK d xs 0).map λ(q:Nat)=>D.int (q:Int)else af:=rfl
@[simp]theorem sZ(n:Nat):unpack n (.aB xs)=if xs.length=n then aa xs else af:=rfl
@[simp]theorem tw(n:Nat):unpack n (.aC xs)=if xs.length=n then aa xs else af:=rfl
end
@[simp]theorem lE(d:D):target 1 d=aa [d]:=rfl
@[simp]theorem Mf(d:D):target 2 d=unpack 2 d:=rfl
noncomputable def wk(o:Option D)(out:List D)(h:HH):Option (List D×HH):=aa (match o with|some x=>x::out|none=>out,h)
def AM(r:HH->Option (List D×HH))(o:Option D)(h:HH):Option (List D×HH):=bnd (r h) (wk o)
@[simp]theorem tE(o:Option D)(out:List D)(h:HH):wk o out h=aa (match o with|some x=>x::out|none=>out,h):=rfl
@[simp]theorem wm(r:HH->Option (List D×HH))(o:Option D)(h:HH):AM r o h=bnd (r h) (wk o):=rfl
def d7(f:List D->HH->Option (Option D×HH))(n:Nat):List D->HH->Option (List D×HH)
 |[],h=>aa ([],h)
 |d::r,h=>match target n d with
  |some q=>bnd (f q h) (AM (d7 f n r))|none=>af
noncomputable def fc(d:D):Option W:=aa (.p d)
noncomputable abbrev EH:=HH->Option (W×HH)
noncomputable abbrev OpW:=W->W->HH->Option (W×HH)
@[simp]def k2(B:EH)(q:OpW)(x:W)(h:HH):Option (W×HH):=bnd (B h) (q x)
@[simp]def qR(o:Bin)(x y:W)(h:HH):Option (W×HH):=match rd x h,rd y h with
 |some d,aa e=>(kH o d e).map λz=>(.p z,h)
 |_,_=>af
def inT(o:Cm)(x:W)(kvs:List (ay×D)):Option Bool:=match o,x with
 |.mem,.p (.str s)=>aa (fy s kvs).isSome|.mem,.p .aD=>aa ai|.nmem,.p (.str s)=>aa (!(fy s kvs).isSome)|_,_=>af
def inL(o:Cm)(x:W)(kvs:List (Ky×D)):Option Bool:=match o,x with
 |.mem,.p d=>(pQ d).map λk=>(fZ kvs k).isSome
 |_,_=>af
def inK(o:Cm)(x:W)(q:Kd):Option Bool:=match q with
 |.t B=>inT o x B|.l B=>inL o x B
noncomputable def memC:Cm->Bool
 |.mem=>ah|.nmem=>ah|_=>ai
def n9{o:Cm}{x:W}{q:Kd}{b:Bool}(h:memC o=ai):¬inK o x q=aa b:=by intro e;cases o<;>first|exact LR h|exact fP e|(cases q<;>first|exact fP e|(cases x<;>exact fP e))
@[simp]def kN(o:Cm)(x y:W)(h:HH):Option (W×HH):=match y with
 |.k q=>(inK o x q).map λz=>(.p (.bl z),h)
 |y=>match rd x h,rd y h with
  |some d,aa e=>(gB o d e).map λz=>(.p (.bl z),h)
  |_,_=>af
def atT(kvs:List (ay×D))(y:W):Option D:=match y with
 |.p (.str s)=>fy s kvs|_=>af
def atL(kvs:List (Ky×D))(y:W):Option D:=match y with
 |.p d=>(pQ d).bind (fZ kvs)|_=>af
def atK(q:Kd)(y:W):Option D:=match q with
 |.t B=>atT B y|.l B=>atL B y
@[simp]theorem Rg(kvs:List (ay×D))(x:ay):atK (.t kvs) (.p (.str x))=fy x kvs:=rfl
@[simp]theorem Rh(kvs:List (Ky×D))(i:Int):atK (.l kvs) (.p (.int i))=fZ kvs (.inl i):=rfl
@[simp]theorem Rj(kvs:List (ay×D))(x:ay):inK .mem (.p (.str x)) (.t kvs)=aa (fy x kvs).isSome:=rfl
@[simp]theorem Rk(kvs:List (ay×D))(x:ay):inK .nmem (.p (.str x)) (.t kvs)=aa (!(fy x kvs).isSome):=rfl
@[simp]theorem Rl(kvs:List (ay×D)):inK .mem (.p .aD) (.t kvs)=aa ai:=rfl
@[simp]theorem Rm(kvs:List (Ky×D))(i:Int):inK .mem (.p (.int i)) (.l kvs)=aa (fZ kvs (.inl i)).isSome:=rfl
@[simp]def Ek(x y:W)(h:HH):Option (W×HH):=match x with
 |.k q=>(atK q y).map λz=>(.p z,h)
 |x=>match rd x h,rd y h with
  |some d,aa e=>(dI d e).map λz=>(.p z,h)
  |_,_=>af
@[simp]noncomputable def El(x:W)(h:HH):Option (W×HH):=match x with|.p (.int i)=>aa (.p (.int (-i)),h)|_=>af
@[simp]noncomputable def Em(x:W)(h:HH):Option (W×HH):=match x with|.p (.bl b)=>aa (.p (.bl (!b)),h)|_=>af
@[simp]noncomputable def En(q:EH)(x:W)(h:HH):Option (W×HH):=match x with|.p (.bl c)=>if c then q h else aa (.p (.bl ai),h)|_=>af
@[simp]noncomputable def kOr(q:EH)(x:W)(h:HH):Option (W×HH):=match x with|.p (.bl c)=>if c then aa (.p (.bl ah),h)else q h|_=>af
@[simp]noncomputable def Eo(B q:EH)(x:W)(h:HH):Option (W×HH):=match x with|.p (.bl c)=>if c then B h else q h|_=>af
@[simp]def Mg(o':Cm)(e:D)(z:W)(h:HH):Option (W×HH):=match rd z h with
 |some f=>(gB o' e f).map λr=>(.p (.bl r),h)
 |none=>af
@[simp]def oCh(o o':Cm)(q:EH)(x y:W)(h:HH):Option (W×HH):=match rd x h,y with
 |some d,.p e=>match gB o d e with
  |some ah=>bnd (q h) (Mg o' e)|some ai=>aa (.p (.bl ai),h)|none=>af
 |_,_=>af
@[simp]def Ik(ws:List W)(h:HH):Option (W×HH):=match dN ws with|some q=>if q.length<=lim then aa (.p (.aC q),h)else af|none=>af
@[simp]def Il(mu:Bool)(ws:List W)(h:HH):Option (W×HH):=match dN ws with|some q=>if q.length<=lim then aa (new mu q h)else af|none=>af
@[simp]def Mh(x:W)(l u:List W)(h:HH):Option (W×HH):=match rd x h,(dN l).bind qO,(dN u).bind qO with
 |some d,aa l',aa u'=>(uS d l' u').map λz=>(.p z,h)
 |_,_,_=>af
@[simp]def Mi(q:HH->Option (List W×HH))(x:W)(l:List W)(h:HH):Option (W×HH):=bnd (q h) (Mh x l)
@[simp]def Mj(B q:HH->Option (List W×HH))(x:W)(h:HH):Option (W×HH):=bnd (B h) (Mi q x)
@[simp]noncomputable def PF(x:W)(h:HH):Option (W×HH):=match x with
 |.p (.aC xs)=>aa (.p (.aC xs.reverse),h)|_=>af
noncomputable def mS(k:Int)(xs:List D):List D:=(VY (SR af af (aa k) xs.length).1 (SR af af (aa k) xs.length).2.1 (SR af af (aa k) xs.length).2.2).filterMap λi=>xs[i]?
@[simp]def Im(mu:Bool)(k:Int)(x:W)(h:HH):Option (W×HH):=match rd x h with
 |some (.aB xs)=>aa (new mu (mS k xs) h)|_=>af
@[simp]def kBi(b:Bi)(mu:Bool)(ws:List W)(h:HH):Option (W×HH):=match rds ws h with
 |some B=>match biD b B with
  |some d=>if mu then(match d with|.aB q=>aa (new ah q h)|_=>af)else aa (.p d,h)
  |none=>af
 |none=>af
def kO(x:W)(h:HH):Bool:=match x with
 |.r n=>(lat h n).isSome|.k (.l _)=>ai|_=>ah
@[simp]theorem Io(n:Nat)(h:HH):kO (.r n) h=(lat h n).isSome:=rfl
@[simp]theorem PJ(d:D)(h:HH):kO (.p d) h=ah:=rfl
@[simp]theorem PK(d:List (ay×D))(h:HH):kO (.k (.t d)) h=ah:=rfl
@[simp]def kMe(m:Me)(q:HH->Option (List W×HH))(x:W)(h:HH):Option (W×HH):=if kO x h then bnd (q h) (meW m x)else af
@[simp]def kLs(mu:Bool)(B:Sr)(ws:List W)(h:HH):Option (W×HH):=match (rds ws h).bind (gH B)with
 |some q=>if q.length<=lim then aa (new mu q h)else af
 |none=>af
@[simp]def pR(w:W)(h:HH):Option (Option D×HH):=match w with|.p d=>aa (aa d,h)|_=>af
def wo(q:EH)(B:List W)(h:HH):Option (Option D×HH):=match B with
 |[]=>bnd (q h) pR|[.p (.bl ah)]=>bnd (q h) pR|[.p (.bl ai)]=>aa (af,h)|_=>af
@[simp]theorem Oz(q:EH)(h:HH):wo q [] h=bnd (q h) pR:=rfl
@[simp]theorem OA(q:EH)(h:HH):wo q [.p (.bl ah)] h=bnd (q h) pR:=rfl
@[simp]theorem OB(q:EH)(h:HH):wo q [.p (.bl ai)] h=aa (af,h):=rfl
@[simp]def fz(B:Sl->HH->Option (List W×HH))(q:Sl->EH)(fs:Sl)(xs:List D)(h:HH):Option (Option D×HH) :=
 bnd (B (xs.map fc++fs) h) (wo (q (xs.map fc++fs)))
@[simp]def jb(mu:Bool)(out:List D)(h:HH):Option (W×HH):=if out.length<=lim then aa (new mu out h)else af
def dP(f:ay):List (ay×W)->Option W
 |[]=>af
 |(x,w)::r=>if f=x then aa w else dP f r
def eS(f:ay)(w:W):List (ay×W)->List (ay×W)
 |[]=>[(f,w)]
 |(x,u)::r=>if f=x then(f,w)::r else(x,u)::eS f w r
@[simp]theorem Ml(f:ay):dP f []=af:=rfl
@[simp]theorem qp(f x:ay)(w:W)(r:List (ay×W)):dP f ((x,w)::r)=if f=x then aa w else dP f r:=rfl
@[simp]theorem Mm(f:ay)(w:W):eS f w []=[(f,w)]:=rfl
@[simp]theorem yE(f x:ay)(w u:W)(r:List (ay×W)):eS f w ((x,u)::r)=if f=x then(f,w)::r else(x,u)::eS f w r:=rfl
noncomputable def attrOk:W->Bool
 |.p _=>ah|.r _=>ah|.k _=>ai|.o _=>ah|.c _ _=>ai|.x _=>ai
@[simp]theorem Mn(d:D):attrOk (.p d)=ah:=rfl
@[simp]theorem Mp(n:Nat):attrOk (.r n)=ah:=rfl
@[simp]theorem Mq(n:Nat):attrOk (.o n)=ah:=rfl
def Ep(f:ay)(x:W)(h:HH):Option (W×HH):=match x with
 |.o n=>match oat h n with
  |some (_,fs)=>(dP f fs).map λw=>(w,h)
  |none=>af
 |_=>af
@[simp]theorem Ip(f:ay)(n:Nat)(h:HH):Ep f (.o n) h=match oat h n with
 |some (_,fs)=>(dP f fs).map λw=>(w,h)
 |none=>af:=rfl
noncomputable def uU(F:FK->List W->HH->Option (W×HH))(q:FK)(n:Nat)(ws:List W)(h:HH):Option (W×HH):=F q (.o n::ws) h
@[simp]theorem KP(F:FK->List W->HH->Option (W×HH))(q:FK)(n:Nat)(ws:List W)(h:HH):uU F q n ws h=F q (.o n::ws) h:=rfl
def AN(F:FK->List W->HH->Option (W×HH))(m:ay)(q:HH->Option (List W×HH))(x:W)(h:HH):Option (W×HH):=match x with
 |.o n=>match oat h n with
  |some (c,fs)=>if(dP m fs).isNone then bnd (q h) (uU F (.m c m) n)else af
  |none=>af
 |_=>af
@[simp]theorem Er(F:FK->List W->HH->Option (W×HH))(m:ay)(q:HH->Option (List W×HH))(n:Nat)(h:HH):AN F m q (.o n) h=match oat h n with
 |some (c,fs)=>if(dP m fs).isNone then bnd (q h) (uU F (.m c m) n)else af
 |none=>af:=rfl
noncomputable def wu(n:Nat)(x:W)(h:HH):Option (W×HH):=match x with
 |.p .aD=>aa (.o n,h)|_=>af
@[simp]theorem OD(n:Nat)(h:HH):wu n (.p .aD) h=aa (.o n,h):=rfl
def GI(F:FK->List W->HH->Option (W×HH))(c:ay)(ws:List W)(h:HH):Option (W×HH):=bnd (F (.m c "__init__") (.o h.length::ws) (h++[.o c []])) (wu h.length)
@[simp]theorem AO(F:FK->List W->HH->Option (W×HH))(c:ay)(ws:List W)(h:HH):GI F c ws h=bnd (F (.m c "__init__") (.o h.length::ws) (h++[.o c []])) (wu h.length):=rfl
noncomputable def jM:List W->Bool
 |[]=>ah|.p _::r=>jM r|_=>ai
open Classical in
def chk(q:Nat)(ds:List D)(f:List D->HH->Option (Option D×HH))(xs:List D)(h:HH):Option (Option D×HH):=match f xs h with
 |some (o,h')=>if lat h' q=aa ds then aa (o,h')else af
 |none=>af
def uV(mu:Bool)(B:Sr)(n:Nat)(f:List D->HH->Option (Option D×HH))(ws:List W)(ds:List D)(h:HH):Option (W×HH):=match ws,B with
 |[.r q],.seq=>bnd (d7 (chk q ds f) n ds h) (jb mu)|_,_=>af
theorem AQ(mu:Bool)(n:Nat)(f:List D->HH->Option (Option D×HH))(q:Nat)(ds:List D)(h:HH):uV mu .seq n f [.r q] ds h=bnd (d7 (chk q ds f) n ds h) (jb mu):=rfl
@[simp]def oh(mu:Bool)(q:Sr)(n:Nat)(fs:Option Sl)(D:Sl->HH->Option (List W×HH))(B:Sl->EH)(ws:List W)(h:HH):Option (W×HH) :=
 match (rds ws h).bind (gH q),fs with
 |some ds,aa fs=>if jM ws then bnd (d7 (fz D B fs) n ds h) (jb mu)else uV mu q n (fz D B fs) ws ds h
 |_,_=>af
@[simp]def jn(w:W)(ws:List W)(h:HH):Option (List W×HH):=aa (w::ws,h)
@[simp]def lF(q:HH->Option (List W×HH))(w:W)(h:HH):Option (List W×HH):=bnd (q h) (jn w)
@[simp]def frees(s:Sl):List (Nat×ay)->Option Sl
 |[]=>aa []
 |q::r=>match s[q.1]? with
  |some w=>(frees s r).map (w :: ·)|none=>af
def caps(s:Sl):List (Nat×ay)->Option (List Cp)
 |[]=>aa []
 |q::r=>match s[q.1]? with
  |some (aa w)=>(v7 w).bind λx=>(caps s r).map (x :: ·)
  |_=>af
@[simp]theorem Mr(s:Sl):caps s []=aa []:=rfl
@[simp]theorem KQ(s:Sl)(q:Nat×ay)(r:List (Nat×ay)):caps s (q::r)=match s[q.1]? with
 |some (aa w)=>(v7 w).bind λx=>(caps s r).map (x :: ·)
 |_=>af:=rfl
noncomputable def noC:List W->Bool
 |[]=>ah|.p _::r=>noC r|.r _::r=>noC r|.k _::_=>ai|.o _::r=>noC r|.c _ _::_=>ai|.x _::_=>ai
@[simp]theorem OE:noC []=ah:=rfl
@[simp]theorem Rn(d:D)(r:List W):noC (.p d::r)=noC r:=rfl
@[simp]theorem Ro(d:Nat)(r:List W):noC (.r d::r)=noC r:=rfl
@[simp]theorem Rp(d:Nat)(r:List W):noC (.o d::r)=noC r:=rfl
def AR(F:FK->List W->HH->Option (W×HH))(o:Option (Option W))(ws:List W)(h:HH):Option (W×HH):=match o with
 |some (aa (.c k cs))=>if noC ws then F k (ws++cs.map Cp.w) h else af
 |_=>af
@[simp]theorem Ms(F:FK->List W->HH->Option (W×HH))(k:FK)(q:List Cp)(ws:List W)(h:HH):AR F (aa (aa (.c k q))) ws h=if noC ws then F k (ws++q.map Cp.w) h else af:=rfl
def AS(w:W)(h:HH):Option (W×HH):=match w with
 |.c _ _=>af|.x _=>af|.k _=>af|w=>aa (w,h)
@[simp]theorem PL(d:D)(h:HH):AS (.p d) h=aa (.p d,h):=rfl
@[simp]theorem PM(n:Nat)(h:HH):AS (.r n) h=aa (.r n,h):=rfl
@[simp]theorem PN(n:Nat)(h:HH):AS (.o n) h=aa (.o n,h):=rfl
def qS(F:FK->List W->HH->Option (W×HH))(q:FK)(n:Nat)(L:Nat)(B:Option (List Cp))(ws:List W)(h:HH):Option (W×HH):=match B with
 |some B=>bnd (F q (.o n::(ws++[.c (.l L) B])) h) AS|none=>af
@[simp]theorem KR(F:FK->List W->HH->Option (W×HH))(q:FK)(n:Nat)(L:Nat)(B:List Cp)(ws:List W)(h:HH):qS F q n L (aa B) ws h=bnd (F q (.o n::(ws++[.c (.l L) B])) h) AS:=rfl
def AU(F:FK->List W->HH->Option (W×HH))(m:ay)(q:HH->Option (List W×HH))(L:Nat)(B:Option (List Cp))(x:W)(h:HH):Option (W×HH):=match x with
 |.o n=>match oat h n with
  |some (c,fs)=>if(dP m fs).isNone then bnd (q h) (qS F (.m c m) n L B)else af
  |none=>af
 |_=>af
@[simp]theorem Mt(F:FK->List W->HH->Option (W×HH))(m:ay)(q:HH->Option (List W×HH))(L:Nat)(B:Option (List Cp))(n:Nat)(h:HH):AU F m q L B (.o n) h=match oat h n with
 |some (c,fs)=>if(dP m fs).isNone then bnd (q h) (qS F (.m c m) n L B)else af
 |none=>af:=rfl
noncomputable def PP(c q:ay):Bool:=q==c||q=="TapeError"||q=="ValueError"
noncomputable def PR(c q:ay):Bool:=!(c=="NoText"&&q=="NoRun")
noncomputable def strsOf:List D->Option (List ay)
 |[]=>aa []|.str x::r=>(strsOf r).map (x :: ·)|_=>af
noncomputable def boolsOf:List D->Option (List Bool)
 |[]=>aa []|.bl b::r=>(boolsOf r).map (b :: ·)|_=>af
def txD:Tx->List D->Option D
 |.join,[.str x,.aB ys]=>(strsOf ys).bind λq=>if q.length<=4000/\x.length<=10/\∀t∈q,t.length<=4000 then aa (.str (Str.join x q))else af
 |.split,[.str x,.str y]=>if y.length=1/\x.length<=lim then aa (.aB ((Txt.split x y).map .str))else af
 |.str,[.int i]=>if big i then aa (.str (toString i))else af
 |.str,[.str x]=>aa (.str x)
 |.intS,[.str x]=>if x.length<=640 then(PySem.intText? x).map .int else af
 |.all,[.aB xs]=>(boolsOf xs).map λbs=>.bl (bs.all id)
 |.inS,[.str x,.str y]=>aa (.bl (Txt.contains y x))|.ninS,[.str x,.str y]=>aa (.bl (!Txt.contains y x))
 |.pre,[.str x,.int i]=>if 0<=i/\x.length<=lim then aa (.str ⟨x.cps.extract 0 i.toNat⟩)else if i=-1/\x.length<=lim then aa (.str ⟨x.cps.extract 0 (x.length-1)⟩)else af
 |_,_=>af
def AV(kvs:List (ay×D))(as:List W)(h:HH):Option (W×HH):=match as with
 |[.p .aD]=>aa (.p .aD,h)|[.p (.str x)]=>aa (.p ((fy x kvs).getD .aD),h)|[.p (.str x),.p d]=>aa (.p ((fy x kvs).getD d),h)|_=>af
def uW(kvs:List (Ky×D))(as:List W)(h:HH):Option (W×HH):=match as with
 |[.p (.str x)]=>aa (.p ((fZ kvs (.inr x)).getD .aD),h)|[.p (.str x),.p d]=>aa (.p ((fZ kvs (.inr x)).getD d),h)|_=>af
def kTx(k:Tx)(ws:List W)(h:HH):Option (W×HH):=match k,ws with
 |.dget,.k (.t kvs)::as=>AV kvs as h|.dget,.k (.l kvs)::as=>uW kvs as h
 |k,ws=>(rds ws h).bind λq=>(txD k q).map λd=>(.p d,h)
def Mu(w:W)(h:HH):Option (W×HH):=match w with
 |.o n=>aa (.r h.length,h++[.b [n]])|_=>af
def Iq(r:Nat)(y:W)(h:HH):Option (W×HH):=match y with
 |.o n=>(bat h r).bind λq=>if q.length<lim then aa (.p .aD,h.set r (.b (q++[n])))else af
 |_=>af
def Mv(q:EH)(x:W)(h:HH):Option (W×HH):=match x with
 |.r r=>if(bat h r).isSome then bnd (q h) (Iq r)else af
 |_=>af
def Ir(x y:W)(h:HH):Option (W×HH):=match x,y with
 |.r r,.p (.int i)=>(bat h r).bind λq=>(atP q i).map λn=>(.o n,h)
 |_,_=>af
def Mw(x:W)(h:HH):Option (W×HH):=match x with
 |.r r=>(bat h r).bind λq=>if q.length<=lim then aa (.p (.int q.length),h)else af
 |_=>af
@[simp]theorem PU(n:Nat)(h:HH):Mu (.o n) h=aa (.r h.length,h++[.b [n]]):=rfl
@[simp]theorem Iu(r n:Nat)(h:HH):Iq r (.o n) h=(bat h r).bind λns=>if ns.length<lim then aa (.p .aD,h.set r (.b (ns++[n])))else af:=rfl
@[simp]theorem Iw(q:EH)(r:Nat)(h:HH):Mv q (.r r) h=if(bat h r).isSome then bnd (q h) (Iq r)else af:=rfl
@[simp]theorem Et(r:Nat)(i:Int)(h:HH):Ir (.r r) (.p (.int i)) h=(bat h r).bind λns=>(atP ns i).map λn=>(.o n,h):=rfl
@[simp]theorem Iz(r:Nat)(h:HH):Mw (.r r) h=(bat h r).bind λns=>if ns.length<=lim then aa (.p (.int ns.length),h)else af:=rfl
section
variable(F:FK->List W->HH->Option (W×HH))(G:ay->Option W)
mutual
@[simp]noncomputable def ev:E->Sl->HH->Option (W×HH)
 |.v i,s,h=>match s[i]? with|some (aa w)=>aa (w,h)|_=>af
 |.j d,_,h=>aa (.p d,h)
 |.aE x,_,h=>(G x).map λw=>(w,h)
 |.bin o a b,s,h=>bnd (ev a s h) (k2 (ev b s) (qR o))|.neg a,s,h=>bnd (ev a s h) El|.not a,s,h=>bnd (ev a s h) Em|.and a b,s,h=>bnd (ev a s h) (En (ev b s))|.or a b,s,h=>bnd (ev a s h) (kOr (ev b s))|.z o a b,s,h=>bnd (ev a s h) (k2 (ev b s) (kN o))|.chain o o' a b c,s,h=>bnd (ev a s h) (k2 (ev b s) (oCh o o' (ev c s)))|.ite c a b,s,h=>bnd (ev c s h) (Eo (ev a s) (ev b s))|.aC as,s,h=>bnd (evs as s h) Ik|.aB mu as,s,h=>bnd (evs as s h) (Il mu)|.y a i,s,h=>bnd (ev a s h) (k2 (ev i s) Ek)|.n a lo hi,s,h=>bnd (ev a s h) (Mj (evs lo s) (evs hi s))|.rvs a,s,h=>bnd (ev a s h) PF|.stp mu k a,s,h=>bnd (ev a s h) (Im mu k)|.call f as,s,h=>bnd (evs as s h) (F (.f f))|.i a f,s,h=>bnd (ev a s h) (Ep f)|.aF o m as,s,h=>bnd (ev o s h) (AN F m (evs as s))|.make c as,s,h=>bnd (evs as s h) (GI F c)|.bi b mu as,s,h=>bnd (evs as s h) (kBi b mu)|.lsr mu sr as,s,h=>bnd (evs as s h) (kLs mu sr)|.me m o as,s,h=>bnd (ev o s h) (kMe m (evs as s))|.comp mu sr sa tg fv cond elt,s,h=>bnd (evs sa s h) (oh mu sr tg.length (frees s fv) (evs cond) (ev elt))|.callv i as,s,h=>bnd (evs as s h) (AR F s[i]?)|.methL o m as L fv,s,h=>bnd (ev o s h) (AU F m (evs as s) L (caps s fv))|.obl a,s,h=>bnd (ev a s h) Mu|.oba o a,s,h=>bnd (ev o s h) (Mv (ev a s))|.obi o i,s,h=>bnd (ev o s h) (k2 (ev i s) Ir)|.obn o,s,h=>bnd (ev o s h) Mw|.sup c as,s,h=>bnd (evs as s h) (F (.m c "__init__"))
@[simp]noncomputable def evs:Es->Sl->HH->Option (List W×HH)
 |.nil,_,h=>aa ([],h)|.cons a as,s,h=>bnd (ev a s h) (lF (evs as s))
end
inductive Fl
 |nx(s:Sl)(h:HH)|rt(w:W)(h:HH)|bk(s:Sl)(h:HH)|ct(s:Sl)(h:HH)
def Mx(k:Bool->HH->Option Fl)(w:W)(h:HH):Option Fl:=match w with|.p (.bl b)=>k b h|_=>af
def tst(x:Option (W×HH))(k:Bool->HH->Option Fl):Option Fl:=bnd x (Mx k)
@[simp]theorem jo(b:Bool)(h:HH)(k:Bool->HH->Option Fl):tst (aa (.p (.bl b),h)) k=k b h:=rfl
noncomputable def oj(x:Option Fl)(k:Sl->HH->Option Fl):Option Fl:=match x with
 |some (.nx s h)=>k s h|y=>y
@[simp]theorem Mz(s:Sl)(h:HH)(k:Sl->HH->Option Fl):oj (aa (.nx s h)) k=k s h:=rfl
@[simp]theorem MA(w:W)(h:HH)(k:Sl->HH->Option Fl):oj (aa (.rt w h)) k=aa (.rt w h):=rfl
@[simp]theorem MB(s:Sl)(h:HH)(k:Sl->HH->Option Fl):oj (aa (.bk s h)) k=aa (.bk s h):=rfl
@[simp]theorem MC(s:Sl)(h:HH)(k:Sl->HH->Option Fl):oj (aa (.ct s h)) k=aa (.ct s h):=rfl
@[simp]theorem IA(k:Sl->HH->Option Fl):oj af k=af:=rfl
noncomputable def kK(x:Option Fl)(k:Sl->HH->Option Fl):Option Fl:=match x with
 |some (.nx s h)=>k s h|some (.ct s h)=>k s h|some (.bk s h)=>aa (.nx s h)|y=>y
@[simp]theorem gJ(s:Sl)(h:HH)(k:Sl->HH->Option Fl):kK (aa (.nx s h)) k=k s h:=rfl
@[simp]theorem MD(s:Sl)(h:HH)(k:Sl->HH->Option Fl):kK (aa (.ct s h)) k=k s h:=rfl
@[simp]theorem ME(s:Sl)(h:HH)(k:Sl->HH->Option Fl):kK (aa (.bk s h)) k=aa (.nx s h):=rfl
@[simp]theorem MF(w:W)(h:HH)(k:Sl->HH->Option Fl):kK (aa (.rt w h)) k=aa (.rt w h):=rfl
@[simp]theorem IB(k:Sl->HH->Option Fl):kK af k=af:=rfl
@[simp]noncomputable def sets:List (Nat×ay)->List D->Sl->Sl
 |(i,_)::r,d::ds,s=>sets r ds (s.set i (aa (.p d)))|_,_,s=>s
def IC(b:Sl->HH->Option Fl)(again:Sl->HH->Option Fl)(s:Sl)(t:Bool)(h:HH):Option Fl:=if t then kK (b s h) again else aa (.nx s h)
@[simp]theorem mj(b again:Sl->HH->Option Fl)(s:Sl)(h:HH):IC b again s ah h=kK (b s h) again:=rfl
@[simp]theorem om(b again:Sl->HH->Option Fl)(s:Sl)(h:HH):IC b again s ai h=aa (.nx s h):=rfl
def eX(c:Sl->HH->Option (W×HH))(b:Sl->HH->Option Fl):Nat->Sl->HH->Option Fl
 |0,_,_=>af|n+1,s,h=>tst (c s h) (IC b (eX c b n) s)
@[simp]def gK(b:Sl->HH->Option Fl)(tg:List (Nat×ay)):List D->Sl->HH->Option Fl
 |[],s,h=>aa (.nx s h)
 |d::r,s,h=>match target tg.length d with
  |some q=>kK (b (sets tg q s) h) (gK b tg r)|none=>af
noncomputable def turns:Nat:=100000
@[simp]def AW(s:Sl)(i:Nat)(w:W)(h:HH):Option Fl:=aa (.nx (s.set i (aa w)) h)
@[simp]def ID(s:Sl)(xs:List (Nat×ay))(w:W)(h:HH):Option Fl:=match w with
 |.p d=>match unpack xs.length d with|some q=>aa (.nx (sets xs q s) h)|none=>af
 |_=>af
@[simp]def MG(s:Sl)(i:Nat)(o:Bin)(w:W)(h:HH):Option Fl:=match s[i]?,w with
 |some (aa (.p d)),.p d'=>(nO o d d').map λz=>.nx (s.set i (aa (.p z))) h
 |_,_=>af
@[simp]def GJ(s:Sl)(n:Nat)(d:D)(q:W)(h:HH):Option Fl:=match q,lat h n with
 |.p (.int j),aa xs=>match place xs.length j with
  |some m=>aa (.nx s (h.set n (.l (xs.set m d))))|none=>af
 |_,_=>af
@[simp]def IE(q:EH)(s:Sl)(i:Nat)(w:W)(h:HH):Option Fl:=match w,s[i]? with
 |.p d,aa (aa (.r n))=>bnd (q h) (GJ s n d)|_,_=>af
def AX(s:Sl)(n:Nat)(d:D)(q:W)(h:HH):Option Fl:=match q with
 |.p k=>(dat h n).bind λB=>(pQ k).bind λy=>if B.length<lim then aa (.nx s (h.set n (.d (GE B y d))))else af
 |_=>af
@[simp]theorem MH(s:Sl)(n:Nat)(d k:D)(h:HH):AX s n d (.p k) h=(dat h n).bind λkvs=>(pQ k).bind λy=>if kvs.length<lim then aa (.nx s (h.set n (.d (GE kvs y d))))else af:=rfl
def Rq(q:EH)(s:Sl)(i:Nat)(w:W)(h:HH):Option Fl:=match w,s[i]? with
 |.p d,aa (aa (.r n))=>bnd (q h) (AX s n d)|_,_=>af
def qT(s:Sl)(f:ay)(v:W)(x:W)(h:HH):Option Fl:=match x with
 |.o n=>match oat h n with
  |some (c,fs)=>if attrOk v&&fs.length<1000 then aa (.nx s (h.set n (.o c (eS f v fs))))else af
  |none=>af
 |_=>af
@[simp]theorem AY(s:Sl)(f:ay)(v:W)(n:Nat)(h:HH):qT s f v (.o n) h=match oat h n with
 |some (c,fs)=>if attrOk v&&fs.length<1000 then aa (.nx s (h.set n (.o c (eS f v fs))))else af
 |none=>af:=rfl
def AZ(q:EH)(s:Sl)(f:ay)(v:W)(h:HH):Option Fl:=bnd (q h) (qT s f v)
@[simp]theorem A6(q:EH)(s:Sl)(f:ay)(v:W)(h:HH):AZ q s f v h=bnd (q h) (qT s f v):=rfl
def qU(s:Sl)(f:ay)(q:Bin)(n:Nat)(c:ay)(d:D)(v:W)(h:HH):Option Fl:=match v,oat h n with
 |.p e,aa (c',fs)=>match nO q d e with
  |some z=>if c'=c/\fs.length<1000 then aa (.nx s (h.set n (.o c' (eS f (.p z) fs))))else af
  |none=>af
 |_,_=>af
@[simp]theorem A7(s:Sl)(f:ay)(q:Bin)(n:Nat)(c:ay)(d e:D)(h:HH):qU s f q n c d (.p e) h=match oat h n with
 |some (c',fs)=>match nO q d e with
  |some z=>if c'=c/\fs.length<1000 then aa (.nx s (h.set n (.o c' (eS f (.p z) fs))))else af
  |none=>af
 |none=>af:=by unfold qU;cases oat h n<;>rfl
def wA(B:EH)(s:Sl)(f:ay)(q:Bin)(x:W)(h:HH):Option Fl:=match x with
 |.o n=>match oat h n with
  |some (c,fs)=>match dP f fs with
   |some (.p d)=>bnd (B h) (qU s f q n c d)|_=>af
  |none=>af
 |_=>af
@[simp]theorem Eu(B:EH)(s:Sl)(f:ay)(q:Bin)(n:Nat)(h:HH):wA B s f q (.o n) h=match oat h n with
 |some (c,fs)=>match dP f fs with
  |some (.p d)=>bnd (B h) (qU s f q n c d)|_=>af
 |none=>af:=rfl
@[simp]noncomputable def kEx(s:Sl)(_:W)(h:HH):Option Fl:=aa (.nx s h)
@[simp]def IF(w:W)(h:HH):Option Fl:=aa (.rt w h)
@[simp]noncomputable def kIf(B q:HH->Option Fl)(t:Bool)(h:HH):Option Fl:=if t then B h else q h
@[simp]def kFor(b:Sl->HH->Option Fl)(tg:List (Nat×ay))(q:Sr)(s:Sl)(ws:List W)(h:HH):Option Fl:=match (rds ws h).bind (gH q)with
 |some B=>if jM ws then gK b tg B s h else af
 |none=>af
@[simp]def evS:S->Sl->HH->Option Fl
 |.nil,s,h=>aa (.nx s h)|.seq a b,s,h=>oj (evS a s h) (evS b)|.set i e,s,h=>bnd (ev F G e s h) (AW s i)|.unp xs e,s,h=>bnd (ev F G e s h) (ID s xs)|.aug i o e,s,h=>bnd (ev F G e s h) (MG s i o)|.put i k e,s,h=>bnd (ev F G e s h) (IE (ev F G k s) s i)|.setf o f e,s,h=>bnd (ev F G e s h) (AZ (ev F G o s) s f)|.augf o f op e,s,h=>bnd (ev F G o s h) (wA (ev F G e s) s f op)|.ex e,s,h=>bnd (ev F G e s h) (kEx s)|.ret e,s,h=>bnd (ev F G e s h) IF|.v c a b,s,h=>tst (ev F G c s h) (kIf (evS a s) (evS b s))|.j c b,s,h=>eX (ev F G c) (evS b) turns s h|.for tg sr sa b,s,h=>bnd (evs F G sa s h) (kFor (evS b) tg sr s)|.brk,s,h=>aa (.bk s h)|.cnt,s,h=>aa (.ct s h)|.bad,_,_=>af|.rai _ _,_,_=>af
open Classical in
def fin(h:HH)(w:W)(h':HH):Option (W×HH) :=
 if h'.length=h.length then aa (w,h')
 else if h'.take h.length=h then (match w with
  |.p d=>aa (.p d,h)
  |.r n=>if n<h.length then aa (.r n,h)else(lat h' n).map λq=>(.p (.aB q),h)
  |.o n=>if n<h.length then aa (.o n,h)else aa (.o n,h')
  |.k _=>af|.c _ _=>af
  | .x _=>af)
 else aa (w,h')
@[simp]noncomputable def ff(n:Nat)(ws:List W):Sl:=ws.map aa++Sw (n-ws.length) af
def kI(x:Option Fl)(k:W->HH->Option (W×HH)):Option (W×HH):=match x with
 |some (.rt w h)=>k w h|some (.nx _ h)=>k (.p .aD) h|_=>af
@[simp]theorem kj(w:W)(h:HH)(k:W->HH->Option (W×HH)):kI (aa (.rt w h)) k=k w h:=rfl
@[simp]theorem OF(s:Sl)(h:HH)(k:W->HH->Option (W×HH)):kI (aa (.nx s h)) k=k (.p .aD) h:=rfl
@[simp]theorem KS(k:W->HH->Option (W×HH)):kI af k=af:=rfl
end
section
variable(T:FK->Option Fn)(G:ay->Option W)
def runN:Nat->FK->List W->HH->Option (W×HH)
 |0,_,_,_=>af
 |k+1,f,ws,h=>match T f with
  |some fn=>if ws.length=fn.ps.length then kI (evS (runN k) G fn.body (ff fn.ns.length ws) h) (fin h)else af
  |none=>af
def run_eq{T:FK->Option Fn}{G:ay->Option W}{f:FK}{fn:Fn}{ws:List W}{h:HH}{k:Nat}(B:T f=aa fn)(q:ws.length=fn.ps.length):
 runN T G (k+1) f ws h=kI (evS (runN T G k) G fn.body (ff fn.ns.length ws) h) (fin h):=by
 rw[runN,B];exact bJ q
end
def PV:Fn:=⟨["state","thing"],["state","thing"],.ret (.call "worth_in" (Z8 (.v 0) (.v 1)))⟩
def PX:Fn:=⟨["state","thing","worth"],["state","thing","worth"],.ret (.z .ne (.call "worth_in" (Z8 (.v 0) (.v 1))) (.v 2))⟩
def PY:Fn:=⟨["state","thing","worth"],["state","thing","worth"],.ret (.z .ne (.call "worth_in" (Z8 (.v 0) (.v 1))) (.v 2))⟩
def PZ:Fn:=⟨["state","term"],["state","term"],.ret (.call "reckoned" (Z8 (.v 1) (.v 0)))⟩
def P0:Fn:=⟨["state","term"],["state","term"],.ret (.z .ne (.call "reckoned" (Z8 (.v 1) (.v 0))) (.j (.int 0)))⟩
def P1:Fn:=⟨["state","term"],["state","term"],.ret (.z .ne (.call "reckoned" (Z8 (.v 1) (.v 0))) (.j (.int 0)))⟩
noncomputable def P4:Fn:=⟨["state"],["state"],.ret (.y (.v 0) (.aE "ROW"))⟩
noncomputable def P5:Fn:=⟨["state","row"],["state","row"],.ret (.z .eq (.y (.v 0) (.aE "ROW")) (.v 1))⟩
def P6:Fn:=⟨["state","number"],["state","number"],.ret (.z .gt (.bi .len ai (Z9 (.y (.v 0) (.aE "SAID")))) (.v 1))⟩
def P7:Fn:=⟨["state","bound"],["state","bound"],.ret (.z .le (.call "open_in" (Z9 (.v 0))) (.v 1))⟩
def MI:Fn:=⟨["state","bound"],["state","bound"],.ret (.z .le (.call "open_in" (Z9 (.v 0))) (.v 1))⟩
noncomputable def MJ:Fn:=⟨["state","wanted"],["state","wanted"],.ret (.and (.z .eq (.y (.v 0) (.aE "NAMES")) (.y (.v 1) (.aE "NAMES"))) (.z .eq (.y (.v 0) (.aE "CELLS")) (.y (.v 1) (.aE "CELLS"))))⟩
def MK:Fn:=⟨["state","tape","thing"],["state","tape","thing"],.ret (.z .eq (.call "written_next" (Z8 (.v 1) (.v 0))) (.v 2))⟩
noncomputable def ML:Fn:=⟨[],[],.ret (.j .aD)⟩
noncomputable def MM:Fn:=⟨[],[],.ret (.j .aD)⟩
def IG(i:Nat):Option Fn:=([PV,PX,PY,PZ,P0,P1,P4,P5,P6,P7,MI,MJ,MK,ML,MM]:List Fn)[i]?
noncomputable def iR:List ay:=["worths_of","last_change","next_change","moments_so","last_so","next_so","visits","last_visit","when_said","next_within","last_within","first_other","writer_of","judged","remade"]
def GK(i:Nat):ay:=iR.getD i ""
noncomputable def jN(x:ay):ay:="<"++x++">"
end BT
end
open BT renaming ev->aL,D->aM,W->aN,HH->aO,meW->aP,eqv->aQ,rds->aR,eU->aS,evS->aT,runN->aU,E->aV,rd->aW,evs->aX,Es->aY,dN->aZ,target->bf,lat->bg,ded->bq,oat->bw,Sl->bx,Fn->bz,Bin->bA,bnd->bB,kN->bC,fZ->bD,sortI_perm->bE,fy->bF,sortI->bG,upto->bH,fP->bI
section
namespace BS
open PySem PySem.Spec PyProof.Rows L2
variable{K:RQ}
def dw{q:Type}{c:Prop}[Decidable c]{a b:q}(h:(if c then aa a else af)=aa b):c/\a=b:=by
 by_cases z:c
 rw[bJ z]at h;exact⟨z,Sa h⟩;rw[bK z]at h;exact nomatch h
def cU{q:Type}{a:q}{P:Prop}(h:(af:Option q)=aa a):P:=nomatch h
noncomputable def attrName(f:ay):Bool:=(["program","asked","gap","most","kept","farthest","front","now","origins","branches","tape","named"]:List ay).contains f
def tF:BT.Bi->Option (String×(aM->Bool))
 |.isInt=>aa ("int",BT.isI)|.isBool=>aa ("bool",BT.isB)|.isStr=>aa ("str",BT.isS)|.isTuple=>aa ("tuple",BT.isT)|_=>af
noncomputable def tG(sc:TV)(x:ay):Bool:=match sc.names.lookup x with
 |some .local=>ah|some .cell=>ah|some .free=>ah|_=>ai
noncomputable def dO(sc:TV)(x:ay):Bool:=sc.names.lookup x==aa .globalImplicit
noncomputable def fQ(x:ay):Bool:=!(x=="__debug__")&&!(x=="__classdict__")&&!(x=="__name__")
noncomputable def noStar:Sd->Bool
 |.Starred _ _=>ai|_=>ah
noncomputable def lG:Sd->Bool
 |.Slice _ _ _ _=>ai|_=>ah
noncomputable def dX:Sd->Bool
 |.Name _ _=>ah|.Constant _ _ _=>ah|.Subscript _ _ _=>ah|.Attribute _ _ _=>ah|.Call (.Attribute _ _ _) _ _ _=>ah|.Dict _ _ _=>ah|_=>ai
noncomputable def MN:bA->VN
 |.add=>.Add|.sub=>.Sub|.mul=>.Mult|.mod=>.Mod|.fdiv=>.FloorDiv
def GL(o:bA)(q:VN):Bool:=decide (q=MN o)
noncomputable def P8:BT.Cm->CmpOp
 |.eq=>.Eq|.ne=>.NotEq|.lt=>.Lt|.le=>.LtE|.gt=>.Gt|.ge=>.GtE|.isN=>.Is|.notN=>.IsNot|.mem=>.In|.nmem=>.NotIn
def Ew(o:BT.Cm)(q:CmpOp):Bool:=decide (q=P8 o)
noncomputable def GM:aM->Const->Bool
 |.aD,.none=>ah|.bl a,.bool b=>a==b|.int i,.int j=>i==j|.str x,.str y=>x==y&&PyData.strOk x|_,_=>ai
noncomputable def A8:BT.Bi->Bool->Option ay
 |.len,ai=>aa "len"|.int,ai=>aa "int"|.list,_=>aa "list"|.tuple,ai=>aa "tuple"|.sorted,_=>aa "sorted"|.max1,ai=>aa "max"|.min1,ai=>aa "min"|.sum,ai=>aa "sum"|_,_=>af
def GN(b:BT.Bi)(mu:Bool)(x:ay):Bool:=A8 b mu==aa x
noncomputable def A9:BT.Bi->ay->Bool
 |.min2,x=>x=="min"|.max2,x=>x=="max"|_,_=>ai
noncomputable def Ex:Sd->Option Const
 |.Constant c _ _=>aa c|_=>af
noncomputable def cInt:Const->Option Int
 |.int j=>aa j|_=>af
noncomputable def unE:Sd->Option Sd
 |.UnaryOp o e _=>if o=.USub then aa e else af
 |_=>af
def qV(k:Int)(e:Sd):Bool:=((Ex e).bind cInt==aa k&&decide (0<k))||(((unE e).bind Ex).bind cInt==aa (-k)&&decide (k<0))
noncomputable def Ba:BT.Me->ay
 |.append=>"append"|.pop=>"pop"|.extend=>"extend"|.tindex=>"index"|.sindex=>"index"|.dget=>"get"|.count=>"count"|.lindex=>"index"
noncomputable def uX:aV->Bool
 |.aE _=>ah|_=>ai
def Ey(m:BT.Me)(o:aV):Bool:=match m with
 |.append=>ah|.pop=>ah|.extend=>ah|.sindex=>ah|.tindex=>uX o|.dget=>ai|.count=>ah|.lindex=>ai
noncomputable def GO(c:ay):Bool:=(["NoMoment","NoThing","NoRun","NoText"]:List ay).contains c
def Rr(q:ay):Bool:=GO q||q=="ValueError"
noncomputable def f7(N:List ay):Bool:=!N.contains "_law_flags"
noncomputable def tOK:aV->Bool
 |.ite _ _ _=>ai|.not a=>tOK a|.and a b=>tOK a&&tOK b|.or a b=>tOK a&&tOK b|.aC _=>ai|.aB _ _=>ai|.obl _=>ai|.comp _ _ _ _ _ _ _=>ai|_=>ah
noncomputable def kP:Sd->Bool
 |.Set _ _ _=>ai|_=>ah
noncomputable def tH:BT.Sr->Sd->Bool
 |.zip2,.Tuple _ _ _=>ah|.enu,.Tuple _ _ _=>ah|.itm,.Tuple _ _ _=>ah|.zipG,.Tuple _ _ _=>ah|.zip2,_=>ai|.enu,_=>ai|.itm,_=>ai|.zipG,_=>ai|_,_=>ah
noncomputable def eB(q sc:TV):TV :=
 {q with names:=q.names.map λ(n,k)=>if(k==.free&&sc.kind==.function&&sc.names.lookup n==aa .cell)then(n,.cell)else(n,k)}
noncomputable def nmE:Sd->Option ay
 |.Name y _=>aa y|_=>af
noncomputable def II:Sd->List Sd
 |.Tuple q _ _=>q|_=>[]
def tK(sc:TV)(tg:List ay)(te:Sd):Bool:=((tg.map aa==[nmE te])||(Nat.ble 2 tg.length&&tg.map aa==(II te).map nmE))&&tg.all λx=>sc.names.lookup x==aa .local
noncomputable def oq:List ay->Bool
 |[]=>ah|x::r=>!r.contains x&&oq r
def kQ(sc:TV)(N:List ay)(tg:List ay)(D:List (Nat×ay))(B:TV):Bool :=
 B.kind==.function&&sc.kind==.function&&B.names.all (λy=>!(y.2==.cell))&&B.names.all (λy=>!(y.2==.local)||B.names.lookup y.1==aa .local) &&
 B.names.all (λy=>!(y.2==.free)||sc.names.lookup y.1==aa .cell) &&
 D.all (λq=>N[q.1]?==aa q.2&&B.names.contains (q.2,.free)&&sc.names.lookup q.2==aa .cell&&(eB B sc).names.lookup q.2==aa .cell)&&oq (tg++D.map (·.2))
noncomputable def dlQ:aM->PyData
 |.str x=>.str x|.int i=>.int i|_=>.none
noncomputable def MO:aM->Bool
 |.str x=>PyData.strOk x|.int _=>ah|_=>ai
def dlD(kvs:List (ay×aM)):List (PyData×PyData):=kvs.map λp=>(.str p.1,dlQ p.2)
def dlV:List (ay×aM)->Bool
 |[]=>ah|p::r=>PyData.strOk p.1&&MO p.2&&dlV r
def dlB(kvs:List (ay×aM))(q:List (Option Sd))(B:List Sd):Bool:=dlV kvs&&(q.all λx=>x.isSome)&&decide (q.length=B.length)&&!q.isEmpty&&decide (q.length<=15)&&decide (kvs.length<=15)
inductive Tq
 |e(a:aV)(x:Sd)|es(as:aY)(xs:List Sd)|o(as:aY)(x:Option Sd)|c(as:aY)(xs:List Sd)|i(B:BT.Sr)(q:aY)(x:Sd)
set_option autoImplicit true in
class inductive CQ:TV->List ay->Tq->Prop where
 |v(h1:N[i]?=aa x)(h2:tG sc x=ah)(q:fQ x=ah):CQ sc N (.e (.v i) (.Name x p))
 |j(h:GM d c=ah):CQ sc N (.e (.j d) (.Constant c k p))
 |aE(h2:dO sc x=ah)(q:fQ x=ah):CQ sc N (.e (.aE x) (.Name x p))
 |bin(h:GL o op=ah)(q:CQ sc N (.e a l))(B:CQ sc N (.e b r)):CQ sc N (.e (.bin o a b) (.BinOp l op r p))
 |neg(q:CQ sc N (.e a x)):CQ sc N (.e (.neg a) (.UnaryOp .USub x p))
 |not(q:CQ sc N (.e a x)):CQ sc N (.e (.not a) (.UnaryOp .Not x p))
 |and2(q:CQ sc N (.e a x))(B:CQ sc N (.e b y)):CQ sc N (.e (.and a b) (.BoolOp .And [x,y] p))
 |and3(q:CQ sc N (.e a x))(B:CQ sc N (.e b (.BoolOp .And (y::z::r) p))):CQ sc N (.e (.and a b) (.BoolOp .And (x::y::z::r) p))
 |or2(q:CQ sc N (.e a x))(B:CQ sc N (.e b y)):CQ sc N (.e (.or a b) (.BoolOp .Or [x,y] p))
 |or3(q:CQ sc N (.e a x))(B:CQ sc N (.e b (.BoolOp .Or (y::z::r) p))):CQ sc N (.e (.or a b) (.BoolOp .Or (x::y::z::r) p))
 |z(h:Ew o op=ah)(q:CQ sc N (.e a l))(D:CQ sc N (.e b r))(B:YK op r=ai):CQ sc N (.e (.z o a b) (.Compare l [op] [r] p))
 |chain(h:Ew o op=ah)(h':Ew o' op'=ah)(q:CQ sc N (.e a l))(J:CQ sc N (.e b r))(D:CQ sc N (.e c r'))(B:lastMarks [op,op'] [r,r']=ai):CQ sc N (.e (.chain o o' a b c) (.Compare l [op,op'] [r,r'] p))
 |ite(h:tOK c=ah)(B:CQ sc N (.e c t))(q:CQ sc N (.e a x))(D:CQ sc N (.e b y)):CQ sc N (.e (.ite c a b) (.IfExp t x y p))
 |aC(h:CQ sc N (.es as es)):CQ sc N (.e (.aC as) (.Tuple es k p))
 |aB(h:CQ sc N (.es as es)):CQ sc N (.e (.aB mu as) (.List es p))
 |y(q:CQ sc N (.e a x))(hi:CQ sc N (.e i sl))(B:lG sl=ah):CQ sc N (.e (.y a i) (.Subscript x sl p))
 |n{lo:aY}(q:CQ sc N (.e a x))(D:CQ sc N (.o lo l))(B:CQ sc N (.o hi u)):CQ sc N (.e (.n a lo hi) (.Subscript x (.Slice l u af p2) p))
 |call(B:dO sc f=ah)(hn:fQ f=ah)(q:CQ sc N (.es as es)):CQ sc N (.e (.call f as) (.Call (.Name f np) es [] p))
 |sset(B:f7 N=ah)(J:dO sc "sorted"=ah)(q:dO sc "set"=ah)(D:noStar e=ah)(h:CQ sc N (.e a e)):
  CQ sc N (.e (.bi .sset ai (.cons a .nil)) (.Call (.Name "sorted" np) [.Call (.Name "set" zp) [e] [] pos] [] p))
 |lrng(B:f7 N=ah)(J:dO sc "list"=ah)(q:dO sc "range"=ah)(D:noStar e=ah)(h:CQ sc N (.e a e)):
  CQ sc N (.e (.lsr mu .rng1 (.cons a .nil)) (.Call (.Name "list" np) [.Call (.Name "range" zp) [e] [] pos] [] p))
 |bi(q:f7 N=ah)(D:GN b mu x=ah)(L:dO sc x=ah)(B:noStar e=ah)(J:CQ sc N (.e a e)):CQ sc N (.e (.bi b mu (.cons a .nil)) (.Call (.Name x np) [e] [] p))
 |inst(D:tF b=aa (c,f))(L:dO sc "isinstance"=ah)(q:dO sc (Sn c)=ah)(B:noStar e=ah)(J:CQ sc N (.e a e)):
  CQ sc N (.e (.bi b ai (.cons a .nil)) (.Call (.Name "isinstance" np) [e,.Name (Sn c) p2] [] p))
 |me(h1:Ey m o=ah)(h2:name=Ba m)(q:dX oe=ah)(L:(apos.endLine==cpos.line)=ah)(J:es.length<20)(D:CQ sc N (.e o oe))(B:CQ sc N (.es as es)):
  CQ sc N (.e (.me m o as) (.Call (.Attribute oe name apos) es [] cpos))
 |comp{cond:aY}
  (B:f7 N=ah) (J:kQ sc N tg fv scope=ah) (q:tK (eB scope sc) tg te=ah) (hz:tH sr te=ah) (D:kP iter=ah) (hi:CQ sc N (.i sr sa iter))
  (M:CQ (eB scope sc) (tg++fv.map (·.2)) (.c cond ifs)) (L:CQ (eB scope sc) (tg++fv.map (·.2)) (.e elt elt')):CQ sc N (.e (.comp mu sr sa tg fv cond elt) (.ListComp elt' [⟨te,iter,ifs,0⟩] scope pos))
 |i(B:dX x=ah)(D:attrName f=ah)(q:CQ sc N (.e a x)):CQ sc N (.e (.i a f) (.Attribute x f p))
 |aF(q:dX oe=ah)(L:(apos.endLine==cpos.line)=ah)(J:es.length<20)(D:CQ sc N (.e o oe))(B:CQ sc N (.es as es)):
  CQ sc N (.e (.aF o m as) (.Call (.Attribute oe m apos) es [] cpos))
 |stp(B:qV k se=ah)(q:CQ sc N (.e a x)):CQ sc N (.e (.stp mu k a) (.Subscript x (.Slice af af (aa se) p2) p))
 |bi2(D:f7 N=ah)(J:A9 b x=ah)(L:dO sc x=ah)(q:noStar e1=ah)(B:noStar e2=ah)(h1:CQ sc N (.e a1 e1))(h2:CQ sc N (.e a2 e2)):
  CQ sc N (.e (.bi b ai (.cons a1 (.cons a2 .nil))) (.Call (.Name x np) [e1,e2] [] p))
 |lzip(J:f7 N=ah)(L:dO sc "list"=ah)(B:dO sc "zip"=ah)(q:noStar e1=ah)(D:noStar e2=ah)(h1:CQ sc N (.e a1 e1))(h2:CQ sc N (.e a2 e2)):
  CQ sc N (.e (.bi .lzip ai (.cons a1 (.cons a2 .nil))) (.Call (.Name "list" np) [.Call (.Name "zip" zp) [e1,e2] [] pos] [] p))
 |make(B:dO sc c=ah)(hn:fQ c=ah)(q:CQ sc N (.es as es)):CQ sc N (.e (.make c as) (.Call (.Name c np) es [] p))
 |obl(q:noStar e=ah)(h:CQ sc N (.e a e)):CQ sc N (.e (.obl a) (.List [e] p))
 |oba(q:dX oe=ah)(L:(apos.endLine==cpos.line)=ah)(B:noStar e=ah)(J:CQ sc N (.e o oe))(D:CQ sc N (.e a e)):CQ sc N (.e (.oba o a) (.Call (.Attribute oe "append" apos) [e] [] cpos))
 |obi(q:CQ sc N (.e a x))(hi:CQ sc N (.e i sl))(B:lG sl=ah):CQ sc N (.e (.obi a i) (.Subscript x sl p))
 |obn(B:dO sc "len"=ah)(q:noStar e=ah)(h:CQ sc N (.e a e)):CQ sc N (.e (.obn a) (.Call (.Name "len" np) [e] [] p))
 |sup(J:dO sc c=ah)(hn:fQ c=ah)(D:(apos.endLine==cpos.line)=ah)(B:(e::es).length<20)(q:CQ sc N (.es as (e::es))):CQ sc N (.e (.sup c as) (.Call (.Attribute (.Name c np) "__init__" apos) (e::es) [] cpos))
 |es_nil:CQ sc N (.es .nil [])
 |es_cons(D:noStar e=ah)(q:CQ sc N (.e a e))(B:CQ sc N (.es as es)):CQ sc N (.es (.cons a as) (e::es))
 |o_nil:CQ sc N (.o .nil af)
 |o_one(q:CQ sc N (.e a e)):CQ sc N (.o (.cons a .nil) (aa e))
 |c_nil:CQ sc N (.c .nil [])
 |c_one(B:tOK a=ah)(q:CQ sc N (.e a e)):CQ sc N (.c (.cons a .nil) [e])
 |rng1(B:dO sc "range"=ah)(q:noStar e=ah)(h:CQ sc N (.e a e)):CQ sc N (.i .rng1 (.cons a .nil) (.Call (.Name "range" p) [e] [] pos))
 |rng2(L:dO sc "range"=ah)(B:noStar x=ah)(q:noStar y=ah)(J:CQ sc N (.e a x))(D:CQ sc N (.e b y)):CQ sc N (.i .rng2 (.cons a (.cons b .nil)) (.Call (.Name "range" p) [x,y] [] pos))
 |rev(B:dO sc "reversed"=ah)(q:noStar e=ah)(h:CQ sc N (.e a e)):CQ sc N (.i .rev (.cons a .nil) (.Call (.Name "reversed" p) [e] [] pos))
 |seq(h:CQ sc N (.e a x)):CQ sc N (.i .seq (.cons a .nil) x)
noncomputable abbrev CE'(sc:TV)(N:List ay)(a:aV)(x:Sd):Prop:=CQ sc N (.e a x)
noncomputable abbrev CEs(sc:TV)(N:List ay)(as:aY)(xs:List Sd):Prop:=CQ sc N (.es as xs)
noncomputable abbrev CC(sc:TV)(N:List ay)(as:aY)(xs:List Sd):Prop:=CQ sc N (.c as xs)
noncomputable abbrev CI(sc:TV)(N:List ay)(q:BT.Sr)(B:aY)(x:Sd):Prop:=CQ sc N (.i q B x)
inductive LPa:W9->List ay->Prop
 |one{p:Pos}:LPa ⟨[],[⟨"state",af,p⟩],af,[],[],af,[]⟩ ["state"]
 |two{p q:Pos}:LPa ⟨[],[⟨"row",af,p⟩,⟨"state",af,q⟩],af,[],[],af,[]⟩ ["row","state"]
def Bb(ps fs:List ay)(sc:TV):Bool :=
 sc.kind==.function&&!sc.isCoroutine&&!sc.isGenerator&&sc.names.all (λy=>!(y.2==.cell))&&ps.all (λx=>sc.names.lookup x==aa .local) &&
 fs.all (λx=>sc.names.lookup x==aa .free&&sc.names.contains (x,.free))&&sc.names.all (λy=>!(y.2==.free)||fs.contains y.1)&&oq (ps++fs)
noncomputable def MP(sc:TV)(N:List ay)(B:List (Nat×ay)):Bool:=B.all λq=>N[q.1]?==aa q.2&&sc.names.lookup q.2==aa .cell
inductive CL(sc:TV)(N:List ay):aV->ay->aY->Nat->List (Nat×ay)->Sd->Prop
 |zero{o bt:aV}{m:ay}{L:Nat}{B:List (Nat×ay)}{D J:Sd}{apos cpos O:Pos}{M:W9}{q:TV}{ns ps:List ay}(hl:BT.IG L=aa ⟨ns,ns,.ret bt⟩)(U:LPa M ps)(hn:ns=ps++B.map (·.2))(hk:Bb ps (B.map (·.2)) q=ah)(V:MP sc N B=ah)
  (ht:N.contains (BT.jN (BT.GK L))=ah) (Y:CE' q ns bt J) (h3:dX D=ah) (Z:(apos.endLine==cpos.line)=ah) (W:CE' sc N o D):CL sc N o m .nil L B (.Call (.Attribute D m apos) [.Lambda M J q O] [] cpos)
 |one{o bt a:aV}{m:ay}{L:Nat}{B:List (Nat×ay)}{D J e:Sd}{apos cpos O:Pos}{M:W9}{q:TV}{ns ps:List ay}(hl:BT.IG L=aa ⟨ns,ns,.ret bt⟩)(hp:LPa M ps)(hn:ns=ps++B.map (·.2))(hk:Bb ps (B.map (·.2)) q=ah)(U:MP sc N B=ah)
  (ht:N.contains (BT.jN (BT.GK L))=ah) (Y:CE' q ns bt J) (Z:dX D=ah) (h6:(apos.endLine==cpos.line)=ah) (V:CE' sc N o D) (hs:noStar e=ah) (W:CE' sc N a e):CL sc N o m (.cons a .nil) L B (.Call (.Attribute D m apos) [e,.Lambda M J q O] [] cpos)
def KT(K:RQ)(a:az)(xs:List V):Prop :=
 ∃(o:ao) (q:Array aA) (n:Nat),(K.lookup a=aa o/\o.cls=.type "tuple"/\o.data=.seq q n/\q.size<=aj/\dg xs q.toList)/\o.dict=af
def KL(K:RQ)(a:az)(xs:List V):Prop:=∃(q:List aA) (n:Nat),K.lookup a=aa {cls:=.type "list",data:=.seq q.toArray n}/\q.length<=aj/\dg xs q
def LL(K:RQ)(H:Hp)(a:az)(xs:List V):Prop:=Rd H a (.aB xs)\/KL K a xs
def LL.sq(h:LL K H a xs):SqL K H a xs:=by
 rcases h with h|⟨its,n,h1,h2,h3⟩
 exact .inl h;exact .inr ⟨_,its.toArray,n,h1,rfl,rfl,rfl,by simpa using h2,by simpa using h3⟩
def KD(P:So)(w:SQ)(K:RQ)(a:az)(es:List (ay×V)):Prop :=
 (a==Vj)=ai/\∃B:List (Key×aA),KV (es.map λq=>(Sum.inr q.1,q.2)) B/\∀h:aq,K.In h->h.DictOf (dH P w) a B
mutual
inductive RD(K:RQ)(m:List az)(H:Hp):V->aM->Prop
 |aD:RD K m H .aD .aD
 |bl(b:Bool):RD K m H (.bl b) (.bl b)
 |int(i:Int):RD K m H (.int i) (.int i)
 |str(x:ay)(h:PyData.strOk x=ah):RD K m H (.str x) (.str x)
 |aC{a:az}{vs:List V}{ds:List aM}(h:(Rd H a (.aC vs)/\a∉m)\/KT K a vs)(r:RDs K m H vs ds):RD K m H (.ref a) (.aC ds)
 |aB{a:az}{vs:List V}{ds:List aM}(h:(Rd H a (.aB vs)/\a∉m)\/KL K a vs)(r:RDs K m H vs ds):RD K m H (.ref a) (.aB ds)
inductive RDs(K:RQ)(m:List az)(H:Hp):List V->List aM->Prop
 |nil:RDs K m H [] []
 |cons{v:V}{d:aM}{vs:List V}{ds:List aM}(r:RD K m H v d)(t:RDs K m H vs ds):RDs K m H (v::vs) (d::ds)
end
inductive RDk(K:RQ):List (ay×V)->List (ay×aM)->Prop
 |nil:RDk K [] []
 |cons{x:ay}{v:V}{d:aM}{es:List (ay×V)}{kvs:List (ay×aM)}(r:∀m H,RD K m H v d)(t:RDk K es kvs):RDk K ((x,v)::es) ((x,d)::kvs)
inductive RA(K:RQ)(m:List az)(H:Hp):V->aN->Prop
 |p{v:V}{d:aM}(r:RD K m H v d):RA K m H v (.p d)
 |r{a:az}{n:Nat}(h:m[n]?=aa a):RA K m H (.ref a) (.r n)
 |o{a:az}{n:Nat}(h:m[n]?=aa a):RA K m H (.ref a) (.o n)
def Tr(m:List az)(H:Hp)(a:az)(o:ao):Prop:=H a=aa (.frz o (.own 0))/\a∉m
noncomputable def P9(x:ay):ay:=x++".<locals>."++"<lambda>"
inductive uY(m:List az)(H:Hp)(cl:List (ay×az)):List ay->List V->Prop
 |nil:uY m H cl [] []
 |cons{x:ay}{c:az}{o:ao}{u:aA}{v:V}{xs:List ay}{vs:List V}(h1:cl.lookup x=aa c)(h2:Tr m H c o)(q:o.data=.cell (aa u))(r:RelV v u)(t:uY m H cl xs vs):uY m H cl (x::xs) (v::vs)
inductive qq(m:List az)(H:Hp)(f:az)(L:Nat)(vs:List V):Prop
 |mk(bt:_)(ps:_)(fs:_)(M:_)(D:_)(sc:_)(cl:_)(pm:_)(B:_)(J:_)(O:_)(os:_)(t:_)(q:_)(h1:BT.IG L=aa ⟨ps++fs,ps++fs,.ret bt⟩)(h2:LPa M ps)(h3:Bb ps fs sc=ah)(h4:CE' sc (ps++fs) bt D)(h5:(∀x y c,cl.lookup x=aa c->cl.lookup y=aa c->x=y))(h6:(∀x c,cl.lookup x=aa c->x∈fs))(h7:Tr m H f (PySem.W.kla_obj "<lambda>" q M D sc cl pm J B))(h8:Tr m H J O)(Z:O.data=.fields os)(U:os[1]?=aa (.str q t))(Y:uY m H cl fs vs):qq m H f L vs
inductive RCs(K:RQ)(m:List az)(H:Hp):List V->List BT.Cp->Prop
 |nil:RCs K m H [] []
 |cons{v:V}{x:BT.Cp}{vs:List V}{xs:List BT.Cp}(r:RA K m H v x.w)(t:RCs K m H vs xs):RCs K m H (v::vs) (x::xs)
def TB(K:RQ)(H:Hp):Prop:=∀x∈BT.iR,∀c P,Ud K x=aa (c,P)->∃q,H P=aa (.tbl q)/\TriplesOk q.toList ∧
 ∀B v,codeAmong B q.toList=aa v->∃J D os t,v=.ref J/\H J=aa (.frz D (.own 0))/\D.data=.fields os/\os[1]?=aa (.str (P9 x) t)
def TB.mono(h:TB K H)(h1:∀P ps,H P=aa (.tbl ps)->H' P=aa (.tbl ps))(h2:∀a o vs,o.data=.fields vs->H a=aa (.frz o (.own 0))->H' a=aa (.frz o (.own 0))):TB K H':=λx O c P e=>by obtain⟨ps,e1,e2,U⟩:=h x O c P e;refine⟨ps,h1 _ _ e1,e2,λB v q=>?_⟩;obtain⟨V,M,os,t,L,J,D⟩:=U B v q;exact⟨V,M,os,t,L,h2 _ _ _ D.1 J,D⟩
def CN(K:RQ)(c:ay)(C:az):Prop:=Te K Ss c=aa (aa (.ref C))
structure XT(K:RQ)(c:ay)(C:az):Prop where
 ga:SD K (.ref C) "__getattribute__"=aa (aa (.builtin "BaseException.__getattribute__"))
 nga:SD K (.ref C) "__getattr__"=aa af
 mrb:Wd K C (.type "BaseException")=aa ah
 dct:UE K C=ah
 fnd:SD K (.ref C) "__class__"=aa (aa (.builtin "object.__class__"))
 spc:UD K (.builtin "object.__class__") "__get__"=aa (aa (.builtin "getset_descriptor.__get__"))
 tak:VO K (.builtin "object.__class__")=aa ah
 mro:Wd K C (.type "object")=aa ah
 own:∀cn,GO cn=ah->BT.PR c cn=ah->∃D,CN K cn D/\Uj K (.ref C) (.ref D)=aa (BT.PP c cn)
 val:Uj K (.ref C) (.type "ValueError")=aa ah
def excAt(K:RQ)(c:ay)(a:az):aq->Prop:=λh=>∃o C,CN K c C/\XT K c C/\h.get? a=aa o/\o.cls=.ref C
inductive RKs(K:RQ)(m:List az)(H:Hp):List (Key×V)->List (BT.Ky×aM)->Prop
 |nil:RKs K m H [] []
 |cons{k:Key}{v:V}{d:aM}{vs:List (Key×V)}{kvs:List (BT.Ky×aM)}(q:RD K m H (kV k) (BT.HZ k))(r:RD K m H v d)(t:RKs K m H vs kvs):RKs K m H ((k,v)::vs) ((k,d)::kvs)
inductive RW(P:So)(w:SQ)(K:RQ)(m:List az)(H:Hp):V->aN->Prop
 |p{v:V}{d:aM}(r:RD K m H v d):RW P w K m H v (.p d)
 |r{a:az}{n:Nat}(h:m[n]?=aa a):RW P w K m H (.ref a) (.r n)
 |k{a:az}{es:List (ay×V)}{kvs:List (ay×aM)}(h:KD P w K a es)(r:RDk K es kvs):RW P w K m H (.ref a) (.k (.t kvs))
 |kl{a:az}{o:ao}{vs:List (Key×V)}{kvs:List (BT.Ky×aM)}(h:H a=aa (.frz o (.dK vs))/\a∉m)(r:RKs K m H vs kvs):RW P w K m H (.ref a) (.k (.l kvs))
 |o{a:az}{n:Nat}(h:m[n]?=aa a):RW P w K m H (.ref a) (.o n)
 |c{f:az}{L:Nat}{vs:List V}{q:List BT.Cp}(h:qq m H f L vs)(r:RCs K m H vs q):RW P w K m H (.ref f) (.c (.l L) q)
 |x{a:az}{c:ay}(h:H a=aa (.ext (excAt K c a)))(n:a∉m)(q:∃C,XT K c C):RW P w K m H (.ref a) (.x c)
 |g{f:az}{x:ay}(h:Te K Ss x=aa (aa (.ref f)))(r:TY K (.ref f)=ah):RW P w K m H (.ref f) (.c (.f x) [])
inductive RFs(K:RQ)(m:List az)(H:Hp):List (ay×V)->List (ay×aN)->Prop
 |nil:RFs K m H [] []
 |cons{f:ay}{v:V}{x:aN}{vs:List (ay×V)}{fs:List (ay×aN)}(r:RA K m H v x)(t:RFs K m H vs fs):RFs K m H ((f,v)::vs) ((f,x)::fs)
def CN.inj(h:CN K c C)(h':CN K c C'):C=C':=by have e:=h.symm.trans h';simpa using e
structure oz(K:RQ)(c:ay)(C:az):Prop where
 cn:CN K c C
 cls:Cls K C
 no:∀f,attrName f=ah->jH K C f
 rd:WL K C (.type "type")=ah
inductive RBs(m:List az):List V->List Nat->Prop
 |nil:RBs m [] []
 |cons{n:Nat}{a:az}{vs:List V}{ns:List Nat}(h:m[n]?=aa a)(t:RBs m vs ns):RBs m (.ref a::vs) (n::ns)
def jO(K:RQ)(m:List az)(H:Hp)(a:az):BT.Cl->Prop
 |.l D=>∃q,H a=aa (.aB q)/\RDs K m H q D|.o c fs=>∃C L q,H a=aa (.ins C L q)/\oz K c C/\RFs K m H q fs|.d B=>∃q,H a=aa (.dK q)/\RKs K m H q B|.z=>∃ob q,H a=aa (.frz ob (.dK q))|.b J=>∃q,H a=aa (.aB q)/\RBs m q J
inductive RWs(P:So)(w:SQ)(K:RQ)(m:List az)(H:Hp):List V->List aN->Prop
 |nil:RWs P w K m H [] []
 |cons{v:V}{x:aN}{vs:List V}{xs:List aN}(r:RW P w K m H v x)(t:RWs P w K m H vs xs):RWs P w K m H (v::vs) (x::xs)
structure RH(K:RQ)(m:List az)(H:Hp)(h:aO):Prop where
 nd:m.Nodup
 len:m.length=h.length
 cl:∀(i:Nat)(a:az)(c:BT.Cl),m[i]?=aa a->h[i]?=aa c->jO K m H a c
 tb:TB K H
def Bc(e:bg h n=aa xs):h[n]?=aa (.l xs):=by
 unfold bg at e;cases g:h[n]? with
 |none=>rw[g]at e;exact cU e|some c=>rw[g]at e;cases c<;>simp[BT.nN]at e;rw[e]
def Bd(e:bw h n=aa (c,fs)):h[n]?=aa (.o c fs):=by
 unfold bw at e;cases g:h[n]? with
 |none=>rw[g]at e;exact cU e|some c=>rw[g]at e;cases c<;>simp[BT.pP]at e;rw[e.1,e.2]
def Be{h:aO}{n:Nat}{ns:List Nat}(e:BT.bat h n=aa ns):h[n]?=aa (.b ns):=by
 unfold BT.bat at e;cases g:h[n]? with
 |none=>rw[g]at e;exact cU e|some c=>rw[g]at e;cases c<;>simp[BT.mR]at e;rw[e]
def RH.wB{m:List az}{H:Hp}{h:aO}(R:RH K m H h)(i:Nat)(a:az)(ns:List Nat)(e:m[i]?=aa a)(g:BT.bat h i=aa ns):∃vs,H a=aa (.aB vs)/\RBs m vs ns:=R.cl i a _ e (Be g)
def RH.cell(R:RH K m H h)(i:Nat)(a:az)(xs:List aM)(e:m[i]?=aa a)(g:bg h i=aa xs):∃vs,H a=aa (.aB vs)/\RDs K m H vs xs:=R.cl i a _ e (Bc g)
inductive OC(K:RQ)(m:List az)(H:Hp)(a:az)(c:ay)(fs:List (ay×aN)):Prop
 |mk(C:az)(dx:_)(vs:_)(h1:H a=aa (.ins C dx vs))(h2:oz K c C)(q:RFs K m H vs fs):OC K m H a c fs
def RH.tL(R:RH K m H h)(i:Nat)(a:az)(c:ay)(fs:List (ay×aN))(e:m[i]?=aa a)(g:bw h i=aa (c,fs)):OC K m H a c fs:=by obtain⟨C,L,q,J,D,B⟩:=R.cl i a _ e (Bd g);exact⟨C,L,q,J,D,B⟩
structure RS(P:So)(w:SQ)(K:RQ)(m:List az)(H:Hp)(σ:L2.St)(s:bx):Prop where
 len:σ.length=s.length
 get:∀(i:Nat)(x:aN),s[i]?=aa (aa x)->∃v,σ[i]?=aa (aa v)/\RW P w K m H v x
noncomputable def GP:HO->Bool
 |.tbl _=>ah|_=>ai
structure Ext(m:List az)(H:Hp)(m':List az)(H':Hp):Prop where
 pre:∃e,m'=m++e/\∀a∈e,H a=af
 keep:∀a o,H a=aa o->a∉m->GP o=ai->H' a=aa o
 live:∀a,H' a=af->H a=af
 frz:∀a ob vs,H a=aa (.frz ob (.dK vs))->H' a=aa (.frz ob (.dK vs))
def Ext.refl(m:List az)(H:Hp):Ext m H m H:=⟨⟨[],by simp,by simp⟩,λ_ _ h _ _=>h,λ_ h=>h,λ_ _ _ h=>h⟩
def Ext.jP(x:Ext m H m' H')(h:H a=aa o)(n:a∉m):a∉m':=by
 obtain⟨e,rfl,B⟩:=x.pre;intro q;rcases List.mem_append.mp q with q|q
 exact n q;rw[B a q]at h;exact cU h
def Ext.trans(x:Ext m H m1 H1)(y:Ext m1 H1 m2 H2):Ext m H m2 H2:=by
 obtain⟨e,rfl,J⟩:=x.pre;obtain⟨M,rfl,B⟩:=y.pre;refine⟨⟨e++M,by rw[Tg],λa L=>?_⟩,λa o h n t=>y.keep a o (x.keep a o h n t) (x.jP h n) t,λa h=>x.live a (y.live a h),λa ob D h=>y.frz a ob D (x.frz a ob D h)⟩;rcases List.mem_append.mp L with q|q
 exact J a q;exact x.live a (B a q)
def Rd.ext(x:Ext m H m' H')(h:Rd H a u)(n:a∉m)(t:GP u=ai:=by rfl):Rd H' a u/\a∉m':=by
 rcases h with h|⟨o,h⟩
 exact⟨.inl (x.keep _ _ h n t),x.jP h n⟩;exact⟨.inr ⟨o,x.keep _ _ h n rfl⟩,x.jP h n⟩
def Tr.ext(x:Ext m H m' H')(h:Tr m H a o):Tr m' H' a o:=⟨x.keep _ _ h.1 h.2 rfl,x.jP h.1 h.2⟩
def uY.ext(x:Ext m H m' H')(r:uY m H cl xs vs):uY m' H' cl xs vs:=by
 induction r with
 |nil=>exact .nil|cons J D B r t q=>exact .cons J (D.ext x) B r q
def qq.ext(x:Ext m H m' H')(h:qq m H f L vs):qq m' H' f L vs:=by obtain⟨k,M,fs,U,l,J,cl,O,D,j,V,os,t,q,i,g,e,d,c,b,a,Z,Y,W,B⟩:=h;exact⟨k,M,fs,U,l,J,cl,O,D,j,V,os,t,q,i,g,e,d,c,b,a.ext x,Z.ext x,Y,W,B.ext x⟩
section
variable{K:RQ}
mutual
theorem RD.ext(x:Ext m H m' H'):∀{v:V}{d:aM},RD K m H v d->RD K m' H' v d
 |_,_,.aD=>.aD|_,_,.bl b=>.bl b|_,_,.int i=>.int i|_,_,.str y h=>.str y h|_,_,.aC h r=>.aC (h.elim (λq=>.inl (Rd.ext x q.1 q.2)) .inr) (RDs.ext x r)|_,_,.aB h r=>.aB (h.elim (λq=>.inl (Rd.ext x q.1 q.2)) .inr) (RDs.ext x r)
theorem RDs.ext(x:Ext m H m' H'):∀{vs:List V}{ds:List aM},RDs K m H vs ds->RDs K m' H' vs ds
 |_,_,.nil=>.nil|_,_,.cons r t=>.cons (RD.ext x r) (RDs.ext x t)
end
def RA.rw(r:RA K m H v d):RW P w K m H v d:=by
 cases r with
 |p r=>exact .p r|r h=>exact .r h|o h=>exact .o h
def RW.ra(r:RW P w K m H v d)(q:BT.attrOk d=ah):RA K m H v d:=by
 cases r with
 |p r=>exact .p r|r h=>exact .r h|o h=>exact .o h|_=>exact aS q
def Ext.ix(x:Ext m H m' H'){n:Nat}(h:m[n]?=aa a):m'[n]?=aa a:=by obtain⟨e,rfl,_⟩:=x.pre;rw[RU (by rcases Sq _ m.length with q|q;exact q;rw[Si q]at h;exact cU h)];exact h
def RA.ext(x:Ext m H m' H')(r:RA K m H v d):RA K m' H' v d:=by
 cases r with
 |p r=>exact .p (r.ext x)|r h=>exact .r (x.ix h)|o h=>exact .o (x.ix h)
def RCs.ext(x:Ext m H m' H')(r:RCs K m H vs cs):RCs K m' H' vs cs:=by
 induction r with
 |nil=>exact .nil|cons r t q=>exact .cons (r.ext x) q
def RKs.ext(x:Ext m H m' H')(r:RKs K m H vs kvs):RKs K m' H' vs kvs:=by
 induction r with
 |nil=>exact .nil|cons B r t q=>exact .cons (B.ext x) (r.ext x) q
def RW.ext(x:Ext m H m' H')(r:RW P w K m H v d):RW P w K m' H' v d:=by
 cases r with
 |p r=>exact .p (r.ext x)
 |r h =>
  obtain⟨e,rfl,_⟩:=x.pre;refine .r ?_;rw[RU (by rcases Sq _ m.length with q|q;exact q;rw[Si q]at h;exact cU h)];exact h
 |k h r=>exact .k h r|kl h r=>exact .kl ⟨x.keep _ _ h.1 h.2 rfl,x.jP h.1 h.2⟩ (r.ext x)|c h r=>exact .c (h.ext x) (r.ext x)|g h r=>exact .g h r|x h n B=>exact .x (x.keep _ _ h n rfl) (x.jP h n) B
 |o h =>
  obtain⟨e,rfl,_⟩:=x.pre;refine .o ?_;rw[RU (by rcases Sq _ m.length with q|q;exact q;rw[Si q]at h;exact cU h)];exact h
def RFs.ext(x:Ext m H m' H')(r:RFs K m H vs fs):RFs K m' H' vs fs:=by
 induction r with
 |nil=>exact .nil|cons r t q=>exact .cons (r.ext x) q
def RBs.ext(x:Ext m H m' H'){vs:List V}{ns:List Nat}(r:RBs m vs ns):RBs m' vs ns:=by
 induction r with
 |nil=>exact .nil|cons h t q=>exact .cons (x.ix h) q
def jO.ext(x:Ext m H m' H')(e:H' a=H a)(r:jO K m H a c):jO K m' H' a c:=by
 cases c with
 |o c fs=>obtain⟨C,L,q,B,D,J⟩:=r;exact⟨C,L,q,e.trans B,D,J.ext x⟩|z=>obtain⟨ob,q,B⟩:=r;exact⟨ob,q,e.trans B⟩|_=>obtain⟨q,B,D⟩:=r;exact⟨q,e.trans B,D.ext x⟩
def jO.some(r:jO K m H a c):∃o,H a=aa o:=by
 cases c with
 |o c fs=>obtain⟨C,L,B,q,D,J⟩:=r;exact⟨_,q⟩|z=>obtain⟨ob,B,q⟩:=r;exact⟨_,q⟩|_=>obtain⟨B,q,D⟩:=r;exact⟨_,q⟩
def RWs.ext(x:Ext m H m' H')(r:RWs P w K m H vs ds):RWs P w K m' H' vs ds:=by
 induction r with
 |nil=>exact .nil|cons r t q=>exact .cons (r.ext x) q
def RS.ext(x:Ext m H m' H')(r:RS P w K m H σ s):RS P w K m' H' σ s :=
 ⟨r.len,λi y e=>by obtain⟨v,h,q⟩:=r.get i y e;exact⟨v,h,q.ext x⟩⟩
theorem RDs.length:∀{vs:List V}{ds:List aM},RDs K m H vs ds->vs.length=ds.length
 |_,_,.nil=>rfl
 |_,_,.cons _ t=>by rw[Sh,Sh,RDs.length t]
theorem RWs.length:∀{vs:List V}{ds:List aN},RWs P w K m H vs ds->vs.length=ds.length
 |_,_,.nil=>rfl
 |_,_,.cons _ t=>by rw[Sh,Sh,RWs.length t]
theorem RDs.get:∀{vs:List V}{ds:List aM}{i:Nat}{d:aM},RDs K m H vs ds->ds[i]?=aa d->∃v,vs[i]?=aa v/\RD K m H v d
 |_,_,_,_,.nil,e=>by simp at e
 |_,_,0,_,.cons r _,e=>by simp at e;subst e;exact⟨_,rfl,r⟩
 |_,_,i+1,d,.cons _ t,e=>by obtain⟨u,B,q⟩:=RDs.get (i:=i) (d:=d) t (by simpa using e);exact⟨u,by simpa using B,q⟩
theorem RDs.append:∀{vs ws:List V}{ds es:List aM},RDs K m H vs ds->RDs K m H ws es->RDs K m H (vs++ws) (ds++es)
 |_,_,_,_,.nil,s=>s|_,_,_,_,.cons r t,s=>.cons r (RDs.append t s)
theorem RDs.take:∀{vs:List V}{ds:List aM}(n:Nat),RDs K m H vs ds->RDs K m H (vs.take n) (ds.take n)
 |_,_,0,_=>.nil|_,_,_+1,.nil=>.nil|_,_,n+1,.cons r t=>.cons r (RDs.take n t)
theorem RDs.drop:∀{vs:List V}{ds:List aM}(n:Nat),RDs K m H vs ds->RDs K m H (vs.drop n) (ds.drop n)
 |_,_,0,r=>r|_,_,_+1,.nil=>.nil|_,_,n+1,.cons _ t=>RDs.drop n t
theorem RDs.set(r:RD K m H v d):∀{vs:List V}{ds:List aM}(i:Nat),RDs K m H vs ds->RDs K m H (vs.set i v) (ds.set i d)
 |_,_,_,.nil=>.nil|_,_,0,.cons _ t=>.cons r t|_,_,i+1,.cons q t=>.cons q (RDs.set r i t)
theorem RDs.pick(r:RDs K m H vs ds):∀l:List Nat,RDs K m H (l.filterMap λi=>vs[i]?) (l.filterMap λi=>ds[i]?)
 |[]=>.nil
 |i::l=>by
  rw[SC,SC];cases g:ds[i]? with
  |none =>
   have:vs[i]?=af:=by have h:=r.length;rw[XC]at g⊢;lia
   rw[this];exact RDs.pick r l
  |some d =>
   obtain⟨v,e,q⟩:=r.get g;rw[e];exact .cons q (RDs.pick r l)
theorem RDs.dropLast:∀{vs:List V}{ds:List aM},RDs K m H vs ds->RDs K m H vs.dropLast ds.dropLast
 |_,_,.nil=>.nil|_,_,.cons _ .nil=>.nil|_,_,.cons r (.cons q t)=>.cons r (RDs.dropLast (.cons q t))
theorem RDs.rep(r:RDs K m H vs ds):∀k:Nat,RDs K m H (Sw k vs).flatten (Sw k ds).flatten
 |0=>.nil
 |k+1=>by rw[Ua,Ua,UO,UO];exact RDs.append r (RDs.rep r k)
def qt{N:List az}(D:N.Nodup){i j:Nat}{x:az}(a:N[i]?=aa x)(b:N[j]?=aa x):i=j:=by
 have B:i<N.length:=by
  rcases Sq i N.length with z|z
  exact z;rw[Si z]at a;exact cU a
 have q:j<N.length:=by
  rcases Sq j N.length with z|z
  exact z;rw[Si z]at b;exact cU b
 rw[RY B]at a;rw[RY q]at b;exact(WV D).mp ((Sa a).trans (Sa b).symm)
inductive RR(K:RQ)(m:List az)(H:Hp):V->aM->Prop
 |d{v:V}{d:aM}(r:RD K m H v d):RR K m H v d
 |l{a:az}{vs:List V}{ds:List aM}(h:H a=aa (.aB vs))(r:RDs K m H vs ds):RR K m H (.ref a) (.aB ds)
def dZ(B:RH K m H h)(r:RW P w K m H v x)(e:aW x h=aa d):RR K m H v d:=by
 cases r with
 |p r=>cases e;exact .d r
 |@r a n q =>
  simp only[aW]at e;cases g:bg h n with
  |none=>rw[g]at e;exact cU e
  |some D =>
   rw[g]at e;cases e;obtain⟨M,L,J⟩:=B.cell n a D q g;exact .l L J
 |_=>exact cU e
inductive RLs(K:RQ)(m:List az)(H:Hp)(v:V)(ds:List aM):Prop
 |mk(a:az)(vs:List V)(e:v=.ref a)(l:LL K H a vs)(r:RDs K m H vs ds):RLs K m H v ds
inductive RTs(K:RQ)(m:List az)(H:Hp)(v:V)(ds:List aM):Prop
 |mk(a:az)(vs:List V)(e:v=.ref a)(l:SqT K H a vs)(r:RDs K m H vs ds):RTs K m H v ds
theorem RR.aB{v:V}{ds:List aM}(r:RR K m H v (.aB ds)):RLs K m H v ds:=by
 cases r with
 |d r=>cases r with|aB h r=>exact⟨_,_,rfl,h.elim (λq=>.inl q.1) .inr,r⟩
 |l h r=>exact⟨_,_,rfl,.inl (.inl h),r⟩
theorem RR.aC{v:V}{ds:List aM}(r:RR K m H v (.aC ds)):RTs K m H v ds:=by
 cases r with
 |d r=>cases r with|aC h r=>exact⟨_,_,rfl,h.elim (λq=>.inl q.1) (λ⟨o,its,n,q,_⟩=>.inr ⟨o,its,n,q⟩),r⟩
def RR.int{v:V}{i:Int}(r:RR K m H v (.int i)):v=.int i:=by cases r with|d r=>cases r;rfl
theorem RR.str{v:V}{x:ay}(r:RR K m H v (.str x)):v=.str x/\PyData.strOk x=ah:=by cases r with|d r=>cases r with|str _ h=>exact⟨rfl,h⟩
def RR.bl{v:V}{b:Bool}(r:RR K m H v (.bl b)):v=.bl b:=by cases r with|d r=>cases r;rfl
def RR.aD(r:RR K m H v .aD):v=.aD:=by cases r with|d r=>cases r;rfl
def TB.new(q:H p=af)(h:TB K H):TB K (upd H p o) :=
 h.mono (λP B e=>by rw[dB (dW e q)];exact e) λa o _ _ e=>by rw[dB (dW e q)];exact e
def ko(B:H p=af):Ext m H m (upd H p o) :=
 ⟨⟨[],by simp,by simp⟩,λa q h _ _=>by rw[dB (dW h B)];exact h,λa h=>by
  by_cases e:a=p
  rw[e];exact B
  ·rw[dB e] at h;exact h,λa ob D h=>by rw[dB (dW h B)];exact h⟩
def RH.jP(R:RH K m H h)(D:H p=af):p∉m:=by
 intro q;obtain⟨i,B⟩:=Ur q;have J:i<h.length:=by
  rw[←R.len];rcases Sq i m.length with z|z
  exact z;rw[Si z]at B;exact cU B
 obtain⟨o,e⟩:=(R.cl i p h[i] B (RY J)).some;rw[e]at D;cases D
def Le(H H':Hp):Prop:=∀a u,H a=aa u->H' a=aa u
def Le.tb(q:Le H H')(t:TB K H):TB K H':=t.mono (λ_ _ e=>q _ _ e) λ_ _ _ _ e=>q _ _ e
def IJ(q:H p=af):Le H (upd H p o):=λa u e=>by rw[dB (dW e q)];exact e
def RH.ext(R:RH K m H h)(x:Ext m H m H')(k:Le H H'):RH K m H' h :=
 ⟨R.nd,R.len,λi a c e1 e2=>by obtain⟨o,e⟩:=(R.cl i a c e1 e2).some;exact(R.cl i a c e1 e2).ext x (by rw[e];exact k _ _ e),k.tb R.tb⟩
noncomputable def MQ:HO->Bool
 |.aB _=>ah|.ins _ _ _=>ah|.dK _=>ah|_=>ai
noncomputable def MR:HO->Bool
 |.frz _ (.dK _)=>ah|.aB _=>ah|.ins _ _ _=>ah|.dK _=>ah|_=>ai
def RH.mu(R:RH K m H h)(L:a∈m):∃o,H a=aa o/\MR o=ah:=by
 obtain⟨i,B⟩:=Ur L;have J:i<h.length:=by
  rw[←R.len];rcases Sq i m.length with z|z
  exact z;rw[Si z]at B;exact cU B
 have z:=R.cl i a h[i] B (RY J);cases g:h[i]with
 |o c fs=>rw[g]at z;obtain⟨C,U,D,q,M,O⟩:=z;exact⟨_,q,rfl⟩|z=>rw[g]at z;obtain⟨ob,D,q⟩:=z;exact⟨_,q,rfl⟩|_=>rw[g]at z;obtain⟨D,q,M⟩:=z;exact⟨_,q,rfl⟩
def RH.new(R:RH K m H h)(q:H p=af):RH K m (upd H p o) h :=
 R.ext (ko q) (IJ q)
def jc(B:H p=af):Ext m H (m++[p]) (upd H p o) :=
 ⟨⟨[p],rfl,by simpa using B⟩,λa q h _ _=>by rw[dB (dW h B)];exact h,λa h=>by
  by_cases e:a=p
  rw[e];exact B
  ·rw[dB e] at h;exact h,λa ob D h=>by rw[dB (dW h B)];exact h⟩
def RH.IK(R:RH K m H h)(q:H p=af)(r:jO K (m++[p]) (upd H p o) p c):RH K (m++[p]) (upd H p o) (h++[c]):=by
 have B:=R.jP q;have x:Ext m H (m++[p]) (upd H p o):=jc q;refine⟨List.nodup_append.mpr ⟨R.nd,by simp,λa M b D=>by simp at D;subst D;exact λe=>B (e ▸ M)⟩,by simp[R.len],λi a J e1 e2=>?_,R.tb.new q⟩
 by_cases c:i<m.length
 ·rw[RU c]at e1;rw[RU (by rw[←R.len];exact c)]at e2;have L:a≠p:=by intro e;subst e;exact B (Sg e1)
  exact(R.cl i a J e1 e2).ext x (dB L)
 ·have e:i=m.length:=by
   rcases Sq i (m++[p]).length with z|z
   simp at z;lia;rw[Si z]at e1;exact cU e1
  subst e;simp at e1;rw[R.len]at e2;simp at e2;subst e1 e2;exact r
def RH.Qa(R:RH K m H h)(q:H p=af)(r:RDs K m H vs xs):RH K (m++[p]) (upd H p (.aB vs)) (h++[.l xs]) :=
 R.IK q ⟨vs,eN,r.ext (jc q)⟩
def TB.set(B:∃u,H a=aa u/\MR u=ah)(h:TB K H):TB K (upd H a o):=by obtain⟨w,hw,q⟩:=B;refine h.mono (λP D e=>?_) λb ob _ _ e=>?_;rw[dB (λz=>by subst z;rw[hw]at e;cases e;exact aS q)];exact e;rw[dB (λz=>by subst z;rw[hw]at e;cases e;exact aS q)];exact e
def oA{a:az}{o:HO}(M:a∈m)(B:∃u,H a=aa u/\MQ u=ah):Ext m H m (upd H a o) :=
 ⟨⟨[],by simp,by simp⟩,λb u q n _=>by
  have D:b≠a:=by intro e;subst e;exact n M
  rw[dB D];exact q,λb q=>by
  by_cases e:b=a
  subst e;rw[eN]at q;cases q
  ·rw[dB e]at q;exact q,λb ob O q=>by
  obtain ⟨u,J,L⟩:=B;rw[dB (λz=>by subst z;rw[J] at q;cases q;exact aS L)];exact q⟩
def iH(q:a∈m)(h:H a=aa (.aB us)):Ext m H m (upd H a (.aB vs)):=oA q ⟨_,h,rfl⟩
def RH.setC{h:aO}(R:RH K m H h){n:Nat}{a:az}{o:HO}{c:BT.Cl}(hn:m[n]?=aa a)(B:∃u,H a=aa u/\MQ u=ah)(r:jO K m (upd H a o) a c):RH K m (upd H a o) (h.set n c):=by
 have x:Ext m H m (upd H a o):=oA (Sg hn) B;refine⟨R.nd,by simp[R.len],λi b q e1 e2=>?_,R.tb.set (R.mu (Sg hn))⟩
 by_cases c:i=n
 ·subst c;rw[hn]at e1;cases e1;have J:i<h.length:=by
   rw[←R.len];rcases Sq i m.length with z|z
   exact z;rw[Si z]at hn;exact cU hn
  rw[SN J]at e2;cases e2;exact r
 ·rw[Sy (Td c)]at e2;have D:b≠a:=by intro e;subst e;exact c (qt R.nd e1 hn)
  exact(R.cl i b q e1 e2).ext x (dB D)
def RH.set(R:RH K m H h)(hn:m[n]?=aa a)(q:H a=aa (.aB us))(r:RDs K m H vs xs):RH K m (upd H a (.aB vs)) (h.set n (.l xs)) :=
 R.setC hn ⟨_,q,rfl⟩ ⟨vs,eN,r.ext (iH (Sg hn) q)⟩
end
end BS
end
section
namespace BS
open PySem PySem.Spec PyProof.Rows L2 PySem.SeqAt
def mW{E:aA->RV->Prop}(f:Nat->β->Sem (ForInStep β))(n:Nat)(I:Nat->β->RV->Prop)(Q:β->RV->Prop)
(turn:∀i b s,i<n->I i b s->av M A (f i b) (λr s'=>match r with|.yield D=>I (i+1) D s'|.done D=>Q D s') E s)
(fin:∀b s,I n b s->Q b s)(b:β)(h:I 0 b s):av M A (forIn [:n] b f) Q E s:=by
 rw[Std.Legacy.Range.forIn_eq_forIn_range'];have e:Yz [:n].start [:n].size [:n].step=Yz 0 (n-0):=by simp[Std.Legacy.Range.size]
 rw[e];refine wpAny_forIn_list f (λrest b s=>∃i,i<=n/\rest=Yz i (n-i)/\I i b s) Q (λx rest b s ⟨i,hi,hr,q⟩=>?_) (λb s ⟨i,hi,hr,q⟩=>?_) _ b ⟨0,Tu _,rfl,h⟩
 ·have B:i<n:=by
   rcases Sq i n with z|z
   exact z;rw[show n-i=0 by lia]at hr;simp at hr
  rw[show n-i=(n-(i+1))+1 by lia,List.range'_succ]at hr
  injection hr with e1 e2
  subst e1;refine Uy (turn x b s B q) (λr s' z=>?_) λ_ _ z=>z;cases r with
  |yield D=>exact⟨x+1,B,e2,z⟩|done D=>exact z
 ·have:i=n:=by
   rcases Sq i n with z|z
   rw[show n-i=(n-(i+1))+1 by lia,List.range'_succ]at hr;simp at hr;lia
  subst this;exact fin b s q
def pS(l:az)(items:Array aA)(n:Nat)(dd:Option az)(O:Array (Option aA))(x:aA)(e:aA->Bool)(j:Nat)(Z:j<items.size)
(L:e items[j]=ah)(J:∀m (Y:m<items.size),m<j->e items[m]=ai):
 Meets (Builtin.«tuple.index» ⟨[.ref l,x],[]⟩)
  (λA R s=>s.heap.get? l=aa {cls:=.type "tuple",dict:=dd,data:=.seq items n,slots:=O}/\(∀y,y∈items->EqAt A.in1 s y x (e y))/\R (.ok (.ret (.int j s.toks))) {s with toks:=s.toks+1}) :=
 .of_wp λB w A R s h=>by
 obtain⟨U,g,d,M,os⟩:=s;obtain⟨V,W,h⟩:=h
 wp_walk using Va V,mW _ _ (λi b D=>i<=j/\b.1=af/\D=⟨U,g,d,M,os⟩) _
 case turn =>
  rintro i b D hi ⟨hij,hb,rfl⟩
  have q:i<items.size:=by lia
  rw[SI q];refine RP (W _ (Array.getElem_mem q) B w _ _ ?_)
  by_cases c:i=j
  ·subst c;rw[L]
   wp_walk
   exact⟨_,rfl,h⟩
  ·rw[J i q (by lia)]
   wp_walk
   exact⟨by lia,rfl,rfl⟩
 case fin =>
  rintro b D ⟨hij,_,_⟩
  lia
 case h=>exact⟨Tu _,rfl,rfl⟩
def uZ(l:az)(items:Array aA)(n:Nat)(dd:Option az)(U:Array (Option aA))(k:Int)(t:Tok)(h1:-1000<=k)(h2:k<=1000)(D:¬items.isEmpty=ah)(V:k≠1)(i:0<k)(hz:items.size*k.toNat<=aj):
 Meets (Builtin.«tuple.__mul__» ⟨[.ref l,.int k t],[]⟩)
  (λA R s=>s.heap.get? l=aa {cls:=.type "tuple",dict:=dd,data:=.seq items n,slots:=U}/\R (.ok (.ret (.ref s.heap.objs.size))) {s with heap:=s.heap.push {cls:=.type "tuple",data:=.seq ((Sw k.toNat items).foldl (λB q=>B++q) #[])} }) :=
 .of_wp λM w A R s h=>by
 obtain⟨e,g,d,b,os⟩:=s;obtain⟨L,h⟩:=h;have f:=Yr;have Z:¬(decide (k < -2^63)||decide (k ≥ 2^63))=ah:=by simp;lia
 have o:¬(items.isEmpty||k==1)=ah:=by simp at D⊢;exact⟨D,V⟩
 have m:¬(decide (k<=0)||items.isEmpty)=ah:=by simp at D⊢;exact⟨by lia,D⟩
 have O:(k.toNat:Int)=k:=by lia
 have Y:¬((items.size:Int)*k>(2^63-1)/8):=by
  have z:((items.size*k.toNat:Nat):Int)<=(aj:Nat):=Int.ofNat_le.mpr hz;rw[Int.natCast_mul,O]at z;have a:((aj:Nat):Int)<=(2^63-1)/8:=by decide
  lia
 have j:¬Wh ((items.size:Int)*k)=ah:=by have z:((items.size*k.toNat:Nat):Int)<=(aj:Nat):=Int.ofNat_le.mpr hz;rw[Int.natCast_mul,O]at z;simp only[Wh,bM];lia
 have J:sizeOk (.seq ((Sw k.toNat items).foldl (λB q=>B++q) #[])):=by show((Sw k.toNat items).foldl (λB q=>B++q) #[]).size<=aj;rw[AutoListH.size_joined,Array.size_empty,U0];lia
 wp_walk using Va L
 rw[bK Z]
 wp_walk using Va L
 refine Wk (λc=>bL c ?_) (λ_=>?_);intro c;have W:=Y;simp at W c;lia
 wp_walk using Va L
 refine wpAny_ite_false (bN (Nat.not_lt.mpr J)) ?_
 wp_walk
 exact⟨_,rfl,h⟩
def mq:fillsNumberSlot (.type "tuple") "mul"=pure ai :=
 PySem.fillsNumberSlot_seq (id:="tuple.__mul__") (r:=aa (.builtin "tuple.__rmul__")) F.slot_tuple_mul.lookup (by decide +kernel) F.slot_tuple_rmul.lookup (by decide +kernel)
def qW:seqRepeat? (.type "tuple")=pure (aa (.builtin "tuple.__mul__")):=by unfold seqRepeat?;rw[PySem.seqSlot_of (T:="tuple") (name:="__mul__") (id:="tuple.__mul__") F.slot_tuple_mul.lookup (by decide +kernel),PySem.seqSlot_of (T:="tuple") (name:="__rmul__") (id:="tuple.__rmul__") F.slot_tuple_rmul.lookup (by decide +kernel)];rfl
def oB(a:Int)(t:Tok)(l:az)(items:Array aA)(n:Nat)(dd:Option az)(B:Array (Option aA)):
 Meets (Builtin.«int.__rmul__» ⟨[.int a t,.ref l],[]⟩) (λ_ R s=>s.heap.get? l=aa {cls:=.type "tuple",dict:=dd,data:=.seq items n,slots:=B}/\R (.ok (.ret Value.notImplemented)) s) :=
 .of_wp λq w A R s h=>by obtain⟨J,g,d,D,os⟩:=s;obtain⟨L,h⟩:=h;wp_walk;exact⟨_,rfl,h⟩
def mX(l:az)(items:Array aA)(n:Nat)(b:az)(q:Array aA)(U:Nat)(dd:Option az)(O:Array (Option aA))(V:¬(!items.isEmpty&&TZ (items.size+q.size))=ah)(J:items.size<=aj)(D:items.size+q.size<=aj+1):
 Meets (Builtin.«list.extend» ⟨[.ref l,.ref b],[]⟩) (λ_ R s=>s.heap.get? l=aa {cls:=.type "list",dict:=af,data:=.seq items n,slots:=#[]}/\s.heap.get? b=aa {cls:=.type "tuple",dict:=dd,data:=.seq q U,slots:=O}/\R (.ok (.ret T5)) {s with heap:=s.heap.update l (TN λx=>x++q),toks:=s.toks}) :=
 .of_wp λL w A R s h=>by
  obtain⟨Z,g,d,Y,os⟩:=s;obtain⟨M,W,h⟩:=h;have i:=Yr;have f:=AutoSeq1.sub_tuple_tuple;have e:=AutoSeq1.sub_list_list;have c:=AutoSeq1.sub_tuple_list;have a:=AutoSeq1.sub_list_tuple;have B:(items++q).size<=aj+1:=by rw[Array.size_append];exact D
  wp_walk using (Uw M rfl (hz:=J) (_hz':=B)),Va M,Va W;exact⟨_,rfl,h⟩
end BS
end
section
namespace BS
open PySem PySem.Spec PyProof.Rows L2
inductive Bnd{α β:Type}(x:Option (α×aO))(k:α->aO->Option β)(r:β):Prop
 |mk(a:α)(g:aO)(h1:x=aa (a,g))(h2:k a g=aa r):Bnd x k r
inductive MS{α β:Type}(x:Option α)(f:α->β)(r:β):Prop
 |mk(a:α)(h1:x=aa a)(h2:f a=r):MS x f r
inductive Bind(o:bA)(x y:aN)(h:aO)(z:aN)(h':aO):Prop
 |mk(d d' q:aM)(h1:aW x h=aa d)(h2:aW y h=aa d')(D:BT.kH o d d'=aa q)(B:z=.p q)(J:h'=h):Bind o x y h z h'
def c5{D B:Type}{x:Option (D×aO)}{k:D->aO->Option B}{r:B}(h:bB x k=aa r):Bnd x k r:=by
 cases x with
 |none=>exact cU h|some q=>exact⟨q.1,q.2,rfl,h⟩
def dh{B q:Type}{x:Option B}{f:B->q}{r:q}(h:x.map f=aa r):MS x f r:=by
 cases x with
 |none=>exact cU h|some a=>exact⟨a,rfl,Sa h⟩
def Post(P:So)(w:SQ)(K:RQ)(m:List az)(H:Hp)(z:aN)(h':aO)(Q:VK):Prop :=
 ∀v q B,Ext m H B q->RH K B q h'->RW P w K B q v z->Q v q
inductive rOp(P:So)(w:SQ)(K:RQ)(f:aN->aN->aO->Option (aN×aO))(v u:V)(H:Hp)(Q:VK):Prop
 |mk(m:List az)(h:aO)(x y z:aN)(h':aO)(R:RH K m H h)(B:RW P w K m H v x)(q:RW P w K m H u y)(e:f x y h=aa (z,h'))(p:Post P w K m H z h' Q):rOp P w K f v u H Q
def lH{o:bA}{x y:aN}{h:aO}{z:aN}{h':aO}(e:BT.qR o x y h=aa (z,h')):Bind o x y h z h':=by
 unfold BT.qR at e;cases e1:aW x h with
 |none=>rw[e1]at e;exact cU e
 |some d =>
  cases e2:aW y h with
  |none=>rw[e1,e2]at e;exact cU e
  |some D =>
   rw[e1,e2]at e;obtain⟨q,eq,B⟩:=dh e;cases B;exact⟨d,D,q,e1,e2,eq,rfl,rfl⟩
section
variable{X:Cx}
def f9:BT.lim<=aj:=by decide
inductive MT(s:RV)(a:az)(xs:List V):Prop
 |mk(z:xs.length<=aj)(q:List aA)(n:Nat)(r:dg xs q)(l:xs.length=q.length)(e:s.heap.get? a=aa {cls:=.type "list",data:=.seq q.toArray n}):MT s a xs
def rdL(I:Inv X zt σ H s)(r:LL X.K H a xs):MT s a xs:=by
 rcases r with r|⟨q,n,h1,h2,h3⟩
 ·obtain⟨z,q,n,r,e⟩:=r.ok I.aJ;exact⟨z,q,n,r,r.length,e⟩
 exact⟨by rw[h3.length];exact h2,q,n,h3,h3.length,I.kIn a _ h1⟩
def Bg(I:Inv X zt σ H s)(O:LL X.K H a xs)(M:LL X.K H b ys)(hz:xs.length+ys.length<=aj)
(q:∀p,H p=af->Q (.ref p) (upd H p (.aB (xs++ys)))):av (Su X.prog X.w) X.A (Uq .Add (.ref a) (.ref b)) (EP X zt σ Q) X.xe s:=by
 obtain⟨z,D,n,r,Y,e⟩:=rdL I O;obtain⟨V,B,W,J,L,e2⟩:=rdL I M;refine PySem.P.add_list e e2 ?_ (by rw[RZ,RZ];lia);have U:D.toArray++B.toArray=(D++B).toArray:=by simp
 rw[U];exact⟨.ref _,_,I.LM (t':=s.toks) (r.append J) (by rw[Sz];lia),rfl,q _ I.fresh⟩
def yF(I:Inv X zt σ H s)(d:SqT X.K H a xs)(Z:SqT X.K H b ys)(hz:xs.length+ys.length<=aj)
(j:xs=[]->Q (.ref b) H)(i:ys=[]->Q (.ref a) H)(q:∀p,H p=af->Q (.ref p) (upd H p (.aC (xs++ys)))):av (Su X.prog X.w) X.A (Uq .Add (.ref a) (.ref b)) (EP X zt σ Q) X.xe s:=by
 by_cases c:xs=[]
 ·obtain⟨D,h,l,_⟩:=I.tuple d;obtain⟨B,r,k,_⟩:=I.tuple Z;obtain⟨⟨o,dd,e,g⟩,V,Y,n,W⟩:=id l;obtain⟨⟨f,U,data2,O⟩,J,M,m,L⟩:=id k;simp only at Y W M L;subst Y W M L;have z:D=[]:=h.lu.mpr c;exact concat_meets ⟨_,V,rfl⟩ ⟨_,J,rfl⟩ XH YD VI VF (VA _ _)
   (tuple_addW0 a b D.toArray B.toArray n m dd U g O (by simp[z])) ⟨V,J,⟨.ref b,H,I,rfl,j c⟩⟩
 exact D5 zt s σ H (.ref a) (.ref b) _ _ Q I rfl rfl ⟨a,b,xs,ys,rfl,rfl,d,Z,c,hz,i,λ_=>q⟩
def lI(R:RH X.K m H h)(q:H p=af)(r:RDs X.K m H vs ds)(B:Post X.prog X.w X.K m H (.p (.aC ds)) h Q):Q (.ref p) (upd H p (.aC vs)) :=
 B _ _ m (ko q) (R.new q) (.p (.aC (.inl ⟨.inl eN,R.jP q⟩) (r.ext (ko q))))
def jq(R:RH X.K m H h)(q:H p=af)(r:RDs X.K m H vs ds)(B:Post X.prog X.w X.K m H (.p (.aB ds)) h Q):Q (.ref p) (upd H p (.aB vs)) :=
 B _ _ m (ko q) (R.new q) (.p (.aB (.inl ⟨.inl eN,R.jP q⟩) (r.ext (ko q))))
def qX(R:RH X.K m H h)(q:H p=af)(r:RDs X.K m H vs ds)(B:Post X.prog X.w X.K m H (.r h.length) (h++[.l ds]) Q):Q (.ref p) (upd H p (.aB vs)) :=
 B _ _ (m++[p]) (jc q) (R.Qa q r) (.r (by rw[←R.len];simp))
def nk(R:RH X.K m H h)(B:H p=af)(r:RDs X.K m H vs ds)(q:Post X.prog X.w X.K m H (BT.new mu ds h).1 (BT.new mu ds h).2 Q):Q (.ref p) (upd H p (.aB vs)):=by
 cases mu with
 |false=>exact jq R B r q|true=>exact qX R B r q
def Post.here(R:RH X.K m H h)(q:Post X.prog X.w X.K m H (.p d) h Q)(r:RD X.K m H v d):Q v H:=q v H m (.refl _ _) R (.p r)
def qY(B:PyData.strOk x=ah)(q:PyData.strOk y=ah):PyData.strOk (x++y)=ah:=by show(x.cps++y.cps).all _=ah;rw[Array.all_append];simp only[PyData.strOk]at B q;rw[B,q];rfl
def IL:OpR X (Uq .Add) (rOp X.prog X.w X.K (BT.qR .add)):=by
 intro f s Z H v u E F Q I O U h;obtain⟨m,h,x,y,z,G,R,k,j,e,D⟩:=h;obtain⟨d,C,q,e1,e2,B,rfl,rfl⟩:=lH e;have M:=dZ R k e1;have L:=dZ R j e2;cases d<;>cases C<;>first|exact cU B|simp only[BT.sV,BT.nR,BT.nU,BT.e9,BT.nV,BT.sW,BT.nW,BT.nX,BT.nY,BT.l9]at B
 ·cases B;cases M.int;cases L.int;exact Hx f s Z H _ _ _ _ Q I O U ⟨_,_,rfl,rfl,D.here R (.int _)⟩
 ·obtain⟨c,B⟩:=dw B;cases B;obtain⟨ev,l⟩:=M.str;obtain⟨A,n⟩:=L.str;subst ev;subst A;have:=f9;exact uI f s Z H _ _ _ _ Q I O U ⟨_,_,rfl,rfl,by lia,D.here R (.str _ (qY l n))⟩
 ·obtain⟨c,B⟩:=dw B;cases B;obtain⟨a,g,rfl,Y,ra⟩:=M.aC;obtain⟨b,i,rfl,W,J⟩:=L.aC;cases O;cases U;have t:=ra.length;have o:=J.length;have:=f9;refine yF I Y W (by lia) (λz=>?_) (λz=>?_) λp V=>lI R V (ra.append J) D
  ·subst z;cases ra;cases L with|d r=>exact D.here R r
  ·subst z;cases J;rw[TJ]at D;cases M with|d r=>exact D.here R r
 ·obtain⟨c,B⟩:=dw B;cases B;obtain⟨a,g,rfl,Y,ra⟩:=M.aB;obtain⟨b,i,rfl,W,J⟩:=L.aB;cases O;cases U;have t:=ra.length;have o:=J.length;have:=f9;exact Bg I Y W (by lia) λp V=>jq R V (ra.append J) D
noncomputable def Qc:bA->Bool
 |.add=>ai|.mul=>ai|_=>ah
def qZ{o:bA}{d d' z:aM}(q:Qc o=ah)(e:BT.kH o d d'=aa z):∃i j,d=.int i/\d'=.int j:=by cases o<;>first|exact aS q|(cases d<;>first|exact cU e|(cases d'<;>first|exact cU e|exact⟨_,_,rfl,rfl⟩))
def IM:OpR X (Uq .Sub) (rOp X.prog X.w X.K (BT.qR .sub)):=by intro J s D H v u W Y Q I U V h;obtain⟨m,h,x,y,z,Z,R,O,M,e,L⟩:=h;obtain⟨d,a,q,e1,e2,B,rfl,rfl⟩:=lH e;obtain⟨i,j,rfl,rfl⟩:=qZ rfl B;rw[BT.nV]at B;cases B;cases (dZ R O e1).int;cases (dZ R M e2).int;exact Hy J s D H _ _ _ _ Q I U V ⟨_,_,rfl,rfl,L.here R (.int _)⟩
def IP:OpR X (Uq .Mod) (rOp X.prog X.w X.K (BT.qR .mod)):=by intro J s D H v u W Y Q I U V h;obtain⟨m,h,x,y,z,Z,R,O,M,e,L⟩:=h;obtain⟨d,a,q,e1,e2,B,rfl,rfl⟩:=lH e;obtain⟨i,j,rfl,rfl⟩:=qZ rfl B;rw[BT.nY]at B;obtain⟨c,B⟩:=dw B;cases B;cases (dZ R O e1).int;cases (dZ R M e2).int;exact HA J s D H _ _ _ _ Q I U V ⟨_,_,rfl,rfl,c,L.here R (.int _)⟩
def Ez:OpR X (Uq .FloorDiv) (rOp X.prog X.w X.K (BT.qR .fdiv)):=by intro J s D H v u W Y Q I U V h;obtain⟨m,h,x,y,z,Z,R,O,M,e,L⟩:=h;obtain⟨d,a,q,e1,e2,B,rfl,rfl⟩:=lH e;obtain⟨i,j,rfl,rfl⟩:=qZ rfl B;rw[BT.l9]at B;obtain⟨c,B⟩:=dw B;simp only[RX,bM]at c;cases B;cases (dZ R O e1).int;cases (dZ R M e2).int;exact DQ J s D H _ _ _ _ Q I U V ⟨_,_,rfl,rfl,⟨c.1,c.2⟩,L.here R (.int _)⟩
def q8(h:BT.big i=ah):-(2^64)<i/\i<2^64:=by unfold BT.big at h;have:=bP h;lia
def yG(I:Inv X zt σ H s)(h:SqT X.K H a xs)(h1:2<=k)(h2:k<=1000)(J:xs≠[])(hz:xs.length*k.toNat<=aj)
(q:∀p,H p=af->Q (.ref p) (upd H p (.aC (Sw k.toNat xs).flatten))):av (Su X.prog X.w) X.A (Uq .Mult (.ref a) (.int k t)) (EP X zt σ Q) X.xe s:=by
 obtain⟨B,r,p,_⟩:=I.tuple h;obtain⟨⟨j,dd,V,L⟩,e,O,n,M⟩:=id p;simp only at O M;subst O M;have d:=r.length;have D:B.toArray.size*k.toNat<=aj:=by rw[RZ,←d];exact hz
 have i:WD (λZ Y=>Z++Y) #[] (Sw k.toNat B.toArray)=(Sw k.toNat B).flatten.toArray:=by have:=foldl_rep B k.toNat [];rw[UF]at this;exact this
 have f:¬B.toArray.isEmpty=ah:=by
  intro z;have W:B=[]:=by simpa using z
  exact J (r.lu.mp W)
 refine Yj (T:="tuple") (U:="int") (by decide) ⟨_,e,rfl⟩ (λc=>typeIs_int c k t) mq F.fills_int_mul F.slot_int_rmul qW F.slot_int_index.lookup
  (U7 F.slot_int_rmul (typeIs_int s k t) F.entry_int_rmul (F.args_int_rmul_2 _ _) (oB k t a B.toArray n dd L)
   ⟨e,rfl,⟨_,e,rfl⟩,U7 F.slot_tuple_mul ⟨_,e,rfl⟩ F.entry_tuple_mul (F.args_tuple_mul_2 _ _) (uZ a B.toArray n dd L k t (by lia) h2 f (by lia) (by lia) D) ⟨e,?_⟩⟩)
 rw[i];have g:H s.heap.objs.size=af:=I.aJ.fresh (R0 _);refine⟨.ref s.heap.objs.size,_,I.laid (t':=s.toks) (o:=.aC (Sw k.toNat xs).flatten) (λb ob q=>RT _ q) (R0 _) ?_,rfl,q _ g⟩;exact⟨by rw[len_rep,U0];exact hz,_,r.rep k.toNat,IsTup.new _ _⟩
def Bh(I:Inv X zt σ H s)(c:LL X.K H l xs)(h1:-(2^63)<=k)(h2:k<=1000)(hz:xs.length*k.toNat<=aj)
(q:∀p,H p=af->Q (.ref p) (upd H p (.aB (Sw k.toNat xs).flatten))):av (Su X.prog X.w) X.A (Uq .Mult (.ref l) (.int k t)) (EP X zt σ Q) X.xe s:=by
 have Y:k<2^63:=by lia
 obtain⟨z,B,n,r,b,e⟩:=rdL I c;have L:B.toArray.size*k.toNat<=aj:=by rw[RZ,←b];exact hz
 have O:¬B.toArray.size*k.toNat>(2^63-1)/8:=by
  have:(aj:Nat)<=(2^63-1)/8:=by decide
  lia
 have M:¬(!Builtin.List.listFitsIndex k)=ah:=by rw[fitsIndex_both h1 Y];exact SE
 have D:¬TZ (B.toArray.size*k.toNat)=ah:=by rw[nL L];exact SE
 have J:WD (λW V=>W++V) #[] (Sw (if B.toArray.isEmpty=ah then 0 else k.toNat) B.toArray)=(Sw k.toNat B).flatten.toArray:=by
  have d:∀m:Nat,WD (λW V=>W++V) #[] (Sw m B.toArray)=(Sw m B).flatten.toArray:=λm=>by have:=foldl_rep B m [];rw[UF]at this;exact this
  rw[d];cases B with
  |nil=>simp|cons a f=>rw[bK (by simp)]
 refine Yj (T:="list") (U:="int") (by decide) ⟨_,e,rfl⟩ (λZ=>typeIs_int Z k t) noFill_list_mul F.fills_int_mul F.slot_int_rmul repeat_list F.slot_int_index.lookup
  (U7 F.slot_int_rmul (typeIs_int s k t) F.entry_int_rmul (F.args_int_rmul_2 _ _) (int___rmul___int_list k t l B.toArray n)
   ⟨e,rfl,⟨_,e,rfl⟩,U7 F.slot_list_mul ⟨_,e,rfl⟩ F.entry_list_mul (F.args_list_mul_2 _ _) (AutoListH.list___mul___list_int_3 l B.toArray n k t M O D) ⟨e,?_⟩⟩)
 rw[J];exact⟨.ref _,_,I.LM (t':=s.toks) (r.rep k.toNat) (by rw[len_rep,U0];exact hz),rfl,q _ I.fresh⟩
def IQ:OpR X (Uq .Mult) (rOp X.prog X.w X.K (BT.qR .mul)):=by
 intro Z s Y H v u j k Q I J L h;obtain⟨m,h,x,y,z,l,R,g,f,e,D⟩:=h;obtain⟨d,i,q,e1,e2,B,rfl,rfl⟩:=lH e;have O:=dZ R g e1;have M:=dZ R f e2;cases d<;>cases i<;>first|exact cU B|simp only[BT.sV,BT.nR,BT.nU,BT.e9,BT.nV,BT.sW,BT.nW,BT.nX,BT.nY,BT.l9]at B
 ·obtain⟨c,B⟩:=dw B;cases B;cases O.int;cases M.int;refine Hz Z s Y H _ _ _ _ Q I J L ⟨_,_,rfl,rfl,?_,D.here R (.int _)⟩;rcases UK _ _ ▸ c with c|c
  exact .inl (q8 c);exact .inr (q8 c)
 ·obtain⟨c,B⟩:=dw B;simp only[RX,bM]at c;cases B;obtain⟨a,b,rfl,W,ra⟩:=O.aC;cases M.int;obtain⟨t,rfl⟩:=L;cases J;have U:=ra.length;have:=f9;simp only[WE,List.isEmpty_eq_false_iff]at c;refine yG I W (by lia) (by lia) (λz=>?_) (by rw[U];lia) λp V=>lI R V (ra.rep _) D;subst z;cases ra;exact c.1.2 rfl
 ·obtain⟨c,B⟩:=dw B;simp only[RX,bM]at c;cases B;obtain⟨a,b,rfl,W,ra⟩:=O.aB;cases M.int;obtain⟨t,rfl⟩:=L;cases J;have U:=ra.length;have:=f9;refine Bh I W (by lia) (by lia) (by rw[U];lia) λp V=>jq R V (ra.rep _) D
end
mutual
noncomputable def pd:aM->PyData
 |.aD=>.none|.bl b=>.bool b|.int i=>.int i|.str x=>.str x|.aC q=>.tuple (pds q)|.aB q=>.list (pds q)
noncomputable def pds:List aM->List PyData
 |[]=>[]|x::r=>pd x::pds r
end
mutual
theorem oE:∀x y:aM,PyData.eqv (pd x) (pd y)=aQ x y
 |.aD,.aD=>rfl|.aD,.bl _=>rfl|.aD,.int _=>rfl|.aD,.str _=>rfl
 |.aD,.aC _=>by simp[pd,PyData.eqv,aQ]
 |.aD,.aB _=>by simp[pd,PyData.eqv,aQ]
 |.bl _,.aD=>rfl|.bl _,.bl _=>rfl|.bl _,.int _=>rfl|.bl _,.str _=>rfl
 |.bl _,.aC _=>by simp[pd,PyData.eqv,aQ]
 |.bl _,.aB _=>by simp[pd,PyData.eqv,aQ]
 |.int _,.aD=>rfl|.int _,.bl _=>rfl|.int _,.int _=>rfl|.int _,.str _=>rfl
 |.int _,.aC _=>by simp[pd,PyData.eqv,aQ]
 |.int _,.aB _=>by simp[pd,PyData.eqv,aQ]
 |.str _,.aD=>rfl|.str _,.bl _=>rfl|.str _,.int _=>rfl|.str _,.str _=>rfl
 |.str _,.aC _=>by simp[pd,PyData.eqv,aQ]
 |.str _,.aB _=>by simp[pd,PyData.eqv,aQ]
 |.aC _,.aD=>by simp[pd,PyData.eqv,aQ]
 |.aC _,.bl _=>by simp[pd,PyData.eqv,aQ]
 |.aC _,.int _=>by simp[pd,PyData.eqv,aQ]
 |.aC _,.str _=>by simp[pd,PyData.eqv,aQ]
 |.aC xs,.aC ys=>by simp only[pd,PyData.eqv,aQ];exact q9 xs ys
 |.aC _,.aB _=>by simp[pd,PyData.eqv,aQ]
 |.aB _,.aD=>by simp[pd,PyData.eqv,aQ]
 |.aB _,.bl _=>by simp[pd,PyData.eqv,aQ]
 |.aB _,.int _=>by simp[pd,PyData.eqv,aQ]
 |.aB _,.str _=>by simp[pd,PyData.eqv,aQ]
 |.aB _,.aC _=>by simp[pd,PyData.eqv,aQ]
 |.aB xs,.aB ys=>by simp only[pd,PyData.eqv,aQ];exact q9 xs ys
theorem q9:∀xs ys:List aM,PyData.eqvAll (pds xs) (pds ys)=BT.pO xs ys
 |[],[]=>by simp[pds,PyData.eqvAll,BT.pO]
 |[],_::_=>by simp[pds,PyData.eqvAll,BT.pO]
 |_::_,[]=>by simp[pds,PyData.eqvAll,BT.pO]
 |x::xs,y::ys=>by simp only[pds,PyData.eqvAll,BT.pO];rw[oE x y,q9 xs ys]
end
theorem jQ:∀{xs:List aM},(∀x∈xs,(pd x).depth<=n)->PyData.depthAll (pds xs)<=n
 |[],_=>by simp[pds,PyData.depthAll]
 |x::xs,h=>by simp only[pds,PyData.depthAll];exact Nat.max_le.mpr ⟨h x Sj,jQ λy q=>h y (Sb _ q)⟩
theorem kq:∀(n:Nat)(d:aM),BT.dok n d=ah->(pd d).depth<=n
 |n,.aD,_=>by simp[pd,PyData.depth]
 |n,.bl _,_=>by simp[pd,PyData.depth]
 |n,.int _,_=>by simp[pd,PyData.depth]
 |n,.str _,_=>by simp[pd,PyData.depth]
 |0,.aC _,h=>by simp[BT.dok]at h
 |0,.aB _,h=>by simp[BT.dok]at h
 |n+1,.aC xs,h=>by simp only[pd,PyData.depth];rw[BT.v8,Uz]at h;exact Nat.succ_le_succ (jQ λx q=>kq n x (h x q))
 |n+1,.aB xs,h=>by simp only[pd,PyData.depth];rw[BT.v9,Uz]at h;exact Nat.succ_le_succ (jQ λx q=>kq n x (h x q))
section
variable{K:RQ}
mutual
theorem iA:∀{v:V}{d:aM},RD K m H v d->(pd d).canLay0=ah
 |_,_,.aD=>rfl|_,_,.bl _=>rfl|_,_,.int _=>rfl
 |_,_,.str _ h=>by simpa [pd,PyData.canLay0]using h
 |_,_,.aC _ r=>by simp only[pd,PyData.canLay0];exact jr r
 |_,_,.aB _ r=>by simp only[pd,PyData.canLay0];exact jr r
theorem jr:∀{vs:List V}{ds:List aM},RDs K m H vs ds->PyData.canLayAll0 (pds ds)=ah
 |_,_,.nil=>by simp[pds,PyData.canLayAll0]
 |_,_,.cons r t=>by simp only[pds,PyData.canLayAll0];rw[iA r,jr t];rfl
end
mutual
theorem jR(I:Inv X zt σ H s):∀{v:V}{d:aM}{u:aA},RD X.K m H v d->RelV v u->∃as,Reads s.heap u (pd d) as
 |_,_,_,.aD,r=>by cases r;exact⟨_,.none⟩
 |_,_,_,.bl b,r=>by cases r;exact⟨_,.bool b⟩
 |_,_,_,.int i,r=>by obtain⟨t,rfl⟩:=r;exact⟨_,.int i t⟩
 |_,_,_,.str x _,r=>by obtain⟨t,rfl⟩:=r;exact⟨_,.str x t⟩
 |_,_,_,.aC h r,q=>by cases q;obtain⟨B,D,⟨o,e1,e2,n,J⟩,_⟩:=I.tuple (h.elim (λq=>.inl q.1) (λ⟨o,B,n,q,_⟩=>.inr ⟨o,B,n,q⟩));obtain⟨as,ra⟩:=kr I r D;exact⟨_,.tuple e1 e2 J (by simpa using ra)⟩
 |_,_,_,.aB h r,q=>by cases q;obtain⟨z,B,n,D,_,e⟩:=rdL I (h.elim (λq=>.inl q.1) .inr);obtain⟨as,ra⟩:=kr I r D;exact⟨_,.list e rfl rfl (by simpa using ra)⟩
theorem kr(I:Inv X zt σ H s):∀{vs:List V}{ds:List aM}{us:List aA},RDs X.K m H vs ds->dg vs us->∃as,ReadsAll s.heap us (pds ds) as
 |_,_,_,.nil,q=>by cases q;exact⟨_,.nil⟩
 |_,_,_,.cons r t,q=>by
  cases q with
  |cons J D =>
   obtain⟨as,ra⟩:=jR I r J;obtain⟨bs,B⟩:=kr I t D;exact⟨_,.cons ra B⟩
end
def jS(I:Inv X zt σ H s)(r:RR X.K m H v d)(q:RelV v u):∃as,Reads s.heap u (pd d) as:=by
 cases r with
 |d r=>exact jR I r q
 |l h r =>
  cases q;obtain⟨z,D,n,B,_,e⟩:=rdL I (.inl (.inl h));obtain⟨as,ra⟩:=kr I r B;exact⟨_,.list e rfl rfl (by simpa using ra)⟩
def jd(r:RR K m H v d):(pd d).canLay0=ah:=by
 cases r with
 |d r=>exact iA r|l h r=>simp only[pd,PyData.canLay0];exact jr r
def rf(h:BT.ef x y=ah):min (pd x).depth (pd y).depth<=100:=by
 unfold BT.ef at h;rcases UK _ _ ▸ h with h|h
 have:=kq 100 x h;lia;have:=kq 100 y h;lia
def jt(e:bC o x y h=aa (z,h')):
 (∃kvs b,y=.k kvs/\BT.inK o x kvs=aa b/\z=.p (.bl b)/\h'=h)\/∃d d' b,aW x h=aa d/\aW y h=aa d'/\BT.gB o d d'=aa b/\z=.p (.bl b)/\h'=h:=by
 unfold bC at e;split at e
 ·rename_i kvs;obtain⟨b,e1,e2⟩:=dh e;cases e2;exact .inl ⟨kvs,b,rfl,e1,rfl,rfl⟩
 ·refine .inr ?_;cases e1:aW x h with
  |none=>rw[e1]at e;exact cU e
  |some d =>
   cases e2:aW y h with
   |none=>rw[e1,e2]at e;exact cU e
   |some d' =>
    rw[e1,e2]at e;obtain⟨q,eq,B⟩:=dh e;cases B;exact⟨d,d',q,rfl,rfl,eq,rfl,rfl⟩
def MU(g:X.A.units+150<cLine):OpR X (TL .Eq) (rOp X.prog X.w X.K (bC .eq)):=by
 intro Z s Y H v u a f Q I O U h;obtain⟨m,h,x,y,z,i,R,M,L,e,J⟩:=h;rcases jt e with⟨W,b,rfl,e1,_,_⟩|⟨d,d',b,e1,e2,q,rfl,rfl⟩
 exact bL e1 (BT.n9 rfl)
 ·have D:=dZ R M e1;have B:=dZ R L e2;rw[BT.we]at q;obtain⟨c,q⟩:=dw q;cases q;obtain⟨j,ra⟩:=jS I D O;obtain⟨bs,V⟩:=jS I B U;have:=rf c;refine SeqAt.compareEq_reads ra V (jd D) (jd B) (by lia) ?_;rw[oE];exact⟨.bl _,H,I,rfl,J.here R (.bl _)⟩
def MV(g:X.A.units+150<cLine):OpR X (TL .NotEq) (rOp X.prog X.w X.K (bC .ne)):=by
 intro Z s Y H v u a f Q I O U h;obtain⟨m,h,x,y,z,i,R,M,L,e,J⟩:=h;rcases jt e with⟨W,b,rfl,e1,_,_⟩|⟨d,d',b,e1,e2,q,rfl,rfl⟩
 exact bL e1 (BT.n9 rfl)
 ·have D:=dZ R M e1;have B:=dZ R L e2;rw[BT.wg]at q;obtain⟨c,q⟩:=dw q;cases q;obtain⟨j,ra⟩:=jS I D O;obtain⟨bs,V⟩:=jS I B U;have:=rf c;refine SeqAt.compareNe_reads ra V (jd D) (jd B) (by lia) ?_;rw[oE];exact⟨.bl _,H,I,rfl,J.here R (.bl _)⟩
noncomputable def MW:BT.Cm->Bool
 |.lt=>ah|.le=>ah|.gt=>ah|.ge=>ah|_=>ai
def EA{o:BT.Cm}{d d':aM}{b:Bool}(q:MW o=ah)(e:BT.gB o d d'=aa b):∃i j,d=.int i/\d'=.int j:=by cases o<;>first|exact aS q|(cases d<;>first|exact cU e|(cases d'<;>first|exact cU e|exact⟨_,_,rfl,rfl⟩))
def rj{o:BT.Cm}{c:CmpOp}{f:Int->Int->Bool}(U:OpR X (TL c) (rI0 λi j=>.bl (f i j)))(W:MW o=ah)(Y:BT.memC o=ai)(Z:∀i j,BT.gB o (.int i) (.int j)=aa (f i j)):OpR X (TL c) (rOp X.prog X.w X.K (bC o)):=by
 intro B s q H v u a g Q I M O h;obtain⟨m,h,x,y,z,k,R,L,J,e,D⟩:=h;rcases jt e with⟨V,b,rfl,e1,_,_⟩|⟨d,d',b,e1,e2,e3,rfl,rfl⟩
 exact bL e1 (BT.n9 Y)
 ·obtain⟨i,j,rfl,rfl⟩:=EA W e3;rw[Z]at e3;cases e3;cases (dZ R L e1).int;cases (dZ R J e2).int;exact U B s q H _ _ _ _ Q I M O ⟨_,_,rfl,rfl,D.here R (.bl _)⟩
def wC(r:RR K m H v d):decide (v=.aD)=BT.jJ d:=by
 cases r with
 |d r=>cases r<;>rfl|l h r=>rfl
def EB{v:V}{d:aM}{u:aA}{b:Bool}(r:RR K m H v d)(q:RelV v u):isSame u (.bool b)=pure (BT.qP b d):=by
 cases r with
 |d r=>cases r<;>first|(cases q;cases b<;>first|rfl|(rename_i c;cases c<;>rfl))|(obtain⟨t,rfl⟩:=q;cases b<;>rfl)
 |l h r=>cases q;rfl
def IR:OpR X (TL .Is) (rOp X.prog X.w X.K (bC .isN)):=by
 intro B s q H v u Y Z Q I M O h;obtain⟨m,h,x,y,z,a,R,L,J,e,D⟩:=h;rcases jt e with⟨W,b,rfl,e1,_,_⟩|⟨d,d',b,e1,e2,e3,rfl,rfl⟩
 exact bL e1 (BT.n9 rfl)
 ·have V:=dZ R L e1;have U:=dZ R J e2;cases d'<;>first|exact cU e3|simp only[BT.ng,BT.nh,BT.kg,BT.nj,BT.lD,BT.kh,BT.iF,BT.iG,BT.iQ,BT.gI]at e3
  cases e3;cases U.aD;refine HB B s q H _ _ _ _ Q I M O ⟨rfl,?_⟩;rw[wC V];exact D.here R (.bl _)
def EC:OpR X (TL .IsNot) (rOp X.prog X.w X.K (bC .notN)):=by
 intro O s M H v u Y Z Q I B D h;obtain⟨m,h,x,y,z,a,R,V,U,e,q⟩:=h;rcases jt e with⟨W,b,rfl,e1,_,_⟩|⟨d,d',b,e1,e2,e3,rfl,rfl⟩
 exact bL e1 (BT.n9 rfl)
 ·have L:=dZ R V e1;have J:=dZ R U e2;cases d'<;>first|exact cU e3|simp only[BT.ng,BT.nh,BT.kg,BT.nj,BT.lD,BT.kh,BT.yy,BT.iF,BT.iG,BT.iQ,BT.gI]at e3
  ·cases e3;cases J.aD;refine DR O s M H _ _ _ _ Q I B D ⟨rfl,?_⟩;rw[wC L];exact q.here R (.bl _)
  ·cases e3;cases J.bl;cases D;exact RP (wpAny_of_eq (EB L B) (au ⟨.bl _,H,I,rfl,q.here R (.bl _)⟩))
open Classical in
def fC(h:aq)(dx:PyData)(y:aA):Bool:=if q:∃B D,Reads h y B D/\B.canLay0=ah then PyData.eqv (Classical.choose q) dx else ai
def u0(r:Reads h y B as)(c:B.canLay0=ah):fC h dx y=PyData.eqv B dx:=by have q:∃B as,Reads h y B as/\B.canLay0=ah:=⟨B,as,r,c⟩;unfold fC;rw[dif_pos q];obtain⟨J,D,L⟩:=Classical.choose_spec q;rw[SeqAt.Reads.unique _ _ _ _ _ c r D]
theorem lJ(I:Inv X zt σ H s):∀{vs:List V}{ds:List aM}{us:List aA},RDs X.K m H vs ds->dg vs us->us.any (fC s.heap (pd d))=ds.any λy=>aQ y d
 |_,_,_,.nil,q=>by cases q;rfl
 |_,_,_,.cons r t,q=>by
  cases q with
  |cons D B =>
   obtain⟨J,ra⟩:=jR I r D;rw[List.any_cons,List.any_cons,lJ I t B,u0 ra (iA r),oE]
theorem ju(U:X.A.units+150<cLine)(I:Inv X zt σ H s)(D:RR X.K m H v d)(J:RelV v u):∀{vs:List V}{ds:List aM}{us:List aA},RDs X.K m H vs ds->dg vs us->(ds.all λy=>BT.ef y d)=ah →
 ∀y∈us,SeqAt.EqAt X.A.in1 s y u (fC s.heap (pd d) y)
 |_,_,_,.nil,q,_=>by cases q;intro y B;simp at B
 |_,_,_,.cons r t,q,c=>by
  cases q with
  |cons O M =>
   rw[List.all_cons,RX]at c;intro y B;rcases List.mem_cons.mp B with rfl|B
   ·obtain⟨W,ra⟩:=jR I r O;obtain⟨bs,L⟩:=jS I D J;rw[u0 ra (iA r)];have:=rf c.1;refine SeqAt.eqAt_reads _ _ _ _ _ _ _ _ ra L (iA r) (jd D) ?_;show X.A.units+1+_<_;lia
   exact ju U I D J t M c.2 y B
def IS(l:X.A.units+150 < cLine)(p:∀ {kvs:BT.Kd}{x:aN}{b:Bool}{m:List az}{H:Hp}{v u:V}{L M:aA}{zt σ s Q},Inv X zt σ H s->RelV v L->RelV u M->RW X.prog X.w X.K m H v x->RW X.prog X.w X.K m H u (.k kvs)->BT.inK .mem x kvs=aa b->Q (V.bl b) H →
 av (Su X.prog X.w) X.A (TL .In L M) (EP X zt σ Q) X.xe s):OpR X (TL .In) (rOp X.prog X.w X.K (bC .mem)):=by
 intro zt s σ H v u L M Q I O U h;obtain⟨m,h,x,y,z,r,R,g,f,e,J⟩:=h;rcases jt e with⟨kvs,b,rfl,e1,rfl,rfl⟩|⟨d,d',b,e1,e2,B,rfl,rfl⟩
 exact p I O U g f e1 (J.here R (.bl _))
 ·have j:=dZ R g e1;have i:=dZ R f e2;cases d'<;>first|exact cU B|simp only[BT.ng,BT.nh,BT.kg,BT.nj,BT.lD,BT.kh,BT.iF,BT.iG,BT.iQ,BT.gI]at B
  ·obtain⟨c,B⟩:=dw B;cases B;obtain⟨a,o,rfl,Z,ra⟩:=i.aC;cases U;obtain⟨q,D,W,_⟩:=I.tuple Z;refine SeqAt.in_tupleAt (fC s.heap (pd d)) W (λy Y=>ju l I j O ra D c y (by simpa using Y)) ⟨.bl _,H,I,rfl,?_⟩;rw[show q.toArray.any (fC s.heap (pd d))=q.any (fC s.heap (pd d)) by simp,lJ I ra D];exact J.here R (.bl _)
  ·obtain⟨c,B⟩:=dw B;cases B;obtain⟨a,o,rfl,Z,ra⟩:=i.aB;cases U;obtain⟨z,q,n,D,_,W⟩:=rdL I Z;refine SeqAt.in_listAt (fC s.heap (pd d)) ⟨_,W,rfl,_,rfl⟩ (λy Y=>ju l I j O ra D c y (by simpa using Y)) ⟨.bl _,H,I,rfl,?_⟩;rw[show q.toArray.any (fC s.heap (pd d))=q.any (fC s.heap (pd d)) by simp,lJ I ra D];exact J.here R (.bl _)
def ED(l:X.A.units+150 < cLine)(p:∀ {kvs:BT.Kd}{x:aN}{b:Bool}{m:List az}{H:Hp}{v u:V}{L M:aA}{zt σ s Q},Inv X zt σ H s->RelV v L->RelV u M->RW X.prog X.w X.K m H v x->RW X.prog X.w X.K m H u (.k kvs)->BT.inK .nmem x kvs=aa b->Q (V.bl b) H →
 av (Su X.prog X.w) X.A (TL .NotIn L M) (EP X zt σ Q) X.xe s):OpR X (TL .NotIn) (rOp X.prog X.w X.K (bC .nmem)):=by
 intro zt s σ H v u L M Q I O U h;obtain⟨m,h,x,y,z,r,R,g,f,e,J⟩:=h;rcases jt e with⟨kvs,b,rfl,e1,rfl,rfl⟩|⟨d,d',b,e1,e2,B,rfl,rfl⟩
 exact p I O U g f e1 (J.here R (.bl _))
 ·have j:=dZ R g e1;have i:=dZ R f e2;cases d'<;>first|exact cU B|simp only[BT.ng,BT.nh,BT.kg,BT.nj,BT.lD,BT.kh,BT.iF,BT.iG,BT.iQ,BT.gI]at B
  ·obtain⟨c,B⟩:=dw B;cases B;obtain⟨a,o,rfl,Z,ra⟩:=i.aC;cases U;obtain⟨q,D,W,_⟩:=I.tuple Z;refine SeqAt.notIn_tupleAt (fC s.heap (pd d)) W (λy Y=>ju l I j O ra D c y (by simpa using Y)) ⟨.bl _,H,I,rfl,?_⟩;rw[show q.toArray.any (fC s.heap (pd d))=q.any (fC s.heap (pd d)) by simp,lJ I ra D];exact J.here R (.bl _)
  ·obtain⟨c,B⟩:=dw B;cases B;obtain⟨a,o,rfl,Z,ra⟩:=i.aB;cases U;obtain⟨z,q,n,D,_,W⟩:=rdL I Z;refine SeqAt.notIn_listAt (fC s.heap (pd d)) ⟨_,W,rfl,_,rfl⟩ (λy Y=>ju l I j O ra D c y (by simpa using Y)) ⟨.bl _,H,I,rfl,?_⟩;rw[show q.toArray.any (fC s.heap (pd d))=q.any (fC s.heap (pd d)) by simp,lJ I ra D];exact J.here R (.bl _)
end
section
variable{P:So}{w:SQ}{K:RQ}{m m':List az}{H H':Hp}
def yH(e:p.1=k):bD (p::r) k=aa p.2:=by simp[bD,U5,e]
def yI(e:¬p.1=k):bD (p::r) k=bD r k:=by simp[bD,U5,e]
def RKs.get(r:RKs K m H vs kvs)(k:Key):(bD kvs k=af/\sJ vs k=af)\/∃v d,bD kvs k=aa d/\sJ vs k=aa v/\RD K m H v d:=by
 induction r with
 |nil=>exact .inl ⟨rfl,rfl⟩
 |@cons j v d vs kvs B r t q =>
  by_cases c:j=k
  exact .inr ⟨v,d,yH c,sL c,r⟩;rw[yI (p:=(j,d)) c,sM (p:=(j,v)) c];exact q
def Bj(r:RD K m H v d)(e:BT.pQ d=aa k):v=kV k:=by cases r<;>cases e<;>rfl
inductive Bk(X:Cx)(m:List az)(H:Hp)(s:RV)(a:az)(kvs:List (BT.Ky×aM))(k:Key):Prop
 |no(vs:List (Key×aA))(d:s.heap.DictOf (dH X.prog X.w) a vs)(n:(a==Vj)=ai)(e1:bD kvs k=af)(e2:valueAt vs k=af):Bk X m H s a kvs k
 |is(vs:List (Key×aA))(d:s.heap.DictOf (dH X.prog X.w) a vs)(n:(a==Vj)=ai)(x:aM)(v:V)(u:aA)(e1:bD kvs k=aa x)(e2:valueAt vs k=aa u)(r:RelV v u)(q:RD X.K m H v x):Bk X m H s a kvs k
def u5(I:Inv X zt σ H s)(h:Rd H a (.dK ws))(O:RKs X.K m H ws kvs)(k:Key):Bk X m H s a kvs k:=by
 obtain⟨z,M,B,D,dd⟩:=LQ I.aJ h;have q:=D.val k;rcases O.get k with⟨L,J⟩|⟨v,d,L,J,g3⟩
 ·rw[J]at q;cases e:valueAt B k with
  |none=>exact .no B dd M L e|some u=>rw[e]at q;exact q.elim
 ·rw[J]at q;cases e:valueAt B k with
  |none=>rw[e]at q;exact q.elim|some u=>rw[e]at q;exact .is B dd M d v u L e q g3
end
section
variable{prog:So}{w:SQ}{A:TF}{E:aA->RV->Prop}{s:RV}
def yJ{Q:Int->RV->Prop}(h:Q 4238894112 {s with toks:=s.toks+1}):av (Su prog w) A (pyHash .none) Q E s:=by show av _ _ (pyHashByItsType .none) _ _ _;refine PySem.W.pyHash_slot (T:="NoneType") (typeIs_none s) PySem.F.slot_NoneType_hash PySem.F.entry_NoneType_hash (PySem.F.args_NoneType_hash_1 _) (by decide) (.inl rfl) ?_;show av _ _ (slotArgs "__hash__" 0 ⟨[T5],[]⟩ >>= λ_=>retInt 4238894112) _ _ _;rw[slotArgs.eq_1];refine RP (au ?_);unfold retInt;refine RP (wpAny_mkInt ?_);exact au ⟨_,_,rfl,h⟩
end
def Bl:Option Key->aA->Bool
 |none,.none=>ah|none,_=>ai|some k,v=>jE k v
def jv{v:aA}(h:Bl af v=ah):v=.none:=by cases v<;>first|rfl|(exfalso;exact SE h)
def Bm(a b:Key):decide (aa a=aa b)=decide (a=b):=by simp
def optKind(prog:So)(w:SQ):PySem.KeyKind prog w (Option Key) where
 is:=Bl
 hash:=λk=>match k with|none=>4238894112|some k=>K8 w k
 inj:=λv a b B q=>by
  cases a with
  |none =>
   cases jv B;cases b with
   |none=>rfl
   |some b=>rcases dG (show jE b .none=ah from q)with⟨i,t,rfl,e⟩|⟨x,t,rfl,e⟩<;>exact nomatch e
  |some a =>
   cases b with
   |none =>
    cases jv q;rcases dG (show jE a .none=ah from B)with⟨i,t,rfl,e⟩|⟨x,t,rfl,e⟩<;>exact nomatch e
   |some b=>rw[(dH prog w).inj v a b B q]
 byValue:=λk v h=>by
  cases k with
  |none=>cases jv h;rfl|some k=>exact(dH prog w).byValue k v h
 pyHash:=λ{A E s k v Q} hv h=>by
  cases k with
  |none=>cases jv hv;exact yJ h|some k=>exact(dH prog w).pyHash (k:=k) hv h
 eqBool:=λ{A E s a b u v Q} hu hv h=>by
  cases a with
  |none =>
   cases jv hu;cases b with
   |none=>cases jv hv;exact SeqAt.EqAt.same _ _ _ _ _ (by simpa using h)
   |some b =>
    have h:Q ai s:=by simpa using h
    rcases dG (show jE b v=ah from hv)with⟨i,t,rfl,rfl⟩|⟨x,t,rfl,rfl⟩
    exact SeqAt.EqAt.none_int i t _ _ _ _ h;exact SeqAt.EqAt.none_str x t _ _ _ _ h
  |some a =>
   cases b with
   |none =>
    cases jv hv;have h:Q ai s:=by simpa using h
    rcases dG (show jE a u=ah from hu)with⟨i,t,rfl,rfl⟩|⟨x,t,rfl,rfl⟩
    exact SeqAt.EqAt.int_none i t _ _ _ _ h;exact SeqAt.EqAt.str_none x t _ _ _ _ h
   |some b=>rw[Bm]at h;exact(dH prog w).eqBool (a:=a) (b:=b) hu hv h
 «strs»:=λk x t v h=>by
  cases k with
  |none=>exact nomatch jv h
  |some k=>exact(dH prog w).strs k x t v h
def map_none{prog:So}{w:SQ}{h:aq}{a:az}{vs:List (Key×aA)}(dd:h.DictOf (dH prog w) a vs):∃f,h.MapOf (optKind prog w) a f/\f af=af:=by
 obtain⟨o,D,W,O,M,U,L,_⟩:=dd;refine⟨λk=>findBy Bl D k,⟨o,D,W,O,M,U,λe J=>?_,λk=>rfl⟩,?_⟩
 ·obtain⟨k,B,V⟩:=L e J;exact⟨aa k,B,V⟩
 ·show(Array.find? (λe=>Bl af e.key) D).map (·.val)=af;have:Array.find? (λe=>Bl af e.key) D=af:=by rw[Array.find?_eq_none];intro e J q;obtain⟨k,B,_⟩:=L e J;rw[jv q]at B;rcases dG (show jE k .none=ah from B)with⟨i,t,rfl,e⟩|⟨x,t,rfl,e⟩<;>exact nomatch e
  rw[this];rfl
section
def RDs.atI{K:RQ}(r:RDs K m H vs ds)(e:BT.atP ds i=aa d):∃v,L2.atI vs i=aa v/\RD K m H v d:=by unfold BT.atP at e;unfold L2.atI;obtain⟨j,J,D⟩:=Option.bind_eq_some_iff.mp e;obtain⟨v,B,q⟩:=r.get D;refine⟨v,?_,q⟩;rw[r.length];show((BT.place ds.length i).bind λj=>vs[j]?)=aa v;rw[J];exact B
def EE{x y:aN}{h:aO}{z:aN}{h':aO}(e:BT.Ek x y h=aa (z,h')):
 (∃kvs k d,x=.k (.t kvs)/\y=.p (.str k)/\bF k kvs=aa d/\z=.p d/\h'=h)\/(∃kvs e k d,x=.k (.l kvs)/\y=.p e/\BT.pQ e=aa k/\bD kvs k=aa d/\z=.p d/\h'=h)\/∃d d' b,aW x h=aa d/\aW y h=aa d'/\BT.dI d d'=aa b/\z=.p b/\h'=h:=by
 unfold BT.Ek at e;split at e
 ·rename_i kvs;obtain⟨b,e1,e2⟩:=dh e;cases e2;cases kvs with
  |t kvs =>
   cases y with
   |p d =>
    cases d with
    |str x=>exact .inl ⟨kvs,_,b,rfl,rfl,e1,rfl,rfl⟩|_=>exact cU e1
   |_=>exact cU e1
  |l kvs =>
   cases y with
   |p d =>
    obtain⟨k,D,B⟩:=Option.bind_eq_some_iff.mp (show(BT.pQ d).bind (bD kvs)=aa b from e1);exact .inr (.inl ⟨kvs,d,k,b,rfl,rfl,D,B,rfl,rfl⟩)
   |_=>exact cU e1
 ·refine .inr (.inr ?_);cases e1:aW x h with
  |none=>rw[e1]at e;exact cU e
  |some d =>
   cases e2:aW y h with
   |none=>rw[e1,e2]at e;exact cU e
   |some d' =>
    rw[e1,e2]at e;obtain⟨q,eq,J⟩:=dh e;cases J;exact⟨d,d',q,rfl,rfl,eq,rfl,rfl⟩
theorem Bo{K:RQ}:∀{es:List (ay×V)}{kvs:List (ay×aM)}{vs:List (Key×aA)},RDk K es kvs->KV (es.map λq=>((Sum.inr q.1:Key),q.2)) vs->bF k kvs=aa d →
 ∃u v,valueAt vs (Sum.inr k)=aa u/\RelV v u/\∀m H,RD K m H v d
 |_,_,_,.nil,_,e=>by simp[bF]at e
 |_,_,_,@RDk.cons _ x v dd es kvs r t,q,e=>by
  cases q with
  |@cons p z f b U O =>
   obtain⟨a,L⟩:=z;obtain⟨D,B⟩:=U;simp only at D B;subst D;rw[bF]at e
   by_cases c:k=x
   ·rw[bJ c]at e;cases e;subst c;exact⟨L,v,by simp[valueAt],B,r⟩
   ·rw[bK c]at e;obtain⟨u,M,J,Z,Y⟩:=Bo t O e;refine⟨u,M,?_,Z,Y⟩;have W:¬((Sum.inr x:Key)=Sum.inr k):=λz=>c (Sum.inr.inj z).symm;simp only[valueAt]at J⊢;rw[VX (by simpa using W)];exact J
def yK(h:PyData.strOk x=ah)(B:c∈x.cps.toList):PyData.strOk ⟨#[c]⟩=ah:=by simp only[PyData.strOk,Array.all_eq_true_iff_forall_mem]at h⊢;intro y q;simp at q;subst q;exact h y (by simpa using B)
def IT:IxR X (rOp X.prog X.w X.K BT.Ek):=by
 intro q B Y s W H v u v' P Q I O U h V;obtain⟨m,h,x,y,z,h',R,Z,J,e,L⟩:=h;rcases EE e with⟨r,k,d,rfl,rfl,e1,rfl,rfl⟩|⟨r,e',k,d,rfl,rfl,e0,e1,rfl,rfl⟩|⟨d,d',b,e1,e2,e3,rfl,rfl⟩
 ·cases Z with
  |@k a es _ T f =>
   cases O;cases J with
   |p J =>
    cases J with
    |str _ ok =>
     obtain⟨t,rfl⟩:=U;obtain⟨hm,M,S,dd⟩:=T;obtain⟨w',z,F,C,h3⟩:=Bo f S e1;have D:=dd s.heap I.kIn;refine YB (ops:=[.ref a,.str k t]) D.typeIs slot_dict_getitem.lookup ?_ V;exact wpAny_getItem_of (knd:=dH X.prog X.w) (iP _ _ k t) D.mapOf F ⟨z,H,I.tok _,C,L.here R (h3 _ _)⟩
 ·cases Z with
  |@kl a ob ws _ hh f =>
   cases O;cases J with
   |p J =>
    have ek:=Bj J e0;subst ek;cases u5 I (.inr ⟨_,hh.1⟩) f k with
    |no _ _ _ E _=>rw[E]at e1;exact cU e1
    |is M dd n x N u1 E g2 g3 g4 =>
     rw[E]at e1;cases e1;refine YB (ops:=[.ref a,P]) dd.typeIs slot_dict_getitem.lookup ?_ V;exact wpAny_getItem_of (knd:=dH X.prog X.w) (Ao U) dd.mapOf g2 ⟨N,H,I.tok _,g3,L.here R g4⟩
 ·have i:=dZ R Z e1;have g:=dZ R J e2;cases d<;>cases d'<;>first|exact cU e3|simp only[BT.gW,BT.dJ,BT.jL]at e3
  ·split at e3
   ·rename_i c;obtain⟨cc,G,e5⟩:=dh e3;subst e5;obtain⟨rfl,ok⟩:=i.str;cases g.int;have:=f9;refine HL q B Y s W H _ _ _ _ Q I O U ⟨_,_,cc,rfl,rfl,by lia,G,L.here R (.str _ (yK ok ?_))⟩ V;obtain⟨j,F,C⟩:=Option.bind_eq_some_iff.mp G;exact Sg C
   exact cU e3
  ·obtain⟨a,M,rfl,A,ra⟩:=i.aC;cases g.int;obtain⟨z,o,l⟩:=ra.atI e3;exact HK q B Y s W H _ _ _ _ Q I O U ⟨a,M,_,z,rfl,rfl,A,o,L.here R l⟩ V
  ·obtain⟨a,M,rfl,A,ra⟩:=i.aB;cases g.int;obtain⟨z,o,l⟩:=ra.atI e3;exact vY q B Y s W H _ _ _ _ Q I O U ⟨a,M,_,z,rfl,rfl,A.sq,o,L.here R l⟩ V
def lK(n d:Nat)(o:Option Int):BT.clip n d o=HT.sIx n d o:=by
 cases o with
 |none=>rfl
 |some v =>
  simp only[BT.clip,HT.sIx];split;rfl
  ·split;lia;lia
def pT{E:aA->RV->Prop}{lo:Option Int}(q:IsTup s.heap t items)(M:s.heap.IsSliceOf sl vl vu .none)(pl:XG vl lo)(O:XG vu hi)
(hw:HT.sIx items.size 0 lo=0/\HT.sIx items.size items.size hi=items.size)(h:Q (.ref t) s):av (Su prog w) A (Xl (.ref t) (.ref sl)) Q E s:=by
 obtain⟨os,B,J,U⟩:=id M;have L:s.TypeIs (.ref sl) "slice":=⟨os,B,J⟩;unfold Xl
 try with_reducible refine Tf ?_
 first|refine RP (au ?_)|skip
 refine RP (wpAny_sequenceKey q.typeIs (by decide) ?_);refine RP (SZ (name:=Sn "__getitem__") q.typeIs Ug
  (TM Ug q.typeIs entry_tuple_getitem ?_ (args_tuple_getitem _ _)))
 show av _ _ (Wi (.ref t) >>= _) _ _ s;refine RP (tupleItemsOf_ q ?_);refine RP (U6 L ?_);rw[bJ (by decide)];refine RP (HT.ja M pl O ?_);have D:(((HT.sIx items.size 0 lo:Nat):Int)==0&&(1:Int)==1&&(HT.sIx items.size items.size hi-HT.sIx items.size 0 lo)==items.size)=ah:=by rw[hw.1,hw.2];simp
 show av _ _ (if(((HT.sIx items.size 0 lo:Nat):Int)==0&&(1:Int)==1&&(HT.sIx items.size items.size hi-HT.sIx items.size 0 lo)==items.size)=ah then _ else _) _ _ s;rw[bJ D];unfold Builtin.Tuple.tupleIsExact;refine RP (RP (U6 q.typeIs (au ?_)));rw[bJ (by decide)];refine RP (VB ?_)
 first
  |exact au ⟨_,rfl,au h⟩
  |exact au ⟨_,rfl,h⟩
  |exact RP (au (au ⟨_,rfl,au h⟩))
inductive rSl(P:So)(w:SQ)(K:RQ)(v:V)(lo hi:Option Int)(H:Hp)(Q:VK):Prop
 |mk(m:List az)(h:aO)(x:aN)(d b:aM)(R:RH K m H h)(q:RW P w K m H v x)(e:aW x h=aa d)(e2:BT.uS d lo hi=aa b)(p:Post P w K m H (.p b) h Q):rSl P w K v lo hi H Q
def RDs.cut{K:RQ}(r:RDs K m H vs ds)(lo hi:Option Int):RDs K m H (sH vs lo hi) (BT.cut ds lo hi):=by unfold sH BT.cut;rw[lK,lK,r.length];exact(r.drop _).take _
def yL{lo:Option Int}(h1:HT.sIx ds.length 0 lo=0)(h2:HT.sIx ds.length ds.length hi=ds.length):BT.cut ds lo hi=ds:=by unfold BT.cut;rw[lK,lK,h1,h2];simp
def osl:SlR X (rSl X.prog X.w X.K):=by
 intro Z s Y H v o f e lo B g Q I i V O M h;obtain⟨m,h,x,d,b,R,k,e1,e2,J⟩:=h;have L:=dZ R k e1;cases d<;>simp only[BT.uS]at e2<;>try contradiction
 ·cases e2;obtain⟨a,q,rfl,D,ra⟩:=L.aC;cases i
  by_cases c:HT.sIx q.length 0 lo=0/\HT.sIx q.length q.length B=q.length
  ·obtain⟨U,l,j,_⟩:=I.tuple D;have n:U.toArray.size=q.length:=by rw[RZ];exact l.length.symm
   refine⟨"tuple",_,PyProof.Rows.slot_tuple_getitem.lookup,j.typeIs,pT j V O M (by rw[n];exact c) ⟨.ref a,H,I,rfl,?_⟩⟩;cases L with
   |d r =>
    refine J.here R ?_;rw[yL (by rw[←ra.length];exact c.1) (by rw[←ra.length];exact c.2)];exact r
  exact HJ Z s Y H (.ref a) (.ref a) f e lo B g Q I rfl V O M ⟨a,q,rfl,D,c,λp W=>lI R W (ra.cut lo B) J⟩
 ·cases e2;obtain⟨a,q,rfl,D,ra⟩:=L.aB;exact D6 Z s Y H _ _ f e lo B g Q I i V O M ⟨a,q,rfl,D.sq,λp W=>jq R W (ra.cut lo B) J⟩
end
def tM(m:BT.Me)(d:aM)(as:List aN)(h:aO):aP m (.p d) as h=(match aZ as with|some ds=>(BT.meD m d ds).map λx=>(.p x,h)|none=>af):=by cases m<;>rfl
section
inductive rMe(P:So)(w:SQ)(K:RQ)(me:BT.Me)(v:V)(vs:List V)(H:Hp)(Q:VK):Prop
 |mk(m:List az)(h:aO)(x:aN)(ws:List aN)(z:aN)(h':aO)(R:RH K m H h)(q:RW P w K m H v x)(rs:RWs P w K m H vs ws)(e:aP me x ws h=aa (z,h'))(p:Post P w K m H z h' Q):rMe P w K me v vs H Q
def getD_some{q:Type}{xs:List q}{n:Nat}{a:q}(h:xs[n]?=aa a):n<xs.length:=by
 rcases Sq n xs.length with z|z
 exact z;rw[Si z]at h;exact cU h
def yM:MtR X "list.append" (rMe X.prog X.w X.K .append):=by
 intro O s M H v f i j Q I Z J h;obtain⟨m,h,x,W,z,l,R,Y,D,e,U⟩:=h;cases x with
 |p d=>cases W with
  |nil=>exact cU e|cons _ _=>rw[tM]at e;split at e<;>(try exact cU e)
 |r n =>
  cases D with
  |nil=>(first|exact cU e|simp[aP]at e)
  |@cons y b _ _ q t =>
   cases t with
   |cons _ _=>cases q<;>(first|exact cU e|simp[aP]at e)
   |nil =>
    cases q with
    |p q =>
     rw[BT.iE]at e;cases g:bg h n with
     |none=>rw[g]at e;exact cU e
     |some V =>
      rw[g]at e;simp only at e;obtain⟨c,e⟩:=dw e;cases e;cases Y with
      |@r a _ hn =>
       obtain⟨B,L,r⟩:=R.cell n a V hn g;have:=f9;have k:=r.length;exact qk O s M H _ _ _ _ Q I Z J ⟨a,B,y,rfl,rfl,L,by lia,U _ _ m (iH (Sg hn) L) (R.set hn L (r.append (.cons q .nil))) (.p .aD)⟩
    |_=>(first|exact cU e|simp[aP]at e)
 |_=>(first|exact cU e|simp[aP]at e)
def Bp{q:Type}{xs:List q}{d:q}(h:xs.getLast?=aa d):xs[xs.length-1]?=aa d:=by rw[←List.getLast?_eq_getElem?];exact h
def IU:MtR X "list.pop" (rMe X.prog X.w X.K .pop):=by
 intro V s U H v j k l Q I c D h;obtain⟨m,h,x,Y,z,o,R,b,B,e,W⟩:=h;cases x with
 |p d=>cases Y with
  |nil=>exact cU e|cons _ _=>rw[tM]at e;split at e<;>(try exact cU e)
 |r n =>
  cases B with
  |cons _ _=>(first|exact cU e|simp[aP]at e)
  |nil =>
   rw[BT.Ej]at e;cases g:bg h n with
   |none=>rw[g]at e;exact cU e
   |some M =>
    rw[g]at e;simp only at e;cases L:M.getLast? with
    |none=>rw[L]at e;exact cU e
    |some d =>
     rw[L]at e;cases e;cases b with
     |@r a _ hn =>
      obtain⟨q,J,r⟩:=R.cell n a M hn g;have i:=r.length;obtain⟨y,f,Z⟩:=r.get (Bp L);have O:Ext m H m (upd H a (.aB q.dropLast)):=iH (Sg hn) J;exact HP V s U H _ _ _ _ Q I c D ⟨a,q,y,rfl,rfl,J,by rw[i];exact f,W _ _ m O (R.set hn J r.dropLast) (.p (Z.ext O))⟩
 |_=>(first|exact cU e|simp[aP]at e)
def Bq(I:Inv X zt σ H s)(M:H l=aa (.aB xs))(W:LL X.K H b zs)(hz:xs.length+zs.length<=aj)(q:Q .aD (upd H l (.aB (xs++zs)))):
 av (Su X.prog X.w) X.A (call (.builtin "list.extend") [.ref l,.ref b]) (EP X zt σ Q) X.xe s:=by
 obtain⟨z,D,n,r,Z,e⟩:=I.D8 M;obtain⟨Y,B,U,O,V,e2⟩:=rdL I W;have L:D.toArray.size+B.toArray.size<=aj:=by rw[RZ,RZ];lia
 have J:¬(!D.toArray.isEmpty&&TZ (D.toArray.size+B.toArray.size))=ah:=by rw[nL L,Bool.and_false];exact SE
 refine U7 F.slot_list_extend ⟨_,e,rfl⟩ F.entry_list_extend (F.args_list_extend_2 _ _)
  (AutoSeq1.list_extend_list_list_0 l D.toArray n b B.toArray U J (by rw[RZ];lia) (by lia)) ⟨e,e2,?_⟩
 refine⟨.aD,_,I.D7 (its':=D++B) M e (by simp) (r.append O) ?_,rfl,q⟩;rw[Sz];lia
def EF(I:Inv X zt σ H s)(V:H l=aa (.aB xs))(d:SqT X.K H b zs)(hz:xs.length+zs.length<=aj)(q:Q .aD (upd H l (.aB (xs++zs)))):
 av (Su X.prog X.w) X.A (call (.builtin "list.extend") [.ref l,.ref b]) (EP X zt σ Q) X.xe s:=by
 obtain⟨z,D,n,r,g,e⟩:=I.D8 V;obtain⟨B,M,Z,_⟩:=I.tuple d;obtain⟨⟨f,dd,W,Y⟩,e2,U,a,O⟩:=id Z;simp only at U O;subst U O;have c:=M.length;have L:D.toArray.size+B.toArray.size<=aj:=by rw[RZ,RZ];lia
 have J:¬(!D.toArray.isEmpty&&TZ (D.toArray.size+B.toArray.size))=ah:=by rw[nL L,Bool.and_false];exact SE
 refine U7 F.slot_list_extend ⟨_,e,rfl⟩ F.entry_list_extend (F.args_list_extend_2 _ _)
  (mX l D.toArray n b B.toArray a dd Y J (by rw[RZ];lia) (by lia)) ⟨e,e2,?_⟩
 refine⟨.aD,_,I.D7 (its':=D++B) V e (by simp) (r.append M) ?_,rfl,q⟩;rw[Sz];lia
def yN:MtR X "list.extend" (rMe X.prog X.w X.K .extend):=by
 intro C s A H v F G N Q I o J h;obtain⟨m,h,x,f,z,S,R,l,D,e,U⟩:=h;cases x with
 |p d=>cases f with
  |nil=>exact cU e|cons _ _=>rw[tM]at e;split at e<;>(try exact cU e)
 |r n =>
  cases D with
  |nil=>(first|exact cU e|simp[aP]at e)
  |@cons y Z _ _ k t =>
   cases t with
   |cons _ _=>(first|exact cU e|simp[aP]at e)
   |nil =>
    rw[BT.uT]at e;cases g:bg h n with
    |none=>rw[g]at e;exact cU e
    |some Y =>
     cases O:(aW Z h).bind BT.qQ with
     |none=>rw[g,O]at e;exact cU e
     |some E =>
      rw[g,O]at e;simp only at e;obtain⟨c,e⟩:=dw e;cases e;obtain⟨d,e1,e2⟩:=Option.bind_eq_some_iff.mp O;have W:=dZ R k e1;cases l with
      |@r a _ hn =>
       obtain⟨j,q,r⟩:=R.cell n a Y hn g;cases o;obtain⟨u,rfl,V⟩:=J.one;have:=f9;have P:=r.length;cases d<;>simp only[BT.qQ]at e2<;>try contradiction
       ·cases e2;obtain⟨b,i,rfl,M,B⟩:=W.aC;cases V;have L:=B.length;exact EF I q M (by lia) (U _ _ m (iH (Sg hn) q) (R.set hn q (r.append B)) (.p .aD))
       ·cases e2;obtain⟨b,i,rfl,M,B⟩:=W.aB;cases V;have L:=B.length;exact Bq I q M (by lia) (U _ _ m (iH (Sg hn) q) (R.set hn q (r.append B)) (.p .aD))
 |_=>(first|exact cU e|simp[aP]at e)
def RWs.pure{K:RQ}:∀{vs:List V}{ws:List aN}{ds:List aM},RWs P w K m H vs ws->aZ ws=aa ds->RDs K m H vs ds:=by
 intro vs ws
 induction ws generalizing vs with
 |nil =>
  intro ds r e;cases r;cases e;exact .nil
 |cons x ws B =>
  intro ds r e;cases r with
  |cons r t =>
   cases r with
   |p r =>
    simp only[aZ]at e;obtain⟨q,e1,e2⟩:=dh e;subst e2;exact .cons r (B t e1)
   |_=>exact cU e
theorem oF:∀{ds:List aM}{k j:Nat},BT.jK x ds k=aa j->∃i,j=k+i/\∃(hi:i<ds.length),aQ ds[i] x=ah/\∀m (q:m<ds.length),m<i->aQ ds[m] x=ai
 |[],_,_,e=>by exact cU e
 |y::r,k,j,e=>by
  simp only[BT.jK]at e;split at e
  ·rename_i c;cases e;exact⟨0,rfl,by simp,c,λm _ h=>by lia⟩
  ·rename_i c;obtain⟨i,rfl,hi,J,D⟩:=oF e;refine⟨i+1,by lia,by simp;lia,by simpa using J,λm q B=>?_⟩;cases m with
   |zero=>simpa using c|succ m=>simpa using D m (by simpa using q) (by lia)
theorem nq(I:Inv X zt σ H s):∀{vs:List V}{ds:List aM}{us:List aA},RDs X.K m H vs ds->dg vs us->∀(i:Nat)(h1:i<us.length)(h2:i<ds.length),fC s.heap (pd d) us[i]=aQ ds[i] d
 |_,_,_,.nil,q=>by cases q;intro i h1;simp at h1
 |_,_,_,.cons r t,q=>by
  cases q with
  |cons D B =>
   intro i h1 h2;cases i with
   |zero =>
    obtain⟨J,ra⟩:=jR I r D;simp only[List.getElem_cons_zero];rw[u0 ra (iA r),oE]
   |succ i=>simpa using nq I t B i (by simpa using h1) (by simpa using h2)
def yO(S:X.A.units+150<cLine):MtR X "tuple.index" (rMe X.prog X.w X.K .tindex):=by
 intro zt s σ H v vs v' us Q I t M h;obtain⟨m,h,x,V,z,h',R,J,L,e,l⟩:=h;cases x with
 |r n=>cases V with
  |_=>(first|exact cU e|simp[aP]at e)
 |p d =>
  rw[BT.nP]at e;cases g:aZ V with
  |none=>rw[g]at e;exact cU e
  |some ds =>
   rw[g]at e;obtain⟨b,e1,e2⟩:=dh e;cases e2;have rds:=L.pure g;cases d<;>first|exact cU e1|skip
   rename_i xs;cases ds with
   |nil=>exact cU e1
   |cons d0 dr =>
    cases dr with
    |cons _ _=>exact cU e1
    |nil =>
     rw[BT.AG]at e1;split at e1
     ·rename_i c;obtain⟨j,e3,e4⟩:=dh e1;subst e4;obtain⟨i,rfl,hi,h1,h2⟩:=oF e3;cases rds with
      |cons G E =>
       cases E;obtain⟨u,rfl,C⟩:=M.one;cases J with
       |p J =>
        obtain⟨a,vt,rfl,ha,ra⟩:=RR.aC (.d J);cases t;obtain⟨q,D,N,_⟩:=I.tuple ha;obtain⟨⟨cls,dd,f,o⟩,W,Z,n,Y⟩:=id N;simp only at Z Y;subst Z Y;have hl:=D.length;have T:=ra.length;have U:i<q.toArray.size:=by rw[RZ];lia
        refine U7 F.slot_tuple_index ⟨_,W,rfl⟩ F.entry_tuple_index (F.args_tuple_index_2 _ _)
         (pS a q.toArray n dd o u (fC s.heap (pd d0)) i U ?_ ?_) ⟨W,?_,?_⟩
        rw[show q.toArray[i]=q[i]'(by lia) by simp,nq I ra D i (by lia) hi];exact h1
        ·intro k hk O;have B:k<q.length:=by simpa using hk
         rw[show q.toArray[k]=q[k]'B by simp,nq I ra D k B (by lia)];exact h2 k (by lia) O
        ·intro y P;exact ju S I (.d G) C ra D c y (by simpa using P)
        ·refine⟨.int (((0+i:Nat):Nat):Int),H,I.tok _,⟨s.toks,?_⟩,l.here R (.int _)⟩;simp
     exact cU e1
 |_=>(first|exact cU e|simp[aP]at e)
def yP:MtR X "str.index" (rMe X.prog X.w X.K .sindex):=by
 intro f s c H v i k l Q I V D h;obtain⟨m,h,x,L,z,o,R,q,B,e,O⟩:=h;cases x with
 |r n=>cases L with
  |_=>(first|exact cU e|simp[aP]at e)
 |p d =>
  rw[BT.nQ]at e;cases g:aZ L with
  |none=>rw[g]at e;exact cU e
  |some Z =>
   rw[g]at e;obtain⟨b,e1,e2⟩:=dh e;cases e2;have rds:=B.pure g;cases d<;>first|exact cU e1|skip
   cases Z with
   |nil=>exact cU e1
   |cons M a =>
    cases a with
    |cons _ _=>cases M<;>exact cU e1
    |nil =>
     cases M<;>first|exact cU e1|skip
     rename_i x y;rw[BT.AH]at e1;cases J:UR x y 0 x.length 1 with
     |nil=>rw[J]at e1;exact cU e1
     |cons j rest =>
      rw[J]at e1;cases e1;cases rds with
      |cons Y W =>
       cases W;cases Y;obtain⟨u,rfl,U,rfl⟩:=D.one;cases q with
       |p q =>
        cases q;obtain⟨t,rfl⟩:=V;exact call_gives F.slot_str_index (typeIs_str s x t) F.entry_str_index (F.args_str_index_2 _ _) (gives_str_index x y t U j rest J) ⟨.int j,H,I.tok _,⟨_,rfl⟩,O.here R (.int _)⟩
 |_=>(first|exact cU e|simp[aP]at e)
end
section
inductive rBi(P:So)(w:SQ)(K:RQ)(b:BT.Bi)(mu:Bool)(vs:List V)(H:Hp)(Q:VK):Prop
 |mk(m:List az)(h:aO)(ws:List aN)(z:aN)(h':aO)(R:RH K m H h)(rs:RWs P w K m H vs ws)(e:BT.kBi b mu ws h=aa (z,h'))(p:Post P w K m H z h' Q):rBi P w K b mu vs H Q
inductive RRs(K:RQ)(m:List az)(H:Hp):List V->List aM->Prop
 |nil:RRs K m H [] []
 |cons{v:V}{d:aM}{vs:List V}{ds:List aM}(r:RR K m H v d)(t:RRs K m H vs ds):RRs K m H (v::vs) (d::ds)
theorem gc{K:RQ}(R:RH K m H h):∀{vs:List V}{ws:List aN}{ds:List aM},RWs P w K m H vs ws->aR ws h=aa ds->RRs K m H vs ds
 |_,_,_,.nil,e=>by cases e;exact .nil
 |_,_,_,.cons r t,e=>by simp only[aR]at e;obtain⟨d,e1,e2⟩:=Option.bind_eq_some_iff.mp e;obtain⟨q,D,B⟩:=dh e2;subst B;exact .cons (dZ R r e1) (gc R t D)
inductive BiI(b:BT.Bi)(mu:Bool)(ws:List aN)(h:aO)(z:aN)(h':aO):Prop
 |mk(ds:List aM)(d:aM)(h1:aR ws h=aa ds)(h2:BT.biD b ds=aa d)(q:(mu=ai/\z=.p d/\h'=h)\/∃xs,mu=ah/\d=.aB xs/\z=.r h.length/\h'=h++[.l xs]):BiI b mu ws h z h'
def gX(e:BT.kBi b mu ws h=aa (z,h')):BiI b mu ws h z h':=by
 unfold BT.kBi at e;cases e1:aR ws h with
 |none=>rw[e1]at e;exact cU e
 |some q =>
  rw[e1]at e;simp only at e;cases e2:BT.biD b q with
  |none=>rw[e2]at e;exact cU e
  |some d =>
   rw[e2]at e;simp only at e;cases mu with
   |false=>cases e;exact⟨q,d,e1,e2,.inl ⟨rfl,rfl,rfl⟩⟩
   |true =>
    simp only[if_true]at e;cases d<;>simp only at e<;>try contradiction
    cases e;exact⟨q,_,e1,e2,.inr ⟨_,rfl,rfl,rfl,rfl⟩⟩
def RRs.one{K:RQ}{m:List az}{H:Hp}{vs:List V}{d:aM}(r:RRs K m H vs [d]):∃v,vs=[v]/\RR K m H v d:=by
 cases r with
 |cons r t=>cases t;exact⟨_,rfl,r⟩
def IV:eW X (.builtin "len") (rBi X.prog X.w X.K .len ai):=by
 intro J s D H b O Q I B h;obtain⟨m,h,Z,z,f,R,U,e,L⟩:=h;obtain⟨Y,d,e1,e2,⟨_,rfl,rfl⟩|⟨_,q,_⟩⟩:=gX e
 ·have V:=gc R U e1
  match Y,e2 with
  |[.aC xs],e2 =>
   cases e2;obtain⟨v,rfl,r⟩:=V.one;obtain⟨a,M,rfl,W,ra⟩:=r.aC;exact jm J s D H _ O Q I B ⟨a,M,rfl,.inr W,by rw[ra.length];exact L.here R (.int _)⟩
  |[.aB xs],e2 =>
   cases e2;obtain⟨v,rfl,r⟩:=V.one;obtain⟨a,M,rfl,W,ra⟩:=r.aB;exact jm J s D H _ O Q I B ⟨a,M,rfl,.inl W.sq,by rw[ra.length];exact L.here R (.int _)⟩
  |[.str x],e2 =>
   rw[BT.yz]at e2;split at e2
   ·rename_i c;cases e2;obtain⟨v,rfl,r⟩:=V.one;obtain⟨rfl,_⟩:=r.str;have:=f9;exact qM J s D H _ O Q I B ⟨x,rfl,by lia,L.here R (.int _)⟩
   exact cU e2
 exact aS q
def IW:eW X (.type "int") (rBi X.prog X.w X.K .int ai):=by
 intro L s J H Y O Q I B h;obtain⟨m,h,W,z,Z,R,D,e,M⟩:=h;obtain⟨V,d,e1,e2,⟨_,rfl,rfl⟩|⟨_,q,_⟩⟩:=gX e
 ·have U:=gc R D e1
  match V,e2 with
  |[.int i],e2 =>
   cases e2;obtain⟨v,rfl,r⟩:=U.one;cases r.int;exact qe L s J H _ O Q I B (.inl ⟨i,rfl,M.here R (.int _)⟩)
  |[.bl i],e2 =>
   cases e2;obtain⟨v,rfl,r⟩:=U.one;cases r.bl;exact qe L s J H _ O Q I B (.inr ⟨i,rfl,M.here R (.int _)⟩)
 exact aS q
def wD:eW X (.type "list") (rBi X.prog X.w X.K .list mu):=by
 intro U s O H i Y Q I J h;obtain⟨m,h,g,z,j,R,L,e,W⟩:=h;obtain⟨f,d,e1,e2,c⟩:=gX e;have Z:=gc R L e1;have fin:∀{p:az}{q:List V}{D:List aM},d=.aB D->H p=af->RDs X.K m H q D->Q (.ref p) (upd H p (.aB q)):=by
  intro p q D b B r;rcases c with⟨_,rfl,rfl⟩|⟨ys,_,e3,rfl,rfl⟩
  subst b;exact jq R B r W;rw[b]at e3;cases e3;exact qX R B r W
 match f,e2 with
 |[.aC D],e2 =>
  cases e2;obtain⟨v,rfl,r⟩:=Z.one;obtain⟨a,q,rfl,M,ra⟩:=r.aC;exact ly U s O H _ Y Q I J ⟨a,q,rfl,.inr M,λp B=>fin rfl B ra⟩
 |[.aB D],e2 =>
  cases e2;obtain⟨v,rfl,r⟩:=Z.one;obtain⟨a,q,rfl,M,ra⟩:=r.aB;exact ly U s O H _ Y Q I J ⟨a,q,rfl,.inl M.sq,λp B=>fin rfl B ra⟩
theorem gC:∀{xs:List aM}{ns:List Int},BT.intsOf xs=aa ns->xs=ns.map aM.int
 |[],ns,h=>by cases h;rfl
 |.int i::r,ns,h=>by simp only[BT.intsOf]at h;obtain⟨q,e1,e2⟩:=dh h;subst e2;rw[gC e1];rfl
 |.aD::_,_,h=>by exact cU h
 |.bl _::_,_,h=>by exact cU h
 |.str _::_,_,h=>by exact cU h
 |.aC _::_,_,h=>by exact cU h
 |.aB _::_,_,h=>by exact cU h
theorem gf{K:RQ}:∀{ns:List Int}{vs:List V},RDs K m H vs (ns.map aM.int)->vs=ns.map V.int
 |[],vs,r=>by cases r;rfl
 |n::ns,vs,r=>by
  cases r with
  |cons r t=>cases r;rw[gf t];rfl
theorem lM{K:RQ}:∀(ns:List Int),RDs K m H (ns.map V.int) (ns.map aM.int)
 |[]=>.nil|n::ns=>.cons (.int n) (lM ns)
def yQ(i:X.calm=ah):eW X (.builtin "max") (λxs H Q=>∃(a:az) (ns:List Int),xs=[.ref a]/\SqL X.K H a (ns.map V.int)/\0<ns.length/\∀M,M∈ns->(∀z∈ns,z<=M)->Q (.int M) H):=by
 intro m s l H xs n Q I r h;obtain⟨a,ns,rfl,d,O,q⟩:=h;obtain⟨u,rfl,e⟩:=vals1 r;cases e;obtain⟨b,Z,p,J⟩:=I.list d;have W:=intsAre_of Z;obtain⟨D,e⟩:=W.allInts.items;have B:ns=D.toList.map (·.1):=by rw[←W.numsOf,←YF,←e]
 have L:0<D.size:=by have Y:=O;rw[B,Se,SG]at Y;exact Y
 have U:=p.isList;rw[e]at U;refine max_intList (I.ok.hd i) U L λv x o c f=>?_;obtain⟨t,rfl⟩:=intItems_at c;obtain⟨w,k⟩:=argBest_gt (numAt D) (D.size-1);refine⟨.int _,H,I.aH f,⟨t,rfl⟩,q _ ?_ λz J=>?_⟩;rw[B,numAt_eq];exact getD_mem (by rw[Se,SG];lia)
 ·rw[B]at J;obtain⟨j,g,rfl⟩:=mem_getD J;rw[Se,SG]at g;rw[←numAt_eq];exact k j (by lia)
def yR(i:X.calm=ah):eW X (.builtin "min") (λxs H Q=>∃(a:az) (ns:List Int),xs=[.ref a]/\SqL X.K H a (ns.map V.int)/\0<ns.length/\∀M,M∈ns->(∀z∈ns,M<=z)->Q (.int M) H):=by
 intro m s l H xs n Q I r h;obtain⟨a,ns,rfl,d,O,q⟩:=h;obtain⟨u,rfl,e⟩:=vals1 r;cases e;obtain⟨b,Z,p,J⟩:=I.list d;have W:=intsAre_of Z;obtain⟨D,e⟩:=W.allInts.items;have B:ns=D.toList.map (·.1):=by rw[←W.numsOf,←YF,←e]
 have L:0<D.size:=by have Y:=O;rw[B,Se,SG]at Y;exact Y
 have U:=p.isList;rw[e]at U;refine min_intList (I.ok.hd i) U L λv x o c f=>?_;obtain⟨t,rfl⟩:=intItems_at c;obtain⟨w,k⟩:=argBest_lt (numAt D) (D.size-1);refine⟨.int _,H,I.aH f,⟨t,rfl⟩,q _ ?_ λz J=>?_⟩;rw[B,numAt_eq];exact getD_mem (by rw[Se,SG];lia)
 ·rw[B]at J;obtain⟨j,g,rfl⟩:=mem_getD J;rw[Se,SG]at g;rw[←numAt_eq];exact k j (by lia)
def Br(Z:X.calm=ah):eW X (.builtin "sum") (λxs H Q=>∃(a:az) (ns:List Int),xs=[.ref a]/\SqL X.K H a (ns.map V.int)/\Q (.int ns.sum) H):=by
 intro c s b H xs d Q I r h;obtain⟨a,ns,rfl,W,q⟩:=h;obtain⟨u,rfl,e⟩:=vals1 r;cases e;obtain⟨U,O,p,g⟩:=I.list W;have L:=intsAre_of O;obtain⟨B,e⟩:=L.allInts.items;have D:ns=B.toList.map (·.1):=by rw[←L.numsOf,←YF,←e]
 have J:=p.isList;rw[e]at J;refine sum_intListG (I.ok.hd Z) J λi f M Y=>?_;have e2:preSum (numAt B) B.size=ns.sum:=by rw[preSum_eq,X9 (by simp),D]
 rw[e2];exact⟨.int _,H,I.aH Y,⟨M,rfl⟩,q⟩
def IX(Z:X.calm=ah):eW X (.builtin "sum") (rBi X.prog X.w X.K .sum ai):=by
 intro L s J H i O Q I D h;obtain⟨m,h,f,z,j,R,B,e,M⟩:=h;obtain⟨c,d,e1,e2,⟨_,rfl,rfl⟩|⟨_,q,_⟩⟩:=gX e
 ·have U:=gc R B e1
  match c,e2 with
  |[.aB xs],e2 =>
   rw[BT.wj]at e2;obtain⟨Y,W,V⟩:=dh e2;subst V;obtain⟨v,rfl,r⟩:=U.one;obtain⟨a,g,rfl,b,ra⟩:=r.aB;rw[gC W]at ra;have ev:=gf ra;subst ev;exact Br Z L s J H _ O Q I D ⟨a,Y,rfl,b.sq,M.here R (.int _)⟩
 exact aS q
def tN:eW X (.builtin "sorted") (λxs H Q=>∃(a:az) (ns:List Int),xs=[.ref a]/\SqL X.K H a (ns.map V.int)/\ns.length<64/\∀(l:az)(B:List Int),H l=af->B.Perm ns->B.Pairwise (·<=·)->Q (.ref l) (upd H l (.aB (B.map V.int)))):=by intro f s d H xs g Q I r h;obtain⟨a,ns,rfl,U,h64,q⟩:=h;obtain⟨u,rfl,e⟩:=vals1 r;cases e;obtain⟨J,L,p,k⟩:=I.list U;have W:=intsAre_of L;have len:=L.length;rw[Se]at len;refine sorted_ints p.isList W (by lia) λD B c M Z=>?_;obtain⟨e,Y⟩:=sortedAll_at s.heap J D;have O:=j9 c;have j:=M.length_eq;refine⟨.ref _,_,I.laid (t':=s.toks) (λb u q=>sortedAll_old q) (T3 _) ?_,rfl,q _ B (I.aJ.fresh (T3 _)) M Z⟩;have i:aj=16777216:=WI;exact⟨by rw[Se];lia,D.toList,e,O,Y⟩
def EG(k:X.calm=ah):eW X (.builtin "max") (rBi X.prog X.w X.K .max1 ai):=by
 intro U s O H u W Q I D h;obtain⟨m,h,p,z,x,R,B,e,V⟩:=h;obtain⟨n,d,e1,e2,⟨_,rfl,rfl⟩|⟨_,q,_⟩⟩:=gX e
 ·have b:=gc R B e1
  match n,e2 with
  |[.aB xs],e2 =>
   rw[BT.AK]at e2;obtain⟨L,g,f⟩:=Option.bind_eq_some_iff.mp e2;obtain⟨M,J,c⟩:=dh f;subst c;obtain⟨v,rfl,r⟩:=b.one;obtain⟨a,t,rfl,l,ra⟩:=r.aB;rw[gC g]at ra;have ev:=gf ra;subst ev;obtain⟨Z,Y⟩:=BT.yD J;refine yQ k U s O H _ W Q I D ⟨a,L,rfl,l.sq,by cases L with|nil=>cases J|cons _ _=>exact WT _,λo j i=>?_⟩;have:o=M:=Int.le_antisymm (Y _ j) (i _ Z);subst this;exact V.here R (.int _)
 exact aS q
def EI(k:X.calm=ah):eW X (.builtin "min") (rBi X.prog X.w X.K .min1 ai):=by
 intro U s O H u W Q I D h;obtain⟨m,h,p,z,x,R,B,e,V⟩:=h;obtain⟨n,d,e1,e2,⟨_,rfl,rfl⟩|⟨_,q,_⟩⟩:=gX e
 ·have b:=gc R B e1
  match n,e2 with
  |[.aB xs],e2 =>
   rw[BT.sY]at e2;obtain⟨L,g,f⟩:=Option.bind_eq_some_iff.mp e2;obtain⟨M,J,c⟩:=dh f;subst c;obtain⟨v,rfl,r⟩:=b.one;obtain⟨a,t,rfl,l,ra⟩:=r.aB;rw[gC g]at ra;have ev:=gf ra;subst ev;obtain⟨Z,Y⟩:=BT.yC J;refine yR k U s O H _ W Q I D ⟨a,L,rfl,l.sq,by cases L with|nil=>cases J|cons _ _=>exact WT _,λo j i=>?_⟩;have:o=M:=Int.le_antisymm (i _ Z) (Y _ j);subst this;exact V.here R (.int _)
 exact aS q
def qu:eW X (.builtin "sorted") (rBi X.prog X.w X.K .sorted mu):=by
 intro b s Z H y f Q I O h;obtain⟨m,h,x,z,A,R,M,e,W⟩:=h;obtain⟨u,d,e1,e2,n⟩:=gX e;have g:=gc R M e1;have fin:∀{p:az}{D:List V}{B:List aM},d=.aB B->H p=af->RDs X.K m H D B->Q (.ref p) (upd H p (.aB D)):=by
  intro p D B L Y r;rcases n with⟨_,rfl,rfl⟩|⟨ys,_,e3,rfl,rfl⟩
  subst L;exact jq R Y r W;rw[L]at e3;cases e3;exact qX R Y r W
 match u,e2 with
 |[.aB B],e2 =>
  rw[BT.nZ]at e2;obtain⟨q,i,J⟩:=Option.bind_eq_some_iff.mp e2
  by_cases c:q.length<64
  ·rw[bJ c]at J;have L:=(Sa J).symm;obtain⟨v,rfl,r⟩:=g.one;obtain⟨a,D,rfl,t,ra⟩:=r.aB;rw[gC i]at ra;have ev:=gf ra;subst ev;refine tN b s Z H _ f Q I O ⟨a,q,rfl,t.sq,c,λl U o k j=>?_⟩;have:U=bG q:=Ww (k.trans (bE q).symm) j (BT.n8 q);subst this;exact fin L o (lM _)
  rw[bK c]at J;exact cU J
def Bs:eW X (.type "tuple") (rBi X.prog X.w X.K .tuple ai):=by
 intro O s M H c V Q I B h;obtain⟨m,h,b,z,f,R,J,e,U⟩:=h;obtain⟨Z,d,e1,e2,⟨_,rfl,rfl⟩|⟨_,q,_⟩⟩:=gX e
 ·have W:=gc R J e1
  match Z,e2 with
  |[.aC xs],e2 =>
   cases e2;obtain⟨v,rfl,r⟩:=W.one;obtain⟨a,D,rfl,L,ra⟩:=r.aC;refine kJ O s M H _ V Q I B ⟨a,D,rfl,.inr ⟨L,?_⟩⟩;cases r with
   |d r=>exact U.here R r
  |[.aB xs],e2 =>
   cases e2;obtain⟨v,rfl,r⟩:=W.one;obtain⟨a,D,rfl,L,ra⟩:=r.aB;exact kJ O s M H _ V Q I B ⟨a,D,rfl,.inl ⟨L.sq,λp Y=>lI R Y ra U⟩⟩
 exact aS q
noncomputable def tyD:aM->String
 |.aD=>"NoneType"|.bl _=>"bool"|.int _=>"int"|.str _=>"str"|.aC _=>"tuple"|.aB _=>"list"
def EJ{E:aA->RV->Prop}
(I:Inv X zt σ H s)(r:RR X.K m H v d)(q:RelV v u)(e:Uj X.K (.type (tyD d)) (.type c)=aa b)(h:∀tk,Q (.bool b) {s with toks:=tk}):
 av (Su X.prog X.w) A (call (.builtin "isinstance") [u,.type c]) Q E s:=by
 cases d with
 |aD=>cases r.aD;cases q;exact UY PySem.W.kitx_none I.kIn UW e (λz=>nomatch z) h|bl y=>cases r.bl;cases q;exact UY PySem.W.kitx_bool I.kIn UW e (λz=>nomatch z) h|int i=>cases r.int;obtain⟨t,rfl⟩:=q;exact UY PySem.W.kitx_int I.kIn UW e (λz=>nomatch z) h|str y=>obtain⟨rfl,_⟩:=r.str;obtain⟨t,rfl⟩:=q;exact UY PySem.W.kitx_str I.kIn UW e (λz=>nomatch z) h
 |aC L =>
  obtain⟨a,M,rfl,D,_⟩:=r.aC;cases q;obtain⟨B,_,⟨o,J,O,_⟩,_⟩:=I.tuple D;exact UY PySem.W.kitx_tuple I.kIn ⟨o,J,O⟩ e (λz=>nomatch z) h
 |aB L =>
  obtain⟨a,M,rfl,D,_⟩:=r.aB;cases q;obtain⟨_,B,n,_,_,J⟩:=rdL I D;exact UY PySem.W.kitx_list I.kIn ⟨_,J,rfl⟩ e (λz=>nomatch z) h
def Bt(K:RQ)(t:String):Uj K (.type t) (.type t)=aa ah:=by unfold Uj;rw[bJ (by simp)]
def Bu(h:tF b=aa (c,f))(d:aM):BT.biD b [d]=aa (.bl (f d)):=by
 cases b<;>simp only[tF]at h<;>try contradiction
 all_goals (cases h;rfl)
def Bv(h:tF b=aa (c,f))(K:RQ)(d:aM):Uj K (.type (tyD d)) (.type c)=aa (f d):=by
 cases b<;>simp only[tF]at h<;>try contradiction
 all_goals (cases h;cases d)
 all_goals first
  |exact Bt K _
  |(simp only[tyD];unfold Uj;rw[bK (by decide)];unfold PySem.W.kitCls;first|rfl|kernel_rfl|decide +kernel)
end
end BS
end
section
namespace BX
open PySem PySem.Spec PyProof.Rows
section
variable{prog:So}{w:SQ}{A:TF}{R:Xy->RV->Prop}{I:az}{fp wr:List az}{n:Nat}{P:Nat->aA->Prop}{St:Nat->aq->Prop}{kw:List (ay×aA)}
end
end BX
end
section
namespace BS
open PySem PySem.Spec PyProof.Rows L2
variable{K:RQ}
noncomputable abbrev FT:=BT.FK->List aN->aO->Option (aN×aO)
inductive spF(P:So)(w:SQ)(K:RQ)(g:List aN->aO->Option (aN×aO))(vs:List V)(H:Hp)(Q:VK)(E:XK):Prop
 |mk(m:List az)(ws:List aN)(h:aO)(z:aN)(h':aO)(R:RH K m H h)(r:RWs P w K m H vs ws)(e:g ws h=aa (z,h'))(p:Post P w K m H z h' Q):spF P w K g vs H Q E
inductive tD(X:Cx)(F:FT)(G:ay->Option aN)(e:aV)(σ:L2.St)(H:Hp)(Q:VK):Prop
 |mk(m:List az)(s:bx)(h:aO)(z:aN)(h':aO)(R:RH X.K m H h)(S:RS X.prog X.w X.K m H σ s)(q:aL F G e s h=aa (z,h'))(p:Post X.prog X.w X.K m H z h' Q):tD X F G e σ H Q
inductive tDs(X:Cx)(F:FT)(G:ay->Option aN)(es:aY)(σ:L2.St)(H:Hp)(Q:List V->Hp->Prop):Prop
 |mk(m:List az)(s:bx)(h:aO)(zs:List aN)(h':aO)(R:RH X.K m H h)(S:RS X.prog X.w X.K m H σ s)(q:aX F G es s h=aa (zs,h'))(p:∀vs H' m',Ext m H m' H'->RH X.K m' H' h'->RWs X.prog X.w X.K m' H' vs zs->Q vs H'):tDs X F G es σ H Q
inductive tDT(X:Cx)(F:FT)(G:ay->Option aN)(e:aV)(σ:L2.St)(H:Hp)(Q:Bool->Hp->Prop):Prop
 |mk(m:List az)(s:bx)(h:aO)(b:Bool)(h':aO)(R:RH X.K m H h)(S:RS X.prog X.w X.K m H σ s)(q:aL F G e s h=aa (.p (.bl b),h'))(p:∀H' m',Ext m H m' H'->RH X.K m' H' h'->Q b H'):tDT X F G e σ H Q
def Bw(P:So)(w:SQ)(K:RQ)(mg:ay->Option aA)(base:aq)(k L:Nat)(g:List aN->aO->Option (aN×aO)):Prop :=
 ∀(A:TF)(q:List Env)(s:RV)(H:Hp) (f:az) (M:List aA) (J B:List V) (m:List az) (D:List aN) (U:List BT.Cp) (h:aO) (z:aN) (O:aO) (Q:VK) (E:XK),fW k A->sD P w K mg base A q s H->dg J M →
  RH K m H h->RWs P w K m H J D->BT.noC D=ah->qq m H f L B->RCs K m H B U->g (D++U.map BT.Cp.w) h=aa (z,O)->Post P w K m H z O Q->ak (Su P w) A (.call (.ref f) ⟨M,[]⟩) (CR CX0 q P w H s Q E) s
structure LX(X:Cx)(x:ay):Prop where
 mem:x∈BT.iR
 ex:∃c P,Ud X.K x=aa (c,P)/\X.env.code=.ref c/\PySem.W.CodeHd X.base c P/\∀y∈BT.iR,∀c2,Ud X.K y=aa (c2,P)->y=x
 ql:X.env.qual=x++".<locals>."
 bm:∃bm ob,X.mg "__builtins__"=aa (.ref bm)/\bm≠U8/\X.base.get? bm=aa ob/\ob.cls=.type "module"/\ob.dict=aa U8/\ob.data=.plain
noncomputable def MY:List ay:=["len","abs","int","list","tuple","isinstance","str","bool","range","reversed","enumerate","zip","min","max","sorted","sum","all","any","set","ValueError","dict"]
inductive OkC(P:So)(w:SQ)(K:RQ)(mg:ay->Option aA)(base:aq)(A:TF)(f:ay)(sp:Sp):Prop
 |mk(q:az)(fd:Uv)(ps:List ay)(k:Nat)(h1:mg f=aa (.ref q))(h2:TY K (.ref q)=ah)(D:Binds K fd ps [])(B:fW k A)(J:jj P w K mg base CX0 k q fd ps sp):OkC P w K mg base A f sp
inductive OkM(P:So)(w:SQ)(K:RQ)(mg:ay->Option aA)(base:aq)(A:TF)(CX:CXT)(c m:ay)(sp:Sp):Prop
 |mk(C g:az)(fd:Uv)(ps:List ay)(k:Nat)(h1:oz K c C)(h2:Ab K C m g)(B:Binds K fd ps [])(q:fW k A)(D:jj P w K mg base CX k g fd ps sp):OkM P w K mg base A CX c m sp
inductive OkN(P:So)(w:SQ)(K:RQ)(mg:ay->Option aA)(base:aq)(A:TF)(c:ay)(sp:Sp):Prop
 |mk(C g:az)(fd:Uv)(ps:List ay)(k:Nat)(h1:oz K c C)(h2:mg c=aa (.ref C))(B:Mk K C g)(q:Binds K fd ps [])(D:fW (k+1) A)(J:jj P w K mg base CX0 k g fd ps sp):OkN P w K mg base A c sp
structure Ok(X:Cx)(F:FT)(G:ay->Option aN)(sc:TV)(N:List ay):Prop where
 hsc:X.env.scope=sc
 hN:X.N=N
 nd:X.N.Nodup
 calm:f7 N=ah->X.calm=ah
 hu:X.A.units+150<cLine
 own:PassesOwn (Su X.prog X.w) X.A X.env X.xe
 glob:∀x z,G x=aa z->∃u v,X.mg x=aa u/\RelV v u/\∀m H,RW X.prog X.w X.K m H v z
 call:∀(f:ay) ws h r,F (.f f) ws h=aa r->OkC X.prog X.w X.K X.mg X.base X.A f (spF X.prog X.w X.K (F (.f f)))
 aF:∀(c m:ay) ws h r,F (.m c m) ws h=aa r->OkM X.prog X.w X.K X.mg X.base X.A CX0 c m (spF X.prog X.w X.K (F (.m c m)))
 mkc:∀(c:ay) ws h r,F (.m c "__init__") ws h=aa r->OkN X.prog X.w X.K X.mg X.base X.A c (spF X.prog X.w X.K (F (.m c "__init__")))
 blt:∀x∈MY,X.mg x=af
 lam:∀(L:Nat) ws h r,F (.l L) ws h=aa r->∃k,fW k X.A/\Bw X.prog X.w X.K X.mg X.base k L (F (.l L))
 lamx:(∀x,X.fn x=ah)->∀x,N.contains (BT.jN x)=ah->LX X x
def PE.weak(h:PE X e t)(q:∀σ H Q,t' σ H Q->t σ H Q):PE X e t':=λB s σ H Q I hw=>h B s σ H Q I (q _ _ _ hw)
def PT.weak(h:PT X e t)(q:∀σ H Q,t' σ H Q->t σ H Q):PT X e t':=λB s σ H Q I hw=>h B s σ H Q I (q _ _ _ hw)
def PW.weak(h:PW X e t)(q:∀σ H Q,t' σ H Q->t σ H Q):PW X e t':=λD B s σ H Q I hw=>h D B s σ H Q I (q _ _ _ hw)
def PA.weak(h:PA X es t)(q:∀σ H Q,t' σ H Q->t σ H Q):PA X es t':=λB D s σ H Q I hw=>h B D s σ H Q I (q _ _ _ hw)
def cY(h:noStar e=ah):SM (e::es) env=(ai,eval e env)::SM es env:=by cases e<;>first|rfl|exact aS h
def tO(h:lG b=ah):vX b:=λo i=>by cases b<;>first|rfl|exact aS h
def lN(h:dX o=ah):V7 o name env (eval o env)=eval o env:=by
 cases o with
 |Call fn B q p =>
  cases fn with
  |Attribute _ _ _=>rfl|_=>exact aS h
 |_=>first|rfl|exact cU h
def c7:List Sd->Bool
 |[]=>ah|e::es=>noStar e&&c7 es
theorem dM:∀{es:List Sd},c7 es=ah->(Vb pos (SM es env)).any (·.1)=ai
 |[],_=>rfl
 |e::es,h=>by simp only[c7,RX]at h;rw[cY h.1];show(ai||(Vb pos (SM es env)).any (·.1))=ai;rw[dM h.2];rfl
theorem jT:∀{es:List Sd},c7 es=ah->(Vb pos (SM es env)).all (λx=>!x.1)=ah
 |[],_=>rfl
 |e::es,h=>by simp only[c7,RX]at h;rw[cY h.1];show(!ai&&(Vb pos (SM es env)).all (λx=>!x.1))=ah;rw[jT h.2];rfl
def MZ:Tq->Prop
 |.es _ q=>c7 q=ah|_=>True
def By(h:CQ sc N t):MZ t:=by
 induction h with
 |es_nil=>exact rfl
 |es_cons B _ _ _ q =>
  show(noStar _&&c7 _)=ah;rw[RX];exact⟨B,q⟩
 |_=>exact UW
def iB(h:CEs sc N as es):c7 es=ah:=By h
noncomputable def noM:Tq->Prop
 |.es (.cons _ _) []=>False|_=>True
def IY(h:CQ sc N t):noM t:=by
 induction h with
 |_=>exact UW
def oG(h:CEs sc N (.cons a r) []):False:=IY h
section
def oH(i:∀s h,aL F G e s h=bB (aL F G a s h) (BT.k2 (aL F G b s) f))(σ:L2.St)(H:Hp)(Q:VK)(q:tD X F G e σ H Q):
 tOp (rOp X.prog X.w X.K f) (tD X F G a) (tD X F G b) σ H Q:=by
 obtain⟨m,s,h,z,j,R,S,M,O⟩:=q;rw[i]at M;obtain⟨x,L,e1,e2⟩:=c5 M;simp only[BT.k2]at e2;obtain⟨y,J,l,k⟩:=c5 e2;refine⟨m,s,h,x,L,R,S,e1,λv t g D o Z=>?_⟩;refine⟨g,s,L,y,J,o,S.ext D,l,λu r d B R2 Y=>?_⟩;exact⟨d,J,x,y,z,j,R2,Z.ext B,Y,k,λV p c U n W=>O V p c ((D.trans B).trans U) n W⟩
def tP(h:∀σ H Q,tD X F G e σ H Q->t σ H Q)(σ:L2.St)(H:Hp)(Q:Bool->Hp->Prop)(q:tDT X F G e σ H Q):zW t σ H Q:=by
 obtain⟨m,s,J,b,L,R,S,M,B⟩:=q;refine h σ H _ ⟨m,s,J,_,L,R,S,M,λv U D x O r=>?_⟩;cases r with
 |p r=>cases r;exact⟨b,rfl,B U D x O⟩
def opB(h:GL o op=ah):OpR X (Uq op) (rOp X.prog X.w X.K (BT.qR o)):=by rw[bP h];cases o;exact IL;exact IM;exact IQ;exact IP;exact Ez
def GQ:∀{es:List (ay×V)}{kvs:List (ay×aM)}{K:RQ},RDk K es kvs->KV (es.map λq=>((Sum.inr q.1:Key),q.2)) vs->(valueAt vs (Sum.inr k)).isSome=(bF k kvs).isSome:=by
 intro es
 induction es generalizing vs with
 |nil =>
  intro kvs K r q;cases r;cases q;rfl
 |cons p es O =>
  intro kvs K r q;cases r with
  |@cons x v dd _ kvs r t =>
   cases q with
   |@cons p z Z Y L J =>
    obtain⟨W,U⟩:=z;obtain⟨B,D⟩:=L;simp only at B D;subst B;rw[bF]
    by_cases c:k=x
    ·subst c;simp[valueAt]
    ·rw[bK c];have M:¬((Sum.inr x:Key)=Sum.inr k):=λz=>c (Sum.inr.inj z).symm;have:=O t J;simp only[valueAt]at this⊢;rw[VX (by simpa using M)];exact this
def opC(O:Ok X F G sc N)(h:Ew o op=ah):OpR X (TL op) (rOp X.prog X.w X.K (bC o)):=by
 rw[bP h];cases o;exact MU O.hu;exact MV O.hu;exact rj Lv rfl rfl λ_ _=>rfl;exact rj Lx rfl rfl λ_ _=>rfl;exact rj Ly rfl rfl λ_ _=>rfl;exact rj Lz rfl rfl λ_ _=>rfl;exact IR;exact EC
 ·refine IS O.hu ?_;intro B x b m H v u y z r j s Q I M U J L e q;cases B with
  |t B =>
   cases x with
   |p d =>
    cases d<;>first|exact cU e|skip
    ·obtain rfl:=Sa e;cases L with
     |@k a i _ V L =>
      cases U;cases J with
      |p J =>
       cases J;cases M;obtain⟨W,c,g,dd⟩:=V;obtain⟨f,A,fn⟩:=map_none (dd s.heap I.kIn);refine X0 (knd:=optKind X.prog X.w) (k:=af) rfl W A ?_;rw[fn];exact⟨.bl _,H,I.tok _,rfl,q⟩
    obtain rfl:=Sa e;cases L with
    |@k a i _ V L =>
     cases U;cases J with
     |p J =>
      cases J with
      |str x ok =>
       obtain⟨t,rfl⟩:=M;obtain⟨W,c,g,dd⟩:=V;have D:=dd s.heap I.kIn;refine X0 (knd:=dH X.prog X.w) (iP _ _ _ t) W D.mapOf ?_;rw[GQ L g];exact⟨.bl _,H,I.tok _,rfl,q⟩
   |_=>exact cU e
  |l B =>
   cases x with
   |p d =>
    obtain⟨k,Z,Y⟩:=dh (show(BT.pQ d).map (λk=>(bD B k).isSome)=aa b from e);subst Y;cases L with
    |@kl a ob P _ C L =>
     cases U;cases J with
     |p J =>
      have E:=Bj J Z;subst E;cases u5 I (.inr ⟨_,C.1⟩) L k with
      |no c dd n Z Y =>
       refine X0 (knd:=dH X.prog X.w) (Ao M) n dd.mapOf ?_;rw[Y];exact⟨.bl _,H,I.tok _,rfl,by rw[Z]at q;exact q⟩
      |is c dd n x R S Z Y g3 T =>
       refine X0 (knd:=dH X.prog X.w) (Ao M) n dd.mapOf ?_;rw[Y];exact⟨.bl _,H,I.tok _,rfl,by rw[Z]at q;exact q⟩
   |_=>exact cU e
 ·refine ED O.hu ?_;intro B x b m H v u y z r j s Q I M U J L e q;cases B with
  |t B =>
   cases x with
   |p d =>
    cases d<;>first|exact cU e|skip
    obtain rfl:=Sa e;cases L with
    |@k a i _ V L =>
     cases U;cases J with
     |p J =>
      cases J with
      |str x ok =>
       obtain⟨t,rfl⟩:=M;obtain⟨W,c,g,dd⟩:=V;have D:=dd s.heap I.kIn;refine wpAny_notIn_of (knd:=dH X.prog X.w) (iP _ _ _ t) W D.mapOf ?_;rw[GQ L g];exact⟨.bl _,H,I.tok _,rfl,q⟩
   |_=>exact cU e
  |l B=>exact cU e
end
section
variable{X:Cx}{F:FT}{G:ay->Option aN}{sc:TV}{N:List ay}
def EK(O:Ok X F G sc N)(x:ay):X.env.kindOf x=sc.names.lookup x:=by rw[←O.hsc];rfl
def gM(h:fQ x=ah):(x==("__debug__":ay))=ai/\(x==("__classdict__":ay))=ai/\x≠"__name__":=by simp only[fQ,RX,WE]at h;exact⟨h.1.1,h.1.2,λe=>by rw[e]at h;simp at h⟩
def dU(O:Ok X F G sc N)(h:dO sc x=ah):Gl X x:=by show X.env.kindOf x=_;rw[EK O];exact bQ h
def IZ(O:Ok X F G sc N)(h:tG sc x=ah):Vis X.env.scope x:=by
 rw[O.hsc];unfold tG at h;unfold Vis;cases e:sc.names.lookup x with
 |none=>rw[e]at h;exact aS h
 |some k=>rw[e]at h;cases k<;>first|(exact .inl rfl)|(exact .inr (.inl rfl))|(exact .inr (.inr rfl))|exact aS h
def wF(O:Ok X F G sc N)(h2:N[i]?=aa y)(M:tG sc y=ah)(L:fQ y=ah):PE X (.Name y pos) (tD X F G (.v i)):=by
 obtain⟨V,U,_⟩:=gM L;refine PE.weak (G8 (i:=i) (by rw[O.hN];exact h2) (IZ O M) V U) fun W H Q q=>?_;obtain⟨m,s,h,z,Y,R,S,B,D⟩:=q;simp only[aL]at B;split at B
 ·rename_i w e;cases B;obtain⟨v,J,r⟩:=S.get i _ e;exact⟨v,J,D v H m (.refl _ _) R r⟩
 exact cU B
def EL(h:GM d c=ah):PE X (.Constant c k pos) (tD X F G (.j d)):=by
 have fin:∀{v:V},(∀m H,RD X.K m H v d)->∀B H Q,tD X F G (.j d) B H Q->tC v B H Q:=λr B H Q q=>by obtain⟨m,s,h,z,L,R,S,D,J⟩:=q;simp only[aL]at D;cases D;exact J _ H m (.refl _ _) R (.p (r m H))
 cases d<;>cases c<;>first|exact aS h|skip
 exact PE.weak G9 (fin λ_ _=>.aD);cases bQ h;exact PE.weak La (fin λ_ _=>.bl _);cases bQ h;exact PE.weak uE (fin λ_ _=>.int _)
 ·have h:=Bool.and_eq_true_iff.mp h;cases bQ h.1;exact PE.weak Hf (fin λ_ _=>.str _ h.2)
def EM(O:Ok X F G sc N)(h2:dO sc y=ah)(U:fQ y=ah):PE X (.Name y pos) (tD X F G (.aE y)):=by obtain⟨V,Z,_⟩:=gM U;intro J s D H Q I q;obtain⟨m,W,h,z,Y,R,S,B,L⟩:=q;simp only[aL]at B;obtain⟨w,e1,e2⟩:=dh B;cases e2;obtain⟨u,v,M,r,rw⟩:=O.glob _ _ e1;exact qI (dU O h2) M r V J s D H Q I (L v H m (.refl _ _) R (rw m H))
def GR(Y:∀s h,aL F G e s h=bB (aL F G a s h) k)(q:tD X F G e σ H Q)
(h1:∀m h x z h' v H1,RH X.K m H1 h->RW X.prog X.w X.K m H1 v x->k x h=aa (z,h')->Post X.prog X.w X.K m H1 z h' Q->R' v H1):tD X F G a σ H R':=by
 obtain⟨m,s,h,z,h',R,S,B,D⟩:=q;rw[Y]at B;obtain⟨x,g,e1,e2⟩:=c5 B;exact⟨m,s,h,x,g,R,S,e1,λv H1 W L b U=>h1 W g x z h' v H1 b U e2 λM c V J Z O=>D M c V (L.trans J) Z O⟩
def lO(Y:∀s h,aL F G e s h=bB (aX F G as s h) k)(q:tD X F G e σ H Q)
(h1:∀m h xs z h' vs H1,RH X.K m H1 h->RWs X.prog X.w X.K m H1 vs xs->k xs h=aa (z,h')->Post X.prog X.w X.K m H1 z h' Q->R' vs H1):tDs X F G as σ H R':=by
 obtain⟨m,s,h,z,h',R,S,B,D⟩:=q;rw[Y]at B;obtain⟨x,g,e1,e2⟩:=c5 B;exact⟨m,s,h,x,g,R,S,e1,λv H1 W L a U=>h1 W g x z h' v H1 a U e2 λM b V J Z O=>D M b V (L.trans J) Z O⟩
def ty_list(R:RH X.K m H h)(r:RW X.prog X.w X.K m H v (.r n))(ok:BT.kO (.r n) h=ah):tyV X.K "list" v H:=by
 cases r with
 |@r a _ hn =>
  obtain⟨q,e⟩:=Option.isSome_iff_exists.mp ok;obtain⟨B,e,_⟩:=R.cell n a q hn e;exact .inl ⟨rfl,B,.inl (.inl e)⟩
def wG(e:BT.kMe m ea x h=aa r):BT.kO x h=ah/\bB (ea h) (aP m x)=aa r:=by unfold BT.kMe at e;split at e;rename_i c;exact⟨c,e⟩;exact cU e
def Qd(B:m=.append\/m=.pop\/m=.extend)(e:aP m x ws h=aa (z,h')):∃n,x=.r n:=by
 cases x with
 |r n=>exact⟨n,rfl⟩
 |p d =>
  rcases B with rfl|rfl|rfl<;>cases ws<;>rw[tM]at e<;>(split at e<;>(try exact cU e))<;>exact cU e
 |k q =>
  rcases B with rfl|rfl|rfl<;>cases ws<;>(first|exact cU e|simp[aP]at e)
 |x _ =>
  rcases B with rfl|rfl|rfl<;>cases ws<;>(first|exact cU e|simp[aP]at e)
 |c _ _ =>
  rcases B with rfl|rfl|rfl<;>cases ws<;>(first|exact cU e|simp[aP]at e)
 |o q =>
  rcases B with rfl|rfl|rfl<;>cases ws<;>(first|exact cU e|simp[aP]at e)
end
section
def rA{X:Cx}{e a:aV}{k:bx->aN->aO->Option (aN×aO)}(Z:∀s h,aL F G e s h=bB (aL F G a s h) (k s)){σ:L2.St}{H:Hp}{Q:VK}(q:tD X F G e σ H Q){R':V->Hp->Prop}
(h1:∀m s h x z h' v H1,RH X.K m H1 h->RS X.prog X.w X.K m H1 σ s->RW X.prog X.w X.K m H1 v x->k s x h=aa (z,h')->Post X.prog X.w X.K m H1 z h' Q->R' v H1):tD X F G a σ H R':=by
 obtain⟨m,s,h,z,h',R,S,D,J⟩:=q;rw[Z]at D;obtain⟨x,g,e1,e2⟩:=c5 D;exact⟨m,s,h,x,g,R,S,e1,λv H1 Y B c U=>h1 Y s g x z h' v H1 c (S.ext B) U e2 λM d W L b O=>J M d W (B.trans L) b O⟩
def I0{X:Cx}{e a:aV}{k:bx->Bool->aO->Option (aN×aO)}{kk:bx->aN->aO->Option (aN×aO)}(Y:∀s h,aL F G e s h=bB (aL F G a s h) (kk s))
(W:∀s x h r,kk s x h=aa r->∃b,x=.p (.bl b)/\k s b h=aa r){σ:L2.St}{H:Hp}{Q:VK}(q:tD X F G e σ H Q){R':Bool->Hp->Prop}
(h1:∀m s h b z h' H1,RH X.K m H1 h->RS X.prog X.w X.K m H1 σ s->k s b h=aa (z,h')->Post X.prog X.w X.K m H1 z h' Q->R' b H1):tDT X F G a σ H R':=by
 obtain⟨m,s,h,z,h',R,S,D,J⟩:=q;rw[Y]at D;obtain⟨x,g,e1,e2⟩:=c5 D;obtain⟨b,rfl,Z⟩:=W _ _ _ _ e2;exact⟨m,s,h,b,g,R,S,e1,λH1 V B d=>h1 V s g b z h' H1 d (S.ext B) Z λM f U L c O=>J M f U (B.trans L) c O⟩
def mz(r:RW P w K m H v (.p (.bl b))):v=.bl b:=by cases r with|p r=>cases r;rfl
def wH(e:BT.En eb x h=aa r):∃b,x=.p (.bl b)/\(if b=ah then eb h else aa (.p (.bl ai),h))=aa r:=by
 cases x with
 |p d =>
  cases d<;>simp only[BT.En]at e<;>try contradiction
  exact⟨_,rfl,e⟩
 |_=>exact cU e
def BA(e:BT.kOr eb x h=aa r):∃b,x=.p (.bl b)/\(if b=ah then aa (.p (.bl ah),h)else eb h)=aa r:=by
 cases x with
 |p d =>
  cases d<;>simp only[BT.kOr]at e<;>try contradiction
  exact⟨_,rfl,e⟩
 |_=>exact cU e
def EN(e:BT.Eo ea eb x h=aa r):∃b,x=.p (.bl b)/\(if b=ah then ea h else eb h)=aa r:=by
 cases x with
 |p d =>
  cases d<;>simp only[BT.Eo]at e<;>try contradiction
  exact⟨_,rfl,e⟩
 |_=>exact cU e
def wI(e:BT.Em x h=aa r):∃b,x=.p (.bl b)/\r=(.p (.bl (!b)),h):=by
 cases x with
 |p d =>
  cases d<;>simp only[BT.Em]at e<;>try contradiction
  cases e;exact⟨_,rfl,rfl⟩
 |_=>exact cU e
def EO(e:BT.El x h=aa r):∃i,x=.p (.int i)/\r=(.p (.int (-i)),h):=by
 cases x with
 |p d =>
  cases d<;>simp only[BT.El]at e<;>try contradiction
  cases e;exact⟨_,rfl,rfl⟩
 |_=>exact cU e
def wJ{X:Cx}{a b:aV}(σ:L2.St)(H:Hp)(Q:VK)(q:tD X F G (.and a b) σ H Q):Gx (tD X F G a) (tD X F G b) σ H Q:=by
 refine rA (k:=λs=>BT.En (aL F G b s)) (λs h=>by simp only[aL]) q λm s h x z D v J R S r e B=>?_;obtain⟨c,rfl,e2⟩:=wH e;refine⟨c,mz r,?_⟩;cases c with
 |true=>rw[bJ rfl]at e2⊢;exact⟨m,s,h,z,D,R,S,e2,B⟩|false=>rw[bK (by decide)]at e2⊢;cases e2;exact B.here R (.bl _)
def BB{X:Cx}{a b:aV}(σ:L2.St)(H:Hp)(Q:VK)(q:tD X F G (.or a b) σ H Q):Ld (tD X F G a) (tD X F G b) σ H Q:=by
 refine rA (k:=λs=>BT.kOr (aL F G b s)) (λs h=>by simp only[aL]) q λm s h x z D v J R S r e B=>?_;obtain⟨c,rfl,e2⟩:=BA e;refine⟨c,mz r,?_⟩;cases c with
 |true=>rw[bJ rfl]at e2⊢;cases e2;exact B.here R (.bl _)|false=>rw[bK (by decide)]at e2⊢;exact⟨m,s,h,z,D,R,S,e2,B⟩
def wK(σ:L2.St)(H:Hp)(Q:Bool->Hp->Prop)(q:tDT X F G (.and a b) σ H Q):Lb (tDT X F G a) (tDT X F G b) σ H Q:=by
 obtain⟨m,s,h,c,W,R,S,M,J⟩:=q;simp only[aL]at M;obtain⟨x,g,e1,e2⟩:=c5 M;obtain⟨d,rfl,B⟩:=wH e2;refine⟨m,s,h,d,g,R,S,e1,λZ L D O=>?_⟩;cases d with
 |true=>rw[bJ rfl]at B⊢;exact⟨L,s,g,c,W,O,S.ext D,B,λY V U R2=>J Y V (D.trans U) R2⟩|false=>rw[bK (by decide)]at B⊢;cases B;exact J Z L D O
def BD(σ:L2.St)(H:Hp)(Q:Bool->Hp->Prop)(q:tDT X F G (.or a b) σ H Q):tOr (tDT X F G a) (tDT X F G b) σ H Q:=by
 obtain⟨m,s,h,c,W,R,S,M,J⟩:=q;simp only[aL]at M;obtain⟨x,g,e1,e2⟩:=c5 M;obtain⟨d,rfl,B⟩:=BA e2;refine⟨m,s,h,d,g,R,S,e1,λZ L D O=>?_⟩;cases d with
 |true=>rw[bJ rfl]at B⊢;cases B;exact J Z L D O|false=>rw[bK (by decide)]at B⊢;exact⟨L,s,g,c,W,O,S.ext D,B,λY V U R2=>J Y V (D.trans U) R2⟩
def ER(σ:L2.St)(H:Hp)(Q:Bool->Hp->Prop)(q:tDT X F G (.not a) σ H Q):Lc (tDT X F G a) σ H Q:=by obtain⟨m,s,h,c,M,R,S,B,D⟩:=q;simp only[aL]at B;obtain⟨x,g,e1,e2⟩:=c5 B;obtain⟨d,rfl,O⟩:=wI e2;cases O;exact⟨m,s,h,d,M,R,S,e1,λV L J U=>D V L J U⟩
def ES{X:Cx}{a:aV}(σ:L2.St)(H:Hp)(Q:VK)(q:tD X F G (.not a) σ H Q):Gy (tD X F G a) σ H Q:=by refine rA (k:=λs=>BT.Em) (λs h=>by simp only[aL]) q λm s h x z D v J R S r e B=>?_;obtain⟨c,rfl,e2⟩:=wI e;cases e2;exact⟨c,mz r,B.here R (.bl _)⟩
def Ja{X:Cx}{c a b:aV}(σ:L2.St)(H:Hp)(Q:VK)(q:tD X F G (.ite c a b) σ H Q):tIf (tDT X F G c) (tD X F G a) (tD X F G b) σ H Q:=by
 refine I0 (k:=λs t h=>if t=ah then aL F G a s h else aL F G b s h) (kk:=λs=>BT.Eo (aL F G a s) (aL F G b s)) (λs h=>by simp only[aL]) (λs x h r e=>EN e) q λm s h t z D J R S e B=>?_;cases t with
 |true=>rw[bJ rfl]at e⊢;exact⟨m,s,h,z,D,R,S,e,B⟩|false=>rw[bK (by decide)]at e⊢;exact⟨m,s,h,z,D,R,S,e,B⟩
def Jb{X:Cx}{a:aV}(σ:L2.St)(H:Hp)(Q:VK)(q:tD X F G (.neg a) σ H Q):tUn (rU λi=>.int (-i)) (tD X F G a) σ H Q:=by refine rA (k:=λs=>BT.El) (λs h=>by simp only[aL]) q λm s h x z D v J R S r e B=>?_;obtain⟨c,rfl,e2⟩:=EO e;cases e2;cases r with|p r=>cases r;exact⟨c,rfl,B.here R (.int _)⟩
def tQ(σ:L2.St)(H:Hp)(Q:VK)(q:tD X F G (.chain o o' a b c) σ H Q):
 uH (rOp X.prog X.w X.K (bC o)) (rOp X.prog X.w X.K (bC o')) (tD X F G a) (tD X F G b) (tD X F G c) σ H Q:=by
 obtain⟨m,s,h,z,h',R,S,T,n⟩:=q;simp only[aL]at T;obtain⟨x,P,e1,e2⟩:=c5 T;simp only[BT.k2]at e2;obtain⟨y,L,e3,B⟩:=c5 e2;refine⟨m,s,h,x,P,R,S,e1,λv H1 m1 Y R1 r1=>?_⟩;refine⟨m1,s,P,y,L,R1,S.ext Y,e3,λu H2 m2 W R2 C=>?_⟩;unfold BT.oCh at B;cases g:aW x L with
 |none=>rw[g]at B;exact cU B
 |some d =>
  cases y with
  |p J =>
   rw[g]at B;simp only at B;have N:∀(o:BT.Cm)(i:aN)(O:aO) dd,aW i O=aa dd->∀U D,aW U O=aa D->bC o i U O=(BT.gB o dd D).map λz=>(.p (.bl z),O):=by
    intro o i O dd E U D j;unfold bC;cases U with
    |p _=>simp only[E,j]|r _=>simp only[E,j]|_=>exact cU j
   cases l:BT.gB o d J with
   |none=>rw[l]at B;exact cU B
   |some t =>
    rw[l]at B;refine⟨m2,L,x,.p J,.p (.bl t),L,R2,r1.ext W,C,by rw[N o x L d g (.p J) J rfl,l];rfl,λv3 H3 I V R3 r3=>⟨t,mz r3,?_⟩⟩;cases t with
    |false =>
     rw[bK (by decide)];cases B;exact n _ H3 I ((Y.trans W).trans V) R3 (.p (.bl _))
    |true =>
     rw[bJ rfl];obtain⟨Z,e,e5,M⟩:=c5 B;refine⟨I,s,L,Z,e,R3,((S.ext Y).ext W).ext V,e5,λv4 H4 m4 A R4 r4=>?_⟩;unfold BT.Mg at M;cases k:aW Z e with
     |none=>rw[k]at M;exact cU M
     |some f =>
      rw[k]at M;simp only at M;refine⟨m4,e,.p J,Z,z,h',R4,(C.ext V).ext A,r4,by rw[N o' (.p J) e J rfl Z f k];exact M,λv5 H5 m5 x5 R5 r5=>n v5 H5 m5 ((((Y.trans W).trans V).trans A).trans x5) R5 r5⟩
  |_=>rw[g]at B;exact cU B
def Jc{lo:aY}(y:∀σ H (Q:Option Int->Hp->Prop),(∃m s h l zs h',RH X.K m H h/\RS X.prog X.w X.K m H σ s/\aX F G lo s h=aa (zs,h')/\(aZ zs).bind BT.qO=aa l/\∀H' m',Ext m H m' H'->RH X.K m' H' h'->Q l H')->tl σ H Q)
(A:∀σ H (Q:Option Int->Hp->Prop),(∃m s h l zs h',RH X.K m H h/\RS X.prog X.w X.K m H σ s/\aX F G hi s h=aa (zs,h')/\(aZ zs).bind BT.qO=aa l/\∀H' m',Ext m H m' H'->RH X.K m' H' h'->Q l H')->th σ H Q)
(σ:L2.St)(H:Hp)(Q:VK)(q:tD X F G (.n a lo hi) σ H Q):tSl (rSl X.prog X.w X.K) (tD X F G a) tl th σ H Q:=by
 obtain⟨m,s,h,z,h',R,S,c,f⟩:=q;simp only[aL]at c;obtain⟨x,Z,e1,e2⟩:=c5 c;simp only[BT.Mj]at e2;obtain⟨W,Y,P,e⟩:=c5 e2;simp only[BT.Mi]at e;obtain⟨V,C,N,B⟩:=c5 e;unfold BT.Mh at B;cases D:aW x C with
 |none=>rw[D]at B;exact cU B
 |some d =>
  cases J:(aZ W).bind BT.qO with
  |none=>rw[D,J]at B;exact cU B
  |some l =>
   cases O:(aZ V).bind BT.qO with
   |none=>rw[D,J,O]at B;exact cU B
   |some u =>
    rw[D,J,O]at B;simp only at B;obtain⟨b,I,E⟩:=dh B;cases E;refine⟨m,s,h,x,Z,R,S,e1,λv H1 t M R1 k=>y σ H1 _ ⟨t,s,Z,l,W,Y,R1,S.ext M,P,J,λH2 r L R2=>A σ H2 _ ⟨r,s,Y,u,V,h',R2,(S.ext M).ext L,N,O,λH3 p U R3=>?_⟩⟩⟩;exact⟨p,h',x,d,b,R3,(k.ext L).ext U,D,I,λi H5 o g T j=>f i H5 o (((M.trans L).trans U).trans g) T j⟩
end
section
def wL(L:sp=spF X.prog X.w X.K (F (.f f)))(q:tD X F G (.call f as) σ H Q):vU sp [] E0 (tDs X F G as) σ H Q:=by subst L;refine lO (k:=λJ h=>F (.f f) J h) (λs h=>by simp only[aL]) q λm h D z M O U R r e B=>?_;rw[TJ];exact⟨m,D,h,z,M,R,r,e,B⟩
def ku(q:tDs X F G .nil σ H Q):Ac σ H Q:=by obtain⟨m,s,h,J,L,R,S,B,D⟩:=q;simp only[aX]at B;cases B;exact D [] H m (.refl _ _) R .nil
def BE(O:Ok X F G sc N)(W:dO sc f=ah)(hn:fQ f=ah)(Y:CEs sc N as es)(c:PA X es (tDs X F G as)):
 PE X (.Call (.Name f p) es [] pos) (tD X F G (.call f as)):=by
 have B:=iB Y;intro J s D H Q I q;have L:=q;obtain⟨m,i,h,z,n,R,S,b,d⟩:=q;simp only[aL]at b;obtain⟨g,l,e1,e2⟩:=c5 b;obtain⟨t,o,j,k,U,V,Z,M,ok⟩:=O.call _ _ _ _ e2;cases es with
 |nil =>
  cases as with
  |cons a r=>exact(oG Y).elim|nil=>exact(PE.weak (Ah ok M (dU O W) U V Z .nil nM (gM hn).1) (fun D H Q z=>ku (wL (X:=X) rfl z))) J s D H Q I L
 |cons e es =>
  simp only[c7,RX]at B;exact(PE.weak (DW ok M (dU O W) U V Z .nil nM c (gM hn).1 (cY B.1) (dM B.2)) (fun D H Q z=>wL rfl z)) J s D H Q I L
def oJ{id:String}(j:PlainAttrs T)(D:Slot T name id)
(U:typeOf (.builtin id)=pure (.type "method_descriptor"))(l:MtR X id (rMe X.prog X.w X.K me))(t:dX oe=ah)(n:(apos.endLine==cpos.line)=ah)(W:es.length<20)(k:PE X oe (tD X F G o))(p:CEs sc N as es)(ha:PA X es (tDs X F G as))
(ty:∀(m:List az)(h h2:aO)(H:Hp)(v:V) (x:aN) ws r,RH X.K m H h->RW X.prog X.w X.K m H v x->BT.kO x h=ah->aP me x ws h2=aa r->(∃σ s,RS X.prog X.w X.K m H σ s/\∃h0,aL F G o s h0=aa (x,h))->tyV X.K T v H):
 PE X (.Call (.Attribute oe name apos) es [] cpos) (tD X F G (.me me o as)):=by
 have B:=iB p;have O:∀σ H Q,tD X F G (.me me o as) σ H Q->tBM X.K T (rMe X.prog X.w X.K me) (tD X F G o) (tDs X F G as) σ H Q:=by intro σ H Q q;obtain⟨m,s,h,z,g,R,S,b,Z⟩:=q;simp only[aL]at b;obtain⟨x,f,e1,e2⟩:=c5 b;obtain⟨ok,e2⟩:=wG e2;obtain⟨ws,h2,e3,u⟩:=c5 e2;refine⟨m,s,h,x,f,R,S,e1,λv c M J Y L=>⟨ty M f h2 c v x ws _ Y L ok u ⟨σ,s,S.ext J,h,e1⟩,M,s,f,ws,h2,Y,S.ext J,e3,λvs H2 P i R2 E=>?_⟩⟩;exact⟨P,h2,x,ws,z,g,R2,L.ext i,E,u,λA H5 I y R5 C=>Z A H5 I ((J.trans i).trans y) R5 C⟩
 cases es with
 |nil =>
  cases as with
  |cons a r=>exact(oG p).elim
  |nil =>
   refine PE.weak (HN j D U l k (lN t) n) fun σ H Q q=>?_;obtain⟨m,s,h,z,g,R,S,b,Z⟩:=O σ H Q q;exact⟨m,s,h,z,g,R,S,b,λv c M J Y L=>⟨(Z v c M J Y L).1,ku (Z v c M J Y L).2⟩⟩
 |cons e es =>
  simp only[c7,RX] at B;refine PE.weak (An j D U l k ha (lN t) ?_ n (cY B.1) (dM B.2)) O;rw[jT (es:=e::es) (by simp only[c7,RX];exact B)];have d:decide ((e::es).length+([]:List Wv).length+(if ([]:List Wv).isEmpty then 0 else 1) < 30)=ah:=bO (by
   simp only[Sh,SW,List.isEmpty_nil,if_true] at W ⊢;lia)
  rw[d];rfl
def iS(q:tD X F G (.bi b mu as) σ H Q):tCB (rBi X.prog X.w X.K b mu) (tDs X F G as) σ H Q:=by refine lO (k:=λJ h=>BT.kBi b mu J h) (λs h=>by simp only[aL]) q λm h D z L M O R r e B=>?_;exact⟨m,h,D,z,L,R,r,e,B⟩
def Jd(O:Ok X F G sc N)(U:f7 N=ah)(V:GN b mu x=ah)(B:dO sc x=ah)(q:c7 (e::es)=ah)(D:PA X (e::es) (tDs X F G as)):
 PE X (.Call (.Name x p) (e::es) [] pos) (tD X F G (.bi b mu as)):=by
 simp only[c7,RX]at q;have M:A8 b mu=aa x:=bQ V;have J:=O.blt;cases b<;>cases mu<;>first|exact cU M|(change aa _=aa _ at M)
 all_goals (cases M)
 exact PE.weak (fB IV (dU O B) (J _ (by decide)) PySem.boot_len D (by decide) (by decide) (cY q.1) (dM q.2)) (fun L H Q z=>iS z);exact PE.weak (j8 IW (dU O B) (J _ (by decide)) (by decide +kernel) D (by decide) (by decide) (cY q.1) (dM q.2)) (fun L H Q z=>iS z);exact PE.weak (j8 wD (dU O B) (J _ (by decide)) (by decide +kernel) D (by decide) (by decide) (cY q.1) (dM q.2)) (fun L H Q z=>iS z);exact PE.weak (j8 wD (dU O B) (J _ (by decide)) (by decide +kernel) D (by decide) (by decide) (cY q.1) (dM q.2)) (fun L H Q z=>iS z);exact PE.weak (j8 Bs (dU O B) (J _ (by decide)) (by decide +kernel) D (by decide) (by decide) (cY q.1) (dM q.2)) (fun L H Q z=>iS z);exact PE.weak (fB (IX (O.calm U)) (dU O B) (J _ (by decide +kernel)) (by decide +kernel) D (by decide) (by decide) (cY q.1) (dM q.2)) (fun L H Q z=>iS z);exact PE.weak (fB qu (dU O B) (J _ (by decide +kernel)) (by decide +kernel) D (by decide) (by decide) (cY q.1) (dM q.2)) (fun L H Q z=>iS z);exact PE.weak (fB qu (dU O B) (J _ (by decide +kernel)) (by decide +kernel) D (by decide) (by decide) (cY q.1) (dM q.2)) (fun L H Q z=>iS z);exact PE.weak (fB (EG (O.calm U)) (dU O B) (J _ (by decide +kernel)) (by decide +kernel) D (by decide) (by decide) (cY q.1) (dM q.2)) (fun L H Q z=>iS z);exact PE.weak (fB (EI (O.calm U)) (dU O B) (J _ (by decide +kernel)) (by decide +kernel) D (by decide) (by decide) (cY q.1) (dM q.2)) (fun L H Q z=>iS z)
def yS(L:tF b=aa (c,f)):eW X (.builtin "isinstance") (λvs H Q=>∃v,vs=[v,.ty c]/\rBi X.prog X.w X.K b ai [v] H Q):=by
 intro Y s W H vs a Q I D h;obtain⟨v,rfl,m,h,Z,z,i,R,B,e,M⟩:=h;obtain⟨u,g,rfl,U,J⟩:=D.two;cases J;obtain⟨j,d,e1,e2,⟨_,rfl,rfl⟩|⟨_,q,_⟩⟩:=gX e
 ·have V:=gc R B e1;cases V with
  |cons r t =>
   cases t;rw[Bu L]at e2;cases e2;exact EJ I r U (Bv L X.K _) λO=>⟨.bl _,H,I.tok O,rfl,M.here R (.bl _)⟩
 exact aS q
def BH(O:Ok X F G sc N)(L:tF b=aa (c,f))(l:dO sc "isinstance"=ah)(B:dO sc (Sn c)=ah)(D:noStar e=ah)(o:PE X e (tD X F G a)):
 PE X (.Call (.Name "isinstance" p) [e,.Name (Sn c) p2] [] pos) (tD X F G (.bi b ai (.cons a .nil))):=by
 have J:=O.blt;have n:PE X (.Name (Sn c) p2) (tC (.ty c)):=by
  cases b<;>simp only[tF]at L<;>try contradiction
  all_goals (cases L)
  exact m8 (dU O B) (J _ (by decide)) (u:=.type "int") (by decide +kernel) rfl (by decide) (by decide);exact m8 (dU O B) (J _ (by decide)) (u:=.type "bool") (by decide +kernel) rfl (by decide) (by decide);exact m8 (dU O B) (J _ (by decide)) (u:=.type "str") (by decide +kernel) rfl (by decide) (by decide);exact m8 (dU O B) (J _ (by decide)) (u:=.type "tuple") (by decide +kernel) rfl (by decide) (by decide)
 refine PE.weak (fB (yS L) (dU O l) (J _ (by decide)) (by decide +kernel) (j7 o (j7 n qJ) (cY D)) (by decide) (by decide) (cY D) rfl) fun C H Q q=>?_;obtain⟨m,s,h,z,r,R,S,U,W⟩:=q;simp only[aL,aX]at U;obtain⟨E,M,e1,e2⟩:=c5 U;obtain⟨x,I,t,V⟩:=c5 e1;simp only[BT.lF,BT.d9,BT.jn]at V;cases V;refine⟨m,s,h,x,M,R,S,t,λv K k Z y i=>?_⟩;exact⟨v,rfl,k,M,[x],z,r,y,.cons i .nil,e2,λd A j Y w g=>W d A j (Z.trans Y) w g⟩
def Je(σ:L2.St)(H:Hp)(Q:VK)(q:tD X F G (.aC as) σ H Q):LF (tDs X F G as) σ H Q:=by
 refine lO (k:=λJ h=>BT.Ik J h) (λs h=>by simp only[aL]) q λm h D z U M W R r e B=>?_;unfold BT.Ik at e;cases g:aZ D with
 |none=>rw[g]at e;exact cU e
 |some V =>
  rw[g]at e;simp only at e;obtain⟨c,e⟩:=dw e;cases e;have rd:=r.pure g;have:=f9;have O:=rd.length;exact⟨by lia,λp L=>lI R L rd B⟩
def Jf(σ:L2.St)(H:Hp)(Q:VK)(q:tD X F G (.aB mu as) σ H Q):HE (tDs X F G as) σ H Q:=by
 refine lO (k:=λJ h=>BT.Il mu J h) (λs h=>by simp only[aL]) q λm h D z M V Y R r e B=>?_;unfold BT.Il at e;cases g:aZ D with
 |none=>rw[g]at e;exact cU e
 |some U =>
  rw[g]at e;simp only at e;split at e
  ·rename_i c;have rd:=r.pure g;have:=f9;have W:=rd.length;have O:BT.new mu U h=(z,M):=Sa e;exact⟨by lia,λp L=>nk (mu:=mu) R L rd (by rw[O];exact B)⟩
  exact cU e
def cons_of(σ:L2.St)(H:Hp)(Q:List V->Hp->Prop)(q:tDs X F G (.cons a as) σ H Q):GB (tD X F G a) (tDs X F G as) σ H Q:=by obtain⟨m,s,h,g,c,R,S,L,O⟩:=q;simp only[aX]at L;obtain⟨x,J,e1,e2⟩:=c5 L;simp only[BT.lF]at e2;obtain⟨U,j,d,M⟩:=c5 e2;simp only[BT.jn]at M;cases M;exact⟨m,s,h,x,J,R,S,e1,λv k b D e Y=>⟨b,s,J,U,c,e,S.ext D,d,λi f Z B R2 W=>O _ f Z (D.trans B) R2 (.cons (Y.ext B) W)⟩⟩
end
section
variable{K:RQ}
theorem RFs.get:∀{vs:List (ay×V)}{fs:List (ay×aN)},RFs K m H vs fs->BT.dP f fs=aa x->∃v,vs.lookup f=aa v/\RA K m H v x
 |_,_,.nil,e=>by exact cU e
 |_,_,.cons (f:=g) r t,e=>by
  rw[BT.qp]at e
  by_cases c:f=g
  rw[bJ c]at e;cases e;subst c;exact⟨_,by simp,r⟩
  ·rw[bK c]at e;obtain⟨v,B,q⟩:=RFs.get t e;exact⟨v,by rw[Uk];rw[beq_false_of_ne c];exact B,q⟩
theorem RFs.none:∀{vs:List (ay×V)}{fs:List (ay×aN)},RFs K m H vs fs->(BT.dP f fs).isNone=ah->vs.lookup f=af
 |_,_,.nil,_=>rfl
 |_,_,.cons (f:=g) r t,e=>by
  rw[BT.qp]at e
  by_cases c:f=g
  rw[bJ c]at e;exact aS e
  ·rw[bK c]at e;rw[Uk,beq_false_of_ne c];exact RFs.none t e
theorem RFs.put(q:RA K m H v x):∀{vs:List (ay×V)}{fs:List (ay×aN)},RFs K m H vs fs->RFs K m H (L2.eS f v vs) (BT.eS f x fs)
 |_,_,.nil=>.cons q .nil
 |_,_,.cons (f:=g) r t=>by
  rw[L2.eS,BT.yE]
  by_cases c:f=g
  rw[bJ c,bJ c.symm];subst c;exact .cons q t;rw[bK c,bK (Td c)];exact .cons r (RFs.put q t)
theorem RFs.length:∀{vs:List (ay×V)}{fs:List (ay×aN)},RFs K m H vs fs->vs.length=fs.length
 |_,_,.nil=>rfl
 |_,_,.cons _ t=>by rw[Sh,Sh,RFs.length t]
end
section
def ET(e:BT.Ep f x h=aa r):∃n c fs w,x=.o n/\bw h n=aa (c,fs)/\BT.dP f fs=aa w/\r=(w,h):=by
 cases x with
 |o n =>
  rw[BT.Ip]at e;cases g:bw h n with
  |none=>rw[g]at e;exact cU e
  |some q =>
   obtain⟨c,fs⟩:=q;rw[g]at e;obtain⟨w,e1,e2⟩:=dh e;exact⟨n,c,fs,w,rfl,g,e1,e2.symm⟩
 |_=>exact cU e
def EU{sc:TV}{N:List ay}(M:dX x=ah)(L:attrName f=ah)(O:PE X x (tD X F G a)):PE X (.Attribute x f p) (tD X F G (.i a f)):=by
 refine PE.weak (HC O (lN M)) fun b H Q q=>?_;refine GR (k:=BT.Ep f) (λs h=>by simp only[aL]) q λm h x z d v Z R r e D=>?_;obtain⟨n,c,fs,w,rfl,e1,e2,W⟩:=ET e;cases W;cases r with
 |o hn =>
  obtain⟨C,Y,J,V,B,U⟩:=R.tL _ _ _ _ hn e1;obtain⟨u,l,ra⟩:=U.get e2;exact⟨_,C,Y,J,u,rfl,V,B.cls,B.no f L,l,D u Z m (.refl _ _) R ra.rw⟩
def mC(O:dX o=ah)(q:c7 args=ah)(D:args.length<20)(L:(apos.endLine==pos.line)=ah):
 eval (.Call (.Attribute o m apos) args [] pos) env=(do
  let ov ←eval o env
  X3 apos.atName
  let (f,first) ←V6 [ov] (X4 ov m (do return (←importBound o env).getD ah))
  callWith pos f first (Vb pos (SM args env)) (XQ pos (V5 [] env))):=by
 have M:methodCallForm (args.length+([]:List Wv).length) (Vb pos (SM args env)) (XQ pos (V5 [] env))=ah:=by
  unfold methodCallForm;have B:decide (args.length+([]:List Wv).length+(if (XQ pos (V5 [] env)).isEmpty then 0 else 1) < 30)=ah:=bO (by
   show args.length+0+0 < 30;lia)
  rw[B,jT q];rfl
 rw[arm_eval_Call,lN O];unfold methodCall;rw[M];have J:methodCallPos ah o env apos pos=pure pos:=by unfold methodCallPos;rw[L];rfl
 rw[J];rfl
def BI(e:BT.AN F m ea x h=aa r):
 ∃n c fs ws g,x=.o n/\bw h n=aa (c,fs)/\(BT.dP m fs).isNone=ah/\ea h=aa (ws,g)/\F (.m c m) (.o n::ws) g=aa r:=by
 cases x with
 |o n =>
  rw[BT.Er]at e;cases g:bw h n with
  |none=>rw[g]at e;exact cU e
  |some q =>
   obtain⟨c,fs⟩:=q;rw[g]at e;simp only at e;split at e
   ·rename_i D;obtain⟨ws,B,e1,e2⟩:=c5 e;exact⟨n,c,fs,ws,B,rfl,g,D,e1,e2⟩
   exact cU e
 |_=>exact cU e
def BJ(O:Ok X F G sc N)(hb:dX oe=ah)(T:(apos.endLine==cpos.line)=ah)(D:es.length<20)(P:PE X oe (tD X F G o))(hc:CEs sc N as es)(ha:PA X es (tDs X F G as)):
 PE X (.Call (.Attribute oe m apos) es [] cpos) (tD X F G (.aF o m as)):=by
 have J:=iB hc;intro u s Y H Q I q;obtain⟨m0,E,h,z,p,R,S,U,Z⟩:=q;simp only[aL]at U;obtain⟨x,h1,e1,e2⟩:=c5 U;obtain⟨n,c,fs,A,g,rfl,e3,e4,e5,e6⟩:=BI e2;obtain⟨C,ga,fd,ps,k,l,hM,hB,hR,ok⟩:=O.aF _ _ _ _ _ e6;have L:Ae C m (spF X.prog X.w X.K (F (.m c m))) [] E0 (tD X F G o) (tDs X F G as) Y H Q:=by
  refine⟨m0,E,h,.o n,h1,R,S,e1,λv H1 j M W b=>?_⟩;cases b with
  |@o a _ hn =>
   obtain⟨C',t,vs,i,f,d⟩:=W.tL _ _ _ _ hn e3;cases f.cn.inj l.cn;refine⟨a,t,vs,rfl,i,d.none e4,j,E,h1,A,g,W,S.ext M,e5,λus H2 m2 y R2 r2=>?_⟩;show spF X.prog X.w X.K (F (.m c m)) (V.ref a::(us++[])) H2 Q E0;rw[TJ];exact⟨m2,.o n::A,g,z,p,R2,.cons (.o (y.ix hn)) r2,e6,λv5 H5 m5 x5 R5 r5=>Z v5 H5 m5 ((M.trans y).trans x5) R5 r5⟩
 cases es with
 |nil =>
  cases as with
  |cons a r=>exact(oG hc).elim
  |nil =>
   refine Ai P l.cls hM ok hR hB .nil nM (mC hb J D T) u s Y H Q I ?_;obtain⟨m,s,h,z,p,R,S,U,Z⟩:=L;refine⟨m,s,h,z,p,R,S,U,λv H1 j M W b=>?_⟩;obtain⟨a,t,fs,i,f,d,q4⟩:=Z v H1 j M W b;exact⟨a,t,fs,i,f,d,ku q4⟩
 |cons e es =>
  have B:=J;simp only[c7,RX]at B;exact DX P l.cls hM ok hR hB .nil nM ha (cY B.1) (dM B.2) (mC hb J D T) u s Y H Q I L
def BK(O:Ok X F G sc N)(u:dO sc c=ah)(hn:fQ c=ah)(A:CEs sc N as es)(ha:PA X es (tDs X F G as)):
 PE X (.Call (.Name c p) es [] pos) (tD X F G (.make c as)):=by
 have J:=iB A;intro i s b H Q I q;obtain⟨m0,s',h,z,h',R,S,ee,zr⟩:=q;simp only[aL]at ee;obtain⟨t,L,e1,e2⟩:=c5 ee;rw[BT.AO]at e2;obtain⟨y,h2,e3,Z⟩:=c5 e2;have g:y=.p .aD/\(z,h')=(.o L.length,h2):=by
  cases y with
  |p d=>cases d<;>simp[BT.wu]at Z;exact⟨rfl,by rw[Z.1,Z.2]⟩|_=>exact cU Z
 obtain⟨rfl,g⟩:=g;cases g;obtain⟨C,ga,fd,ps,k,hC,Y,P,T,E,ok⟩:=O.mkc _ _ _ _ e3;have W:Af C (spF X.prog X.w X.K (F (.m c "__init__"))) [] E0 (tDs X F G as) b H Q:=by
  refine⟨m0,s',h,t,L,R,S,e1,λus M D x1 R1 r1 x B nx V ne=>?_⟩;rw[TJ];have l:Ext D M D (upd M B (.own x)):=ko V;have Ra:RH X.K D (upd M B (.own x)) L:=R1.new V;have U:upd M B (.own x) x=af:=by rw[dB (Td ne)];exact nx
  have j:Ext D (upd M B (.own x)) (D++[x]) (upd (upd M B (.own x)) x (.ins C B [])):=jc U;have Rb:RH X.K (D++[x]) (upd (upd M B (.own x)) x (.ins C B [])) (L++[.o c []]):=Ra.IK U ⟨C,B,[],eN,hC,.nil⟩;have ix:(D++[x])[L.length]?=aa x:=by rw[←R1.len];simp
  refine⟨D++[x],.o L.length::t,L++[.o c []],.p .aD,h',Rb,.cons (.o ix) (r1.ext (l.trans j)),e3,λv H2 m2 n R2 f=>?_⟩;cases f with
  |p f =>
   cases f;exact⟨rfl,zr _ H2 m2 (((x1.trans l).trans j).trans n) R2 (.o (n.ix ix))⟩
 cases es with
 |nil =>
  cases as with
  |cons a r=>exact(oG A).elim
  |nil =>
   refine Aj P ok E (dU O u) Y T .nil nM (gM hn).1 i s b H Q I ?_;exact ku W
 |cons e es =>
  simp only[c7,RX]at J;exact DY P ok E (dU O u) Y T .nil nM ha (gM hn).1 (cY J.1) (dM J.2) i s b H Q I W
def Jg(o:bA):TIp:=λx y H Q=>∃i j z,x=.int i/\y=.int j/\BT.nO o (.int i) (.int j)=aa (.int z)/\Q (.int z) H
noncomputable def BN:bA->VN->Bool
 |.add,.Add=>ah|.sub,.Sub=>ah|.mul,.Mult=>ah|_,_=>ai
def wM(h:BN o op=ah):PIp X op (Jg o):=by
 rintro zt s σ H x y u v Q I rx ry ⟨i,j,z,rfl,rfl,e,q⟩
 obtain⟨t,rfl⟩:=(show ∃t,u=Vs i t from rx);obtain⟨B,rfl⟩:=(show ∃B,v=Vs j B from ry);cases o<;>cases op<;>cases h;cases e;exact PyProof.Rows.iadd_int ⟨.int (i+j),H,I.tok _,⟨_,rfl⟩,q⟩;cases e;exact PyProof.Rows.isub_int ⟨.int (i-j),H,I.tok _,⟨_,rfl⟩,q⟩
 ·rw[BT.sR]at e;obtain⟨c,e⟩:=dw e;cases e;have D:DP i j:=by
   rcases UK _ _ ▸ c with c|c
   exact .inl (q8 c);exact .inr (q8 c)
  exact PyProof.Rows.imul_int ⟨.int (i*j),H,I.tok _,⟨_,rfl⟩,q⟩ D.ok
def wN(h:BT.nO o d e=aa z):∃i j k,d=.int i/\e=.int j/\z=.int k:=by
 cases d with
 |int i =>
  cases e with
  |int j =>
   refine⟨i,j,?_⟩;cases o with
   |add=>exact⟨_,rfl,rfl,(Sa h).symm⟩|sub=>exact⟨_,rfl,rfl,(Sa h).symm⟩
   |mul =>
    rw[BT.sR]at h;split at h;exact⟨_,rfl,rfl,(Sa h).symm⟩;exact cU h
   |_=>exact cU h
  |_=>cases o<;>exact cU h
 |_=>cases o<;>exact cU h
end
section
variable{K:RQ}
end
theorem mD(r:dg vs us):∀l:List Nat,dg (l.filterMap λi=>vs[i]?) (l.filterMap λi=>us[i]?)
 |[]=>.nil
 |i::l=>by
  rw[SC,SC];cases g:vs[i]? with
  |none =>
   have:us[i]?=af:=by have h:=r.length;rw[XC]at g⊢;lia
   rw[this];exact mD r l
  |some d =>
   obtain⟨v,e,q⟩:=r.get g;rw[e];exact .cons q (mD r l)
noncomputable def tR(k:Int)(xs:List V):List V:=(VY (SR af af (aa k) xs.length).1 (SR af af (aa k) xs.length).2.1 (SR af af (aa k) xs.length).2.2).filterMap λi=>xs[i]?
section
def Jh(l:k≠0)(r:PE X e te)(j:PE X se (tC (.int k))):
 PE X (.Subscript e (.Slice af af (aa se) p2) pos) (fun σ H Q=>te σ H λx H1=>∃a xs,x=.ref a/\SqL X.K H1 a xs/\∀p,H1 p=af->Q (.ref p) (upd H1 p (.aB (tR k xs)))):=by
 intro J s σ H Q I h;refine Subscript_ (thn (r J s σ H _ I h) λv Y M=>?_);obtain⟨x,H1,C,c,a,xs,ex,g,q⟩:=M;subst ex;cases c;refine wpAny_Slice ?_;rw[YG];refine au (au ?_);rw[evalPart_some];refine thn (j J Y σ H1 (λv F=>v=.int k/\F=H1) C ⟨rfl,rfl⟩) λG B M=>?_;obtain⟨y,E,u,Z,f,m⟩:=M;subst f m;obtain⟨t,rfl⟩:=Z;have O:Inv X J σ E {B with heap:=B.heap.push {cls:=.type "slice",data:=.fields #[.none,.none,.int k t]} }:=u.aH (t':=B.toks) λb ob q=>RT _ q;obtain⟨D,U,p,N⟩:=O.list g;have n:av (Su X.prog X.w) X.A (Xl (.ref a) (.ref B.heap.objs.size)) (EP X J σ Q) X.xe {B with heap:=B.heap.push {cls:=.type "slice",data:=.fields #[.none,.none,.int k t]} }:=by
  have L:=U.length;refine Yt p.isList (W6 ..) .none .none (.int k t) (by intro z;exact l (Sa z)) ?_ (by rw[RZ];lia);have W:slicePick D.toArray af af (aa k)=((VY (SR af af (aa k) xs.length).1 (SR af af (aa k) xs.length).2.1 (SR af af (aa k) xs.length).2.2).filterMap λi=>D[i]?).toArray:=by unfold slicePick;rw[RZ,←L];simp
  rw[W];have V:=mD U (VY (SR af af (aa k) xs.length).1 (SR af af (aa k) xs.length).2.1 (SR af af (aa k) xs.length).2.2);have d:(tR k xs).length<=xs.length:=by have:=slicePick_size_le D.toArray af af (aa k);rw[W,RZ,RZ]at this;have e:=V.length;unfold tR;lia
  refine⟨.ref (B.heap.push {cls:=.type "slice",data:=.fields #[.none,.none,.int k t]}).objs.size,_,O.laid (t':=B.toks) (o:=.aB (tR k xs)) (λb ob q=>RT _ q) (R0 _) ?_,rfl,q _ (O.aJ.fresh (R0 _))⟩;exact⟨by lia,_,0,V,R8 _ rfl⟩
 show av (Su X.prog X.w) X.A (YC e (.Slice af af (aa se) p2) (.ref a) (.ref B.heap.objs.size)) (EP X J σ Q) X.xe {B with heap:=B.heap.push {cls:=.type "slice",data:=.fields #[.none,.none,.int k t]} };exact YB (ops:=[.ref a,.ref B.heap.objs.size]) p.isList.typeIs slot_list_getitem.lookup n (by with_unfolding_all rfl)
def wO(h:(Ex e).bind cInt=aa k):∃a b,e=.Constant (.int k) a b:=by
 cases e with
 |Constant c a b =>
  cases c with
  |int j=>cases h;exact⟨a,b,rfl⟩|_=>exact bL (show(af:Option Int)=aa _ from h) (λz=>nomatch z)
 |_=>exact bL (show(af:Option Int)=aa _ from h) (λz=>nomatch z)
def BO(h:qV k e=ah):(∃a b,e=.Constant (.int k) a b/\0<k)\/∃j a b p,e=.UnaryOp .USub (.Constant (.int j) a b) p/\k=-j/\0<j:=by
 unfold qV at h;rw[UK,RX,RX,bM,bM]at h;rcases h with⟨q,B⟩|⟨q,B⟩
 ·obtain⟨a,b,e1⟩:=wO (bQ q);exact .inl ⟨a,b,e1,B⟩
 ·have q:=bQ q;cases e with
  |UnaryOp o e p =>
   by_cases c:o=.USub
   ·subst c;have D:(Ex e).bind cInt=aa (-k):=q;obtain⟨a,b,rfl⟩:=wO D;exact .inr ⟨-k,a,b,p,rfl,by lia,by lia⟩
   ·have:unE (.UnaryOp o e p)=af:=bK c;rw[this]at q;exact cU q
  |_=>exact bL (show(af:Option Int)=aa _ from q) (λz=>nomatch z)
def EV(Y:qV k se=ah)(Z:PE X x (tD X F G a)):PE X (.Subscript x (.Slice af af (aa se) p2) p) (tD X F G (.stp mu k a)):=by
 have D:k≠0/\PE X se (tC (.int k)):=by
  rcases BO Y with⟨a,b,rfl,h⟩|⟨j,a,b,p,rfl,rfl,h⟩
  exact⟨by lia,uE⟩;exact⟨by lia,PE.weak (GA zU uE) fun J H Q q=>⟨_,rfl,q⟩⟩
 refine PE.weak (Jh D.1 Z D.2) fun J H Q q=>?_;refine GR (k:=BT.Im mu k) (λs h=>by simp only[aL]) q λm h x z c v i R r e L=>?_;unfold BT.Im at e;cases g:aW x h with
 |none=>rw[g]at e;exact cU e
 |some d =>
  rw[g]at e;cases d with
  |aB M =>
   simp only at e;have U:=dZ R r g;obtain⟨a,O,rfl,W,B⟩:=U.aB;have f:BT.new mu (BT.mS k M) h=(z,c):=Sa e;refine⟨a,O,rfl,W.sq,λp V=>nk (mu:=mu) R V ?_ (by rw[f];exact L)⟩;unfold tR BT.mS;rw[B.length];exact RDs.pick B _
  |_=>exact cU e
def BP{X:Cx}{b:BT.Bi}{g:Int->Int->Int}(Z:∀ds d,BT.biD b ds=aa d->∃i j,ds=[.int i,.int j]/\d=.int (g i j)){id:String}(Y:eW X (.builtin id) (λxs H Q=>∃i j,xs=[.int i,.int j]/\Q (.int (g i j)) H)):eW X (.builtin id) (rBi X.prog X.w X.K b ai):=by
 intro L s J H c O Q I D h;obtain⟨m,h,a,z,f,R,B,e,M⟩:=h;obtain⟨ds,d,e1,e2,⟨_,rfl,rfl⟩|⟨_,q,_⟩⟩:=gX e
 ·have V:=gc R B e1;obtain⟨i,j,rfl,rfl⟩:=Z _ _ e2;cases V with
  |cons r t =>
   cases t with
   |cons W U =>
    cases U;cases r.int;cases W.int;exact Y L s J H _ O Q I D ⟨i,j,rfl,M.here R (.int _)⟩
 exact aS q
def EW{X:Cx}{sc:TV}{N:List ay}(O:Ok X F G sc N)(J:f7 N=ah){b:BT.Bi}{as:aY}{x:ay}{e:Sd}{es:List Sd}{p pos:Pos}(B:A9 b x=ah)(L:dO sc x=ah)(q:c7 (e::es)=ah)(M:PA X (e::es) (tDs X F G as)):
 PE X (.Call (.Name x p) (e::es) [] pos) (tD X F G (.bi b ai as)):=by
 simp only[c7,RX]at q;have U:=O.blt;cases b<;>first|exact aS B|(replace B:=bQ B)
 ·subst B;refine PE.weak (fB (BP (b:=.min2) (g:=λi j=>if j<i then j else i) (λD d h=>?_) (yk (O.calm J))) (dU O L) (U _ (by decide +kernel)) (by decide +kernel) M (by decide) (by decide) (cY q.1) (dM q.2)) (fun V H Q z=>iS z)
  match D,h with
  |[.int i,.int j],h=>exact⟨i,j,rfl,(Sa h).symm⟩
 ·subst B;refine PE.weak (fB (BP (b:=.max2) (g:=λi j=>if j>i then j else i) (λD d h=>?_) (yj (O.calm J))) (dU O L) (U _ (by decide +kernel)) (by decide +kernel) M (by decide) (by decide) (cY q.1) (dM q.2)) (fun V H Q z=>iS z)
  match D,h with
  |[.int i,.int j],h=>exact⟨i,j,rfl,(Sa h).symm⟩
end
section
variable{K:RQ}
def M0(H H':Hp):Prop:=(∀a q,Rd H a (.aC q)->Rd H' a (.aC q))/\∀a q,Rd H a (.aB q)->Rd H' a (.aB q)
mutual
theorem RD.tr(q:M0 H H'):∀{v:V}{d:aM},RD K m H v d->RD K m H' v d
 |_,_,.aD=>.aD|_,_,.bl b=>.bl b|_,_,.int i=>.int i|_,_,.str y h=>.str y h|_,_,.aC h r=>.aC (h.elim (λz=>.inl ⟨q.1 _ _ z.1,z.2⟩) .inr) (RDs.tr q r)|_,_,.aB h r=>.aB (h.elim (λz=>.inl ⟨q.2 _ _ z.1,z.2⟩) .inr) (RDs.tr q r)
theorem RDs.tr(q:M0 H H'):∀{vs:List V}{ds:List aM},RDs K m H vs ds->RDs K m H' vs ds
 |_,_,.nil=>.nil|_,_,.cons r t=>.cons (RD.tr q r) (RDs.tr q t)
end
end
open Classical in
noncomputable def hid(cl:List (ay×az))(H:Hp):Hp:=λb=>if ∃x,cl.lookup x=aa b then af else H b
open Classical in
noncomputable def ret(cl:List (ay×az))(q H:Hp):Hp:=λb=>if ∃x,cl.lookup x=aa b then q b else H b
section
end
def Rt(P:So)(w:SQ)(K:RQ)(mg:ay->Option aA)(base:aq)(N:List ay)(q:ay)(sc:TV)(cl:List (ay×az))(f B:az)(A:TF)(outer:List Env)(s:RV)(H:Hp):Cx where
 prog:=P
 w:=w
 K:=K
 mg:=mg
 base:=base
 A:=A.deeper (XJ q sc s.heap.objs.size f (.ref B) cl)
 N:=N
 s₀:=s
 H₀:=hid cl H
 env:=XJ q sc s.heap.objs.size f (.ref B) cl
 outer:=outer
 stack:=XJ q sc s.heap.objs.size f (.ref B) cl::outer
 ex:=[]
 calm:=ah
 fn:=λ_=>ai
 pn:=[]
 xe:=λ_ _=>False
section
end
section
open PySem.W PySem.Calls PySem.Builtin PySem.Builtin.ObjectAttr PySem.Builtin.Getset_descriptor
variable{E:aA->RV->Prop}{K:RQ}
end
section
end
section
variable{X:Cx}
def BQ(P:X.A.units+150<cLine):MtR X "list.count" (rMe X.prog X.w X.K .count):=by
 intro zt s σ H v vs v' us Q I t M h;obtain⟨m,h,x,W,z,h',R,J,L,e,o⟩:=h;cases x with
 |r n=>cases W with
  |_=>(first|exact cU e|simp[aP]at e)
 |p d =>
  rw[BT.yx]at e;cases g:aZ W with
  |none=>rw[g]at e;exact cU e
  |some ds =>
   rw[g]at e;obtain⟨b,e1,e2⟩:=dh e;cases e2;have rds:=L.pure g;cases d<;>first|exact cU e1|skip
   rename_i D;cases ds with
   |nil=>exact cU e1
   |cons B dr =>
    cases dr with
    |cons _ _=>exact cU e1
    |nil =>
     rw[BT.AF]at e1;obtain⟨c,e1⟩:=dw e1;cases e1;cases rds with
     |cons G E =>
      cases E;obtain⟨u,rfl,C⟩:=M.one;cases J with
      |p J =>
       obtain⟨a,vt,rfl,T,ra⟩:=RR.aB (.d J);cases t;obtain⟨zz,q,n,O,_,Y⟩:=rdL I T;have hl:=O.length;have S:=ra.length;have ec:q.countP (fC s.heap (pd B))=D.countP λy=>aQ y B:=by
        have U:q.map (fC s.heap (pd B))=D.map λy=>aQ y B:=by refine List.ext_getElem (by rw[Se,Se];lia) λi j Z=>?_;rw[Se]at j Z;rw[WU,WU];exact nq I ra O i j Z
        have k:∀{V:Type}(f:V->Bool)(l:List V),l.countP f=(l.map f).countP id:=λf l=>by rw[Xf];rfl
        rw[k,k (λy=>aQ y B),U]
       refine U7 F.slot_list_count ⟨_,Y,rfl⟩ F.entry_list_count (F.args_list_count_2 _ _) (SeqAt.list_countAt a q.toArray n af #[] u (fC s.heap (pd B))) ⟨Y,?_,?_⟩
       ·intro y N;exact ju P I (.d G) C ra O c y (by simpa using N)
       ·refine⟨.int ((D.countP λy=>aQ y B:Nat):Int),H,I.tok _,⟨s.toks,?_⟩,o.here R (.int _)⟩;rw[←ec]
 |_=>(first|exact cU e|simp[aP]at e)
end
structure u6(K:RQ)(J:It)(m0:List az)(H0:Hp)(ds:List aM)(C:aO->Prop):Prop where
 go:∀m H h (i:Nat),Ext m0 H0 m H->RH K m H h->C h->i<ds.length->J.go i H
 yld:∀m H h (i:Nat) x H' d,Ext m0 H0 m H->RH K m H h->C h->ds[i]?=aa d->J.yld i H x H'->Ext m H m H'/\Le H H'/\RD K m H' x d
 stop:∀m H h,Ext m0 H0 m H->RH K m H h->C h->J.stop ds.length H
def wQ(B:BT.Sr)(ws:List aN):Prop:=BT.jM ws=ah\/(B=.seq/\∃q,ws=[.r q])
def rB(ws:List aN)(ds:List aM)(h:aO):Prop:=∀q,ws=[.r q]->bg h q=aa ds
def wQ.p(h:wQ sr ws)(n:sr≠.seq):BT.jM ws=ah:=h.resolve_right λz=>n z.1
def oK(a:BT.jM ws=ah):rB ws ds h:=λq e=>by subst e;exact aS a
noncomputable def Itv(K:RQ)(a:az)(n:Nat):It :=
 ⟨λi H=>i<n/\∃q,SqL K H a q/\q.length=n,λi H x B=>B=H/\∀q,SqL K H a q->q[n-1-i]?=aa x,λi H=>i=n⟩
theorem BU(a B:az)(n:Nat):Turn P w K tg (Itv K a n) [B] B (λi h=>h.IsRevIter B a ((n:Int)-1-i)) where
 mem:=by simp
 obj:=λi h st b J=>by
  have e:b=B:=by simpa using J
  subst e;obtain⟨o,e,c,d⟩:=st;exact⟨o,e,λv z=>by rw[d]at z;cases z⟩
 keep:=λi h O st k=>st.at λo e=>k B (by simp) o e
 item:=by
  intro X U hw V y i l s j H E I M st L;subst U hw V;obtain⟨hi,A,r,hx⟩:=L;obtain⟨G,m,p,hz⟩:=I.list r;have hl:=m.length;have t:n-1-i<A.length:=by lia
  obtain⟨u,Q,F⟩:=m.get (RY t);obtain⟨g,f,R,Z,Y,W⟩:=M B (by simp);have S:((n:Int)-1-(i:Int))=(((n-1-i:Nat)):Int):=by lia
  have D:s.heap.IsRevIter B a (((n-1-i:Nat)):Int):=by rw[←S];exact st
  refine wpAny_pyNext_rev_item D p.isList (x:=u) (by simpa using Q) λO q C=>?_;have I1:Inv X l j H {s with heap:=O}:=I.turned (t':=s.toks) (λb o J e=>(C.2 b J).trans e) g f Z Y W;obtain⟨o,e,c,d⟩:=id q;refine⟨u,rfl,vQ (s:={s with heap:=O}) e c d (by decide) ⟨_,H,I1,F,⟨rfl,λys N=>by rw[I.sy N r];exact RY t⟩,?_,λb J=>(M b J).1⟩⟩;have e2:(((n-1-i:Nat)):Int)-1=(n:Int)-1-((i+1:Nat):Int):=by lia
  rw[e2]at q;exact q
 done:=by
  intro X U hw V y i l s j H E I M st L;subst U hw V;have L:i=n:=L;subst L;obtain⟨g,f,R,Z,Y,W⟩:=M B (by simp);have e1:(i:Int)-1-(i:Int)=-1:=by lia
  have D:s.heap.IsRevIter B a (-1):=by rw[←e1];exact st
  exact wpAny_pyNext_rev_end (I.ok.hd y) D λO T=>⟨rfl,I.turned (t':=s.toks) (λb o J e=>T b o J e) g f Z Y W⟩
 self:=λ_ _ _ _ _ st h=>wpAny_pyIter_revIter st h
def Inv.EX{X:Cx}{zt:List (az×ao)}{σ:L2.St}{H H':Hp}{s:RV}{h':aq}{fp:List az}{tk:Nat}(I:Inv X zt σ H s)(J:∀b∈fp,pL X zt H b)
(k:∀b o,b∉fp->s.heap.get? b=aa o->h'.get? b=aa o)(D:∀b,b<s.heap.objs.size->H' b=H b)(aJ:HOk X.prog X.w H' h'):Inv X zt σ H' {s with heap:=h',toks:=tk}:=by
 have q:∀b u,H b=aa u->H' b=aa u:=λb u e=>by rw[D b (I.aJ.lt e)];exact e
 refine I.step (g':=s.gens) (d':=s.drawn) (ch:=fp) (λb O=>?_) (λb o _ _ B e _=>k b o B e) (λb o _ _ B e _=>⟨o.slots,k b o B e⟩) (λb o _ e n=>by rw[D b (R6 e)];exact n)
  (λb o B e=>⟨o,k b o B e⟩) (λb c e=>q b _ e) (λb o u e=>q b _ e) (λb d e=>⟨#[],by rw[q b _ e];simp⟩) (λm M=>?_) aJ I.bare
 ·obtain⟨_,Y,_,W,V,U⟩:=J b O;exact⟨W,Y,V,U⟩
 ·obtain⟨o,Z,a,L,r⟩:=M;exact⟨o,Z,a,k _ o (λz=>(J _ z).2.1 rfl) L,r⟩
inductive iD(X:Cx)(F:FT)(G:ay->Option aN)(sr:BT.Sr)(sa:aY)(σ:L2.St)(H:Hp)(R:It->Hp->Prop):Prop
 |mk(m:List az)(s:bx)(h:aO)(ws:List aN)(h':aO)(ds:List aM)(RR:RH X.K m H h)(S:RS X.prog X.w X.K m H σ s)(e:aX F G sa s h=aa (ws,h'))(e2:(aR ws h').bind (BT.gH sr)=aa ds)(q:wQ sr ws)
  (p:∀H' m' J,Ext m H m' H'->RH X.K m' H' h'->u6 X.K J m' H' ds (rB ws ds)->R J H'):iD X F G sr sa σ H R
def PI.weak(h:PI X tg e t)(q:∀σ H R,t' σ H R->t σ H R):PI X tg e t':=λB s σ H R I hw=>h B s σ H R I (q _ _ _ hw)
section
def EY(h:(Rd H0 a (.aB vs)/\a∉m0)\/KL K a vs)(r:RDs K m0 H0 vs ds):u6 K (Itl K a) m0 H0 ds C:=by
 have k:∀{m H},Ext m0 H0 m H->SqL K H a vs:=λx=>LL.sq (h.elim (λq=>.inl (Rd.ext x q.1 q.2).1) .inr);refine⟨λm H D i x _ _ B=>?_,λm H D i v O d x RR _ J y=>?_,λm H _ x _ _=>⟨vs,k x,by rw[r.length];exact R0 _⟩⟩;exact⟨vs,_,k x,RY (by rw[r.length];exact B)⟩
 ·obtain⟨rfl,y⟩:=y;obtain⟨u,M,L⟩:=(r.ext x).get J;have:=y vs (k x);rw[M]at this;cases this;exact⟨.refl _ _,λ_ _ e=>e,L⟩
def Ji(h:(Rd H0 a (.aC vs)/\a∉m0)\/KT K a vs)(r:RDs K m0 H0 vs ds):u6 K (Itt K a) m0 H0 ds C:=by
 have k:∀{m H},Ext m0 H0 m H->SqT K H a vs:=λx=>h.elim (λq=>.inl (Rd.ext x q.1 q.2).1) λ⟨o,its,n,q,_⟩=>.inr ⟨o,its,n,q⟩;refine⟨λm H D i x _ _ B=>?_,λm H D i v O d x RR _ J y=>?_,λm H _ x _ _=>⟨vs,k x,by rw[r.length];exact R0 _⟩⟩;exact⟨vs,_,k x,RY (by rw[r.length];exact B)⟩
 ·obtain⟨rfl,y⟩:=y;obtain⟨u,M,L⟩:=(r.ext x).get J;have:=y vs (k x);rw[M]at this;cases this;exact⟨.refl _ _,λ_ _ e=>e,L⟩
def Jj(h:(Rd H0 a (.aB vs)/\a∉m0)\/KL K a vs)(r:RDs K m0 H0 vs ds):u6 K (Itv K a ds.length) m0 H0 ds.reverse C:=by
 have k:∀{m H},Ext m0 H0 m H->SqL K H a vs:=λx=>LL.sq (h.elim (λq=>.inl (Rd.ext x q.1 q.2).1) .inr);refine⟨λm H L i x _ _ B=>?_,λm H L i v U d x RR _ J y=>?_,λm H _ x _ _=>by show ds.reverse.length=ds.length;simp⟩;exact⟨by simpa using B,vs,k x,r.length⟩
 ·obtain⟨rfl,y⟩:=y;have B:i<ds.length:=by have:=getD_some J;simpa using this
  have D:ds[ds.length-1-i]?=aa d:=by rw[List.getElem?_reverse B]at J;exact J
  obtain⟨u,O,M⟩:=(r.ext x).get D;have:=y vs (k x);rw[O]at this;cases this;exact⟨.refl _ _,λ_ _ e=>e,M⟩
def BV(lo:Int)(n:Nat):u6 K (Itr lo n) m0 H0 (bH lo n) C:=by
 have D:(bH lo n).length=n:=by simp[bH]
 refine⟨λm H J i x _ _ q=>by rw[D]at q;exact q,λm H J i v L d x RR _ B y=>?_,λm H _ x _ _=>by rw[D];exact R0 n⟩;obtain⟨rfl,rfl⟩:=y;have:d=.int (lo+i):=by
  have q:i<n:=by have:=getD_some B;rw[D]at this;exact this
  simp only[bH,Sv]at B;rw[Vw q]at B;simpa using B.symm
 subst this;exact⟨.refl _ _,λ_ _ e=>e,.int _⟩
def wR:∀{ws:List aN},BT.jM ws=ah->∃ds:List aM,ws=ds.map aN.p:=by
 intro ws
 induction ws with
 |nil=>exact λ_=>⟨[],rfl⟩
 |cons w ws q =>
  intro h;cases w with
  |p d =>
   obtain⟨ds,rfl⟩:=q h;exact⟨d::ds,rfl⟩
  |_=>exact aS h
def BW(h:aO)(ds:List aM):aR (ds.map aN.p) h=aa ds:=by
 induction ds with
 |nil=>rfl
 |cons d ds q =>
  show(aR (ds.map aN.p) h).map (d :: ·)=_;rw[q];rfl
def BY(B:sr=.seq\/sr=.rev\/sr=.rng1)(e:(aR ws h).bind (BT.gH sr)=aa ds)(D:BT.jM ws=ah):∃d,ws=[.p d]/\BT.gH sr [d]=aa ds:=by
 obtain⟨q,rfl⟩:=wR D;rw[BW,SH]at e;cases q with
 |nil=>rcases B with rfl|rfl|rfl<;>exact cU e
 |cons d q =>
  cases q with
  |nil=>exact⟨d,rfl,e⟩
  |cons J q=>rcases B with rfl|rfl|rfl<;>cases d<;>exact cU e
def rC(e:aX F G (.cons a .nil) s h=aa (ws,h')):∃w,ws=[w]/\aL F G a s h=aa (w,h'):=by simp only[aX]at e;obtain⟨w,g,e1,e2⟩:=c5 e;simp only[BT.lF,BT.d9,BT.jn]at e2;cases e2;exact⟨w,rfl,e1⟩
def EZ(J:m0[q]?=aa a):u6 K (Itl K a) m0 H0 ds (rB [.r q] ds):=by
 have k:∀{m H h},Ext m0 H0 m H->RH K m H h->rB [.r q] ds h->∃B,SqL K H a B/\RDs K m H B ds:=λ{m H h} x RR c=>by
  obtain⟨e,rfl,_⟩:=x.pre;have e1:(m0++e)[q]?=aa a:=by rw[RU (List.getElem?_eq_some_iff.mp J).1];exact J
  obtain⟨B,Y,W⟩:=RR.cell q a ds e1 (c q rfl);exact⟨B,LL.sq (.inl (.inl Y)),W⟩
 refine⟨λm H L i x RR c M=>?_,λm H L i v Z d x RR c O y=>?_,λm H L x RR c=>?_⟩
 ·obtain⟨B,D,k2⟩:=k x RR c;exact⟨B,_,D,RY (by rw[k2.length];exact M)⟩
 ·obtain⟨B,D,k2⟩:=k x RR c;obtain⟨rfl,y⟩:=y;obtain⟨u,V,U⟩:=k2.get O;have:=y B D;rw[V]at this;cases this;exact⟨.refl _ _,λ_ _ e=>e,U⟩
 ·obtain⟨B,D,k2⟩:=k x RR c;exact⟨B,D,by rw[k2.length];exact R0 _⟩
def E1(f:PE X x (tD X F G a)):PI X tg x (iD X F G .seq (.cons a .nil)):=by
 intro Z s Y H R I q;obtain⟨m,c,h,u,O,k,RR,S,e,e2,i,b⟩:=q;rcases i with i|⟨_,q,rfl⟩
 case inr =>
  obtain⟨w,j,V⟩:=rC e;cases j;have g:bg O q=aa k:=by
   simp only[aR,aW,VU]at e2;cases g:bg O q with
   |none=>rw[g]at e2;exact cU e2|some t=>rw[g]at e2;cases e2;rfl
  refine vR f Z s Y H R I ⟨m,c,h,_,O,RR,S,V,λv U M J D B=>?_⟩;cases B with
  |@r a n hn =>
   obtain⟨L,l,y⟩:=D.cell q a k hn g;exact⟨a,rfl,⟨L,LL.sq (.inl (.inl l))⟩,b U M _ J D (EZ hn)⟩
 obtain⟨d,rfl,W⟩:=BY (.inl rfl) e2 i;obtain⟨w,j,V⟩:=rC e;cases j;rw[BT.AL]at W;cases d<;>simp only[BT.qQ]at W<;>try contradiction
 ·cases W;refine Hu f Z s Y H R I ⟨m,c,h,_,O,RR,S,V,λv U M J D B=>?_⟩;cases B with
  |p B =>
   cases B with
   |@aC a L _ h r=>exact⟨a,rfl,⟨L,h.elim (λq=>.inl q.1) λ⟨o,its,n,q,_⟩=>.inr ⟨o,its,n,q⟩⟩,b U M _ J D (Ji h r)⟩
 ·cases W;refine vR f Z s Y H R I ⟨m,c,h,_,O,RR,S,V,λv U M J D B=>?_⟩;cases B with
  |p B =>
   cases B with
   |@aB a L _ h r=>exact⟨a,rfl,⟨L,LL.sq (h.elim (λq=>.inl q.1) .inr)⟩,b U M _ J D (EY h r)⟩
def BZ(O:Ok X F G sc N)(Y:dO sc "range"=ah)(W:noStar e=ah)(D:PA X [e] (tDs X F G sa)):PI X tg (.Call (.Name "range" p) [e] [] pos) (iD X F G .rng1 sa):=by
 refine PI.weak (yg (dU O Y) (O.blt _ (by decide)) D (cY W)) fun f H R q=>?_;obtain⟨m,M,h,g,Z,k,RR,S,e,e2,D,J⟩:=q;obtain⟨d,rfl,B⟩:=BY (.inr (.inr rfl)) e2 (D.p (λz=>by cases z));refine⟨m,M,h,_,Z,RR,S,e,λi b V L a U=>?_⟩;obtain⟨j,rfl⟩:∃j:Int,d=.int j:=by
  cases d with
  |int j=>exact⟨j,rfl⟩|_=>exact bL (show(af:Option (List aM))=aa _ from B) (λz=>nomatch z)
 rw[BT.eV]at B;obtain⟨c,B⟩:=dw B;simp only[RX,bM]at c;cases B;cases U with
 |cons r t =>
  cases t;cases r with
  |p r =>
   cases r;exact⟨j,rfl,by lia,by lia,J b V _ L a (BV 0 j.toNat)⟩
def M1(e:(aR ws h).bind (BT.gH .rng2)=aa ds)(D:BT.jM ws=ah):∃i j:Int,ws=[.p (.int i),.p (.int j)]/\(-100000<=i/\i<=100000/\-100000<=j/\j<=100000)/\ds=bH i (j-i).toNat:=by
 obtain⟨q,rfl⟩:=wR D;rw[BW,SH]at e;have B:∃i j:Int,q=[.int i,.int j]:=by
  match q,e with
  |[.int i,.int j],_=>exact⟨i,j,rfl⟩
 obtain⟨i,j,rfl⟩:=B;rw[BT.mh]at e;obtain⟨c,e⟩:=dw e;simp only[RX,bM]at c;cases e;exact⟨i,j,rfl,⟨c.1.1.1,c.1.1.2,c.1.2,c.2⟩,rfl⟩
def B0(O:Ok X F G sc N)(a:dO sc "range"=ah)(Z:noStar x=ah)(B:noStar y=ah)(J:PA X [x,y] (tDs X F G sa)):PI X tg (.Call (.Name "range" p) [x,y] [] pos) (iD X F G .rng2 sa):=by
 refine PI.weak (yh (dU O a) (O.blt _ (by decide)) J (by rw[cY Z,cY B];rfl) (by rw[cY B];rfl)) fun g H R q=>?_;obtain⟨m,V,h,k,b,n,RR,S,e,e2,J,L⟩:=q;obtain⟨i,j,rfl,c,rfl⟩:=M1 e2 (J.p (λz=>by cases z));refine⟨m,V,h,_,b,RR,S,e,λl f Y M d W=>?_⟩;cases W with
 |cons r t =>
  cases t with
  |cons D U =>
   cases U;cases r with
   |p r =>
    cases r;cases D with
    |p D =>
     cases D;exact⟨i,j,rfl,⟨by lia,by lia,by lia,by lia⟩,L f Y _ M d (BV i (j-i).toNat)⟩
def E2(O:Ok X F G sc N)(A:dO sc "reversed"=ah)(g:noStar e=ah)(C:PE X e (tD X F G a)):PI X tg (.Call (.Name "reversed" p) [e] [] pos) (iD X F G .rev (.cons a .nil)):=by
 intro l s k H R I q;obtain⟨m,t,h,ws,i,ds,RR,S,e,e2,P,n⟩:=q;obtain⟨d,rfl,j⟩:=BY (.inr (.inl rfl)) e2 (P.p (λz=>by cases z));obtain⟨w,T,e4⟩:=rC e;cases T;obtain⟨J,rfl⟩:∃J:List aM,d=.aB J:=by
  cases d with
  |aB J=>exact⟨J,rfl⟩|_=>exact bL (show(af:Option (List aM))=aa _ from j) (λz=>nomatch z)
 ·cases j;refine Call_ (gU (u:=.type "reversed") I (dU O A) (O.blt _ (by decide)) (by decide +kernel) (SJ (thn (j7 C qJ (cY g) pos l s k H (λf D=>∃a M,f=[.ref a]/\∃B,Ext m H B D/\RH X.K B D i/\((Rd D a (.aB M)/\a∉B)\/KL X.K a M)/\RDs X.K B D M J) I ?_) λus s1 ⟨f,D,I1,V,q1⟩=>?_) (cY g) rfl))
  ·refine⟨m,t,h,_,i,RR,S,e4,λv D B Z c V=>?_⟩;cases V with
   |p V =>
    cases V with
    |@aB a M _ Y r=>exact⟨a,M,rfl,B,Z,c,Y,r⟩
  ·obtain⟨a,M,rfl,B,Z,c,Y,r⟩:=q1;obtain⟨u,rfl,x⟩:=vals1 V;cases x;obtain⟨z,L,nn,rv,y,ee⟩:=rdL I1 (Y.elim (λq=>.inl q.1) .inr);have Q:s1.heap.IsList a L.toArray:=⟨_,ee,rfl,_,rfl⟩;have W:=r.length;refine call_reversed_list Q ?_;have U:({s1 with heap:=s1.heap.push (revObj a ((L.toArray.size:Int)-1))}:RV).heap.IsRevIter s1.heap.objs.size a ((J.length:Int)-1-((0:Nat):Int)):=by refine⟨_,R8 _ rfl,rfl,?_⟩;show Data.fields #[.ref a,U1 ((L.toArray.size:Int)-1)]=_;rw[RZ,←y,W];simp
   refine wpAny_pyIter_revIter U ?_;refine⟨s1.heap.objs.size,[s1.heap.objs.size],_,_,D,rfl,I1.aH (t':=s1.toks) λb o e=>RT _ e,BU a _ J.length,U,λb E=>?_,n D B _ Z c (Jj Y r)⟩;have e:b=s1.heap.objs.size:=by simpa using E
   subst e;exact I1.DN (R0 _) (I1.aJ.fresh (R0 _))
end
section
variable{K:RQ}
end
section
variable{X:Cx}{F:FT}{G:ay->Option aN}
def Ru:V->V->V->Hp->(Hp->Prop)->Prop:=λo i v H Q=>∃p q k,o=.ref p/\i=kV k/\H p=aa (.dK q)/\q.length<aj/\Q (upd H p (.dK (putK q k v)))
end
section
variable{E:aA->RV->Prop}
def tS(L:av (Su prog w) A.in1 (collect v) (λvs B=>vs.length<=aj/\av (Su prog w) A.in1.in1 (Builtin.«list.sort» { pos:=[.ref B.heap.objs.size] }) (λfin s2=>∃ u,fin=.done (.ret u)/\Q (.ref B.heap.objs.size) s2) E
 { B with heap:=B.heap.push (seqObj "list" vs.toArray 0) }) E s):av (Su prog w) A (call (.builtin "sorted") [v]) Q E s:=by
 refine Calls.call_function_entry kind_sorted plain_sorted entry_sorted (args_sorted1 v) ?_;show av _ _ (Builtin.sorted {pos:=[v]}) _ _ s;unfold Builtin.sorted;refine RP (au ?_);refine RP (Uy L (λvs B D=>?_) λ_ _ x=>x);obtain⟨J,D⟩:=D;simp only[newList];refine RP (SL ?_ (by first|size_fits|(rw[RZ];exact J)|exact J));refine RP (Tf (TM slot_list_sort ⟨_,R8 _ rfl,rfl⟩ entry_list_sort ?_ (args_list_sort _)));refine Uy D (λfin s2 q=>?_) λ_ _ x=>x;obtain⟨u,rfl,q⟩:=q;exact⟨u,rfl,au ⟨_,rfl,q⟩⟩
end
section
variable{X:Cx}{F:FT}{G:ay->Option aN}
end
section
variable{X:Cx}{F:FT}{G:ay->Option aN}{K:RQ}{m:List az}{H:Hp}
end
section
variable{F:FT}{G:ay->Option aN}
end
section
variable{F:FT}{G:ay->Option aN}
end
section
variable{X:Cx}{F:FT}{G:ay->Option aN}
def TyX(X:Cx)(T:String)(k:BT.Tx):Prop:=∀(D:List (az×ao)) (s:RV) (B:L2.St) (H:Hp) (v:V) (q:aA) (m:List az) (x:aN) (J:List aN) (h:aO) (r:aN×aO),
 Inv X D B H s->RelV v q->RW X.prog X.w X.K m H v x->BT.kTx k (x::J) h=aa r->s.TypeIs q T/\∀a,q=.ref a->∃ob,s.heap.get? a=aa ob/\ob.dict=af
def E3{k:BT.Tx}{ws:List aN}{h:aO}{z:aN}{h':aO}(q:k≠.dget)(e:BT.kTx k ws h=aa (z,h')):∃ds d,aR ws h=aa ds/\BT.txD k ds=aa d/\z=.p d/\h'=h:=by
 have e:((aR ws h).bind λds=>(BT.txD k ds).map λd=>(aN.p d,h))=aa (z,h'):=by
  cases k with
  |dget=>exact bL rfl q|_=>exact e
 obtain⟨ds,e1,e2⟩:=Option.bind_eq_some_iff.mp e;obtain⟨d,D,B⟩:=dh e2;cases B;exact⟨ds,d,e1,D,rfl,rfl⟩
def M3{ds:List aM}{d:aM}(e:BT.txD .join ds=aa d):∃x ys ts,ds=[.str x,.aB ys]/\BT.strsOf ys=aa ts/\(ts.length<=4000/\x.length<=10/\∀t∈ts,t.length<=4000)/\d=.str (Str.join x ts):=by
 match ds,e with
 |[.str x,.aB ys],e =>
  obtain⟨ts,e1,e2⟩:=Option.bind_eq_some_iff.mp (show((BT.strsOf ys).bind λts=>if ts.length<=4000/\x.length<=10/\∀t∈ts,t.length<=4000 then aa (aM.str (Str.join x ts))else af)=aa d from e);obtain⟨c,q⟩:=dw e2;exact⟨x,ys,ts,rfl,e1,c,q.symm⟩
def KU{ds:List aM}{d:aM}(e:BT.txD .split ds=aa d):∃x y,ds=[.str x,.str y]/\(y.length=1/\x.length<=BT.lim)/\d=.aB ((Txt.split x y).map .str):=by
 match ds,e with
 |[.str x,.str y],e =>
  obtain⟨c,q⟩:=dw (show(if y.length=1/\x.length<=BT.lim then aa (aM.aB ((Txt.split x y).map .str))else af)=aa d from e);exact⟨x,y,rfl,c,q.symm⟩
def Jk{w:aN}{h:aO}{x:ay}(e:aW w h=aa (.str x)):w=.p (.str x):=by
 cases w with
 |p d=>exact bR aN.p (Sa e)|r n=>obtain⟨_,_,q⟩:=dh (show(bg h n).map aM.aB=aa (.str x) from e);cases q|_=>exact cU e
def B3{w:aN}{ws:List aN}{h:aO}{ds:List aM}(e:aR (w::ws) h=aa ds):∃d r,ds=d::r/\aW w h=aa d/\aR ws h=aa r:=by
 cases g:aW w h with
 |none=>simp[aR,g]at e
 |some d =>
  cases q:aR ws h with
  |none=>simp[aR,g,q]at e|some r=>simp[aR,g,q]at e;exact⟨d,r,e.symm,rfl,rfl⟩
def ty_str{k:BT.Tx}(L:k≠.dget)(h:∀ds d,BT.txD k ds=aa d->∃x r,ds=.str x::r):TyX X "str" k:=by
 intro U s O H v W m x V Z r I B q e;obtain⟨ds,d,e1,e2,_,_⟩:=E3 L e;obtain⟨y,r,rfl⟩:=h _ _ e2;obtain⟨a,Y,J,D,_⟩:=B3 e1;cases J;have M:=Jk D;subst M;cases q with
 |p r =>
  cases r with
  |str _ ok =>
   obtain⟨t,rfl⟩:=B;exact⟨typeIs_str s y t,λ_ e=>nomatch e⟩
inductive rTx(P:So)(w:SQ)(K:RQ)(k:BT.Tx)(vs:List V)(H:Hp)(Q:VK):Prop
 |mk(m:List az)(h:aO)(ws:List aN)(z:aN)(h':aO)(R:RH K m H h)(rs:RWs P w K m H vs ws)(e:BT.kTx k ws h=aa (z,h'))(p:Post P w K m H z h' Q):rTx P w K k vs H Q
def oTx(k:BT.Tx)(x y:aN)(h:aO):Option (aN×aO):=BT.kTx k [x,y] h
inductive GS(X:Cx)(m:List az)(H:Hp)(s:RV)(a:az)(o:Option aM)(k:Key):Prop
 |mk(vs:List (Key×aA))(dd:s.heap.DictOf (dH X.prog X.w) a vs)(n:(a==Vj)=ai)(h:(o=af/\valueAt vs k=af)\/∃x v u,o=aa x/\valueAt vs k=aa u/\RelV v u/\RD X.K m H v x):GS X m H s a o k
def M4{m:List az}{H:Hp}{vs:List (Key×aA)}{k:ay}:∀{es:List (ay×V)}{kvs:List (ay×aM)},RDk K es kvs->KV (es.map λq=>((Sum.inr q.1:Key),q.2)) vs->(bF k kvs=af/\valueAt vs (Sum.inr k)=af)\/∃x v u,bF k kvs=aa x/\valueAt vs (Sum.inr k)=aa u/\RelV v u/\RD K m H v x:=by
 intro es
 induction es generalizing vs with
 |nil =>
  intro kvs r q;cases r;cases q;exact .inl ⟨rfl,rfl⟩
 |cons p es U =>
  intro kvs r q;cases r with
  |@cons x v dd _ kvs r t =>
   cases q with
   |@cons p z Z Y M L =>
    obtain⟨W,J⟩:=z;obtain⟨D,B⟩:=M;simp only at D B;subst D;rw[bF]
    by_cases c:k=x
    ·subst c;rw[bJ rfl];exact .inr ⟨dd,v,J,rfl,by simp[valueAt],B,r m H⟩
    ·rw[bK c];have O:¬((Sum.inr x:Key)=Sum.inr k):=λz=>c (Sum.inr.inj z).symm;have:=U t L;simp only[valueAt]at this⊢;rw[VX (by simpa using O)];exact this
noncomputable def kdG:BT.Kd->ay->Option aM
 |.t kvs,x=>bF x kvs|.l kvs,x=>bD kvs (.inr x)
def Jl{zt:List (az×ao)}{σ:L2.St}{H:Hp}{s:RV}{m:List az}{q:BT.Kd}{v:V}{u:aA}(I:Inv X zt σ H s)(r:RW X.prog X.w X.K m H v (.k q))(O:RelV v u)(x:ay):
 ∃a,u=.ref a/\GS X m H s a (kdG q x) (.inr x):=by
 cases r with
 |@k a g J Z D =>
  cases O;obtain⟨b,B,Y,dd⟩:=Z;exact⟨a,rfl,B,dd s.heap I.kIn,b,M4 D Y⟩
 |@kl a ob f J c D =>
  cases O;refine⟨a,rfl,?_⟩;cases u5 I (.inr ⟨_,c.1⟩) D (.inr x)with
  |no B dd n M L=>exact⟨B,dd,n,.inl ⟨M,L⟩⟩|is B dd n y U W M L e d=>exact⟨B,dd,n,.inr ⟨y,U,W,M,L,e,d⟩⟩
def B4{x:aN}{ws:List aN}{h:aO}{z:aN}{h':aO}(e:BT.kTx .dget (x::ws) h=aa (z,h')):∃q y,x=.k q/\h'=h/\((ws=[.p .aD]/\z=.p .aD/\∃kvs,q=.t kvs)\/(ws=[.p (.str y)]/\z=.p ((kdG q y).getD .aD))\/∃d,ws=[.p (.str y),.p d]/\z=.p ((kdG q y).getD d)):=by
 have no:∀(o:Option (List aM)),(o.bind λB=>(BT.txD .dget B).map λd=>(aN.p d,h))=aa (z,h')->False:=by intro o e;obtain⟨B,_,e2⟩:=Option.bind_eq_some_iff.mp e;obtain⟨d,D,_⟩:=dh e2;exact cU (P:=False) (show(af:Option aM)=aa d from by rw[←D];unfold BT.txD;rfl)
 cases x with
 |k q =>
  cases q with
  |t kvs =>
   have e:BT.AV kvs ws h=aa (z,h'):=e;unfold BT.AV at e;split at e;cases e;exact⟨_,"",rfl,rfl,.inl ⟨rfl,rfl,_,rfl⟩⟩;cases e;exact⟨_,_,rfl,rfl,.inr (.inl ⟨rfl,rfl⟩)⟩;cases e;exact⟨_,_,rfl,rfl,.inr (.inr ⟨_,rfl,rfl⟩)⟩;exact cU e
  |l kvs =>
   have e:BT.uW kvs ws h=aa (z,h'):=e;unfold BT.uW at e;split at e;cases e;exact⟨_,_,rfl,rfl,.inr (.inl ⟨rfl,rfl⟩)⟩;cases e;exact⟨_,_,rfl,rfl,.inr (.inr ⟨_,rfl,rfl⟩)⟩;exact cU e
 |p d=>exact(no (aR (.p d::ws) h) e).elim|r n=>exact(no (aR (.r n::ws) h) e).elim|o n=>exact(no (aR (.o n::ws) h) e).elim|c f J=>exact(no (aR (.c f J::ws) h) e).elim|x c=>exact(no (aR (.x c::ws) h) e).elim
def ty_dict:TyX X "dict" .dget:=by intro U s O H v Y m x V Z r I D B e;obtain⟨z,c⟩:=r;obtain⟨q,y,rfl,_,_⟩:=B4 e;obtain⟨a,rfl,W,dd,n,_⟩:=Jl I B D y;refine⟨dd.typeIs,λb M=>?_⟩;cases M;obtain⟨o,d,f,L,J,_⟩:=dd;exact⟨o,L,J.2.1⟩
end
def oM:∀(ns:List Int),(Sk ns.length).map (λi=>ns.getD i 0)=ns:=by intro ns;refine List.ext_getElem (by simp) λi B q=>?_;simp only[WU,List.getElem_range];rw[Uh,RY q];rfl
def E4(ns:List Int):Up (λi=>ns.getD i 0) ns.length=bq ns:=by unfold Up;rw[oM];rfl
section
def E5:∀{xs:List V}{us:List aA},xs.length=us.length->(∀(j:Nat) x u,xs[j]?=aa x->us[j]?=aa u->RelV x u)->dg xs us:=by
 intro xs
 induction xs with
 |nil =>
  intro us h _;cases us with
  |nil=>exact .nil|cons _ _=>simp at h
 |cons x xs B =>
  intro us h q;cases us with
  |nil=>simp at h|cons u us=>exact .cons (q 0 x u rfl rfl) (B (by simpa using h) λj a b e1 e2=>q (j+1) a b (by simpa using e1) (by simpa using e2))
def B5(O:Ok X F G sc N)(hu:f7 N=ah)(hg:dO sc "list"=ah)(g:dO sc "range"=ah)(hs:noStar ex=ah)(hA:PA X [ex] (tDs X F G sa)):
 PE X (.Call (.Name "list" np) [.Call (.Name "range" zp) [ex] [] pos] [] p) (tD X F G (.lsr mu .rng1 sa)):=by
 intro C s A H Q I q;have q:=lO (as:=sa) (k:=λD h=>BT.kLs mu .rng1 D h) (λs h=>by simp only[aL]) q (R':=λZ M=>∃m h D z h',RH X.K m M h/\RWs X.prog X.w X.K m M Z D/\BT.kLs mu .rng1 D h=aa (z,h')/\Post X.prog X.w X.K m M z h' Q) λm h U z h' Z M R r e Y=>⟨m,h,U,z,h',R,r,e,Y⟩;refine Call_ (gU (u:=.type "list") I (dU O hg) (O.blt _ (by decide)) (by decide +kernel) (SJ ?_ (cY rfl) rfl));rw[cY (show noStar (.Call (.Name "range" zp) [ex] [] pos)=ah from rfl)];show av _ _ (spliced ((ai,eval (.Call (.Name "range" zp) [ex] [] pos) X.env)::Vb p (SM [] X.env))) _ _ s;refine Vz (Call_ (gU (u:=.type "range") I (dU O g) (O.blt _ (by decide)) (by decide +kernel) (SJ (thn (hA pos C s A H _ I q) λus s1 ⟨Z,M,I1,r1,q1⟩=>?_) (cY hs) rfl)));obtain⟨m,h,D,z,h',R,a,e,Y⟩:=q1;unfold BT.kLs at e;cases l:(aR D h).bind (BT.gH .rng1)with
 |none=>rw[l]at e;exact cU e
 |some W =>
  rw[l]at e;simp only at e
  by_cases cl:W.length<=BT.lim
  case neg=>rw[bK cl]at e;exact cU e
  rw[bJ cl]at e;have ez:BT.new mu W h=(z,h'):=Sa e;obtain⟨U,e1,e2⟩:=Option.bind_eq_some_iff.mp l;have P:=gc R a e1;have hd:∃j:Int,U=[.int j]:=by
   match U,e2 with
   |[.int j],_=>exact⟨j,rfl⟩
  obtain⟨j,rfl⟩:=hd;rw[BT.eV]at e2;split at e2
  case isFalse=>exact cU e2
  rename_i c;simp only[RX,bM]at c;have ed:bH 0 j.toNat=W:=Sa e2;obtain⟨v,rfl,r⟩:=P.one;cases r with
  |d r =>
   cases r;obtain⟨u,rfl,eu⟩:=vals1 r1;obtain⟨t,rfl⟩:=eu;refine call_range_1 (VH ?_);refine call_list_range (s:={s1 with heap:=s1.heap.push {cls:=.type "range",data:=.fields #[.int 0 s1.toks,.int j t,.int 1 (s1.toks+1)]},toks:=s1.toks+1+1}) (I1.ok.hd (O.calm hu)) (IsRange.new ..) (small_one (by lia) (by lia) (by lia) (by lia)) (n:=j.toNat) (by rw[rangeSize_one];split<;>lia) (by lia) λy E L c' hk hS B=>?_;have S:W=((Sk j.toNat).map λ(k:Nat)=>(0:Int)+(k:Int)).map aM.int:=by rw[←ed,UG];rfl
   have f:∀b u,s1.heap.get? b=aa u->y.get? b=aa u:=λb u q=>hk b u (RT _ q);have J:s1.heap.objs.size<=(s1.heap.push {cls:=.type "range",data:=.fields #[.int 0 s1.toks,.int j t,.int 1 (s1.toks+1)]}).objs.size:=by rw[SY];exact T3 _
   have T:dg (((Sk j.toNat).map λ(k:Nat)=>(0:Int)+(k:Int)).map V.int) L.toList:=by
    refine E5 (by simp[B.1]) λi x u e1 e2=>?_;obtain⟨t',rfl⟩:=B.2 i u (by simpa using e2);have:x=.int (0+(i:Int)):=by
     rw[UG,Sv]at e1;rcases Sq i j.toNat with z|z
     ·rw[Vw z]at e1;exact(Sa e1).symm
     rw[Si (by simpa using z)]at e1;exact cU e1
    subst this;exact⟨t',by simp⟩
   have sl:aj=16777216:=WI;refine⟨.ref _,_,I1.laid (h':=y) (t':=E) (o:=.aB (((Sk j.toNat).map λ(k:Nat)=>(0:Int)+(k:Int)).map V.int)) f J ⟨by rw[Se,Se,T9];lia,L.toList,c',T,by simpa using hS⟩,rfl,?_⟩;refine nk (mu:=mu) R (I1.aJ.fresh J) (lM _) ?_;rw[←S,ez];exact Y
end
section
variable{F:FT}{G:ay->Option aN}
end
end BS
end
section
namespace BX
open PySem PyProof.Rows
def NX.keep{S:az}(N:NX w h it a ord i)(M:h.get? S=aa oS)(L:oS.cls=.type "list")(Z:a≠S)(k:∀b o,b≠S->h.get? b=aa o->h'.get? b=aa o):NX w h' it a ord i:=by
 obtain⟨o,g,j,t,first,W,D,Y,q,m⟩:=N.ex;refine⟨o,g,j,t,first,k _ _ Z W,D,Y,k _ _ (λz=>?_) q,?_⟩
 ·subst z;rw[M]at q;cases q;exact bL (show(UL "set_iterator")=.type "list" from L) (by decide)
 ·cases m with
  |A J=>exact .A J
  |B f V =>
   obtain⟨O,e,c,n,d⟩:=f;refine .B ⟨O,k _ _ (λz=>?_) e,c,n,d⟩ V;subst z;rw[M]at e;cases e;rw[L]at c;exact bL c (by decide)
  |C J D U=>exact .C J D U
section
variable{prog:So}{w:SQ}{A:TF}{E:aA->RV->Prop}{s:RV}{R:Xy->RV->Prop}
def B6(C:A.handled=af){B a S:az}{ord:List aA}{Z:ao}{es:Array (Int×aA)}{ep:Nat}{t:SetTable}{h₁:aq}(U:B≠a)(W:a≠S)(V:B≠S)(hn:ord.length<=aj)(H:h₁.get? a=aa Z)(E:Z.data=.set es ep t)(x:ord.length=es.size)(res:aA)
(G:∀h' c,(∀b o,b≠S->b≠B->h₁.get? b=aa o->h'.get? b=aa o)->h'.get? S=aa {cls:=.type "list",dict:=af,data:=.seq ord.toArray c,slots:=#[]}->R (.ok (.ret res)) {s with heap:=h'}):
 ∀(k i:Nat)(h:aq)(c:Nat),ord.length-i=k->i<=ord.length->NX w h B a ord i->(∀b o,b≠S->b≠B->h₁.get? b=aa o->h.get? b=aa o) →
  h.get? S=aa {cls:=.type "list",dict:=af,data:=.seq (ord.take i).toArray c,slots:=#[]} →
  ak (Su prog w) A (.builtin "list.extend.loop" ⟨[.ref S,.ref B,res],[]⟩) R {s with heap:=h}:=by
 intro k
 induction k with
 |zero =>
  intro i h c y z N q Y;have O:i=ord.length:=by lia
  refine codeAny_builtin UP ?_;rw[TU SX _];show av _ A.in1 (Vy (.ref B) >>= _) _ _ _;refine RP (HW (s:={s with heap:=h}) (A:=A.in1) C N O (λo I K T e1 e2=>?_) λh' j=>?_)
  ·have P:=q a Z W U.symm H;replace e1:h.get? a=aa o:=e1;rw[P]at e1;cases e1;rw[E]at e2;cases e2;exact x
  ·subst O;rw[List.take_length]at Y;exact au (G h' c (λb o r g e=>j b o g (q b o r g e)) (j S _ V.symm Y))
 |succ k u =>
  intro i h c y z N q Y;have L:i<ord.length:=by lia
  have v:ord[i]?=aa ord[i]:=RY L;refine codeAny_builtin UP ?_;rw[TU SX _];show av _ A.in1 (Vy (.ref B) >>= _) _ _ _;refine RP (Eg (s:={s with heap:=h}) N U v λh' Q p=>?_);have M:∀b o,b≠B->h.get? b=aa o->h'.get? b=aa o:=p.extBut;have D:=M S _ V.symm Y;have f:∀b o,b≠S->h'.get? b=aa o->(h'.update S (TN (·.push ord[i]))).get? b=aa o:=λb o F e=>(Ti _ _ (Td F)).trans e;have J:(ord.take i).toArray.size=i:=by simp;lia
  show av _ A.in1 (Wm S (·.push ord[i]) >>= _) _ _ _;refine RP ?_;have n:(ord.take i).toArray.push ord[i]=(ord.take (i+1)).toArray:=by rw[List.push_toArray,List.take_append_getElem]
  obtain⟨d,hg⟩:∃d,(h'.update S (TN (·.push ord[i]))).get? S=aa {cls:=.type "list",dict:=af,data:=.seq (ord.take (i+1)).toArray d,slots:=#[]}:=⟨_,by rw[←n];exact SB (TN (·.push ord[i])) D rfl⟩;exact Uw D rfl (au ⟨plainId_quiet SX _,u (i+1) _ d (by lia) L (Q.keep D rfl W f) (λb o m l e=>f b o m (M b o l (q b o m l e))) hg⟩) (by rw[J];lia) (by show((ord.take i).toArray.push ord[i]).size<=aj+1;rw[Array.size_push,J];lia)
end
def E6:Xk (.type "set") "__len__"=pure (aa (.builtin "set.__len__")):=by rw[Wn,Vr];kernel_rfl
section
variable{E:aA->RV->Prop}
def B7(B:s.TypeIs (.ref r) "set")(h:Q ai s):av (Su prog w) A (U9 (.ref r)) Q E s:=by
 unfold U9;refine RP (XZ B E6 ?_);generalize hid:("set.__len__":String)=id0
 wp_delta
 rw[show splitId id0=aa ("set","__len__") from by subst hid;decide +kernel];subst hid;refine RP (U3 (T:="set") (b:=ah) B (by rw[isSubtype_type];kernel_rfl) ?_);refine Wk (λq=>bL q (by decide)) (λ_=>?_);refine Wk (λ_=>?_) (λq=>bL (by decide +kernel) q);refine RP (U6 B ?_);exact au h
def u9{R:Xy->RV->Prop}(x:A.handled=af){a S:az}{o:ao}{es:Array (Int×aA)}{ep:Nat}{t:SetTable}(Y:s.heap.get? a=aa o)(Z:o.ExactSet)(m:o.data=.set es ep t)(y:t.fits es.size=ah)(J:es.size<Vq)(u:Tb (w.params.followText "set-order") t)(O:a≠S)(res:aA)(L:Nat)(j:s.heap.get? S=aa {cls:=.type "list",data:=.seq #[] L})
(C:∀h' d (ord:List aA) c,(∀b o,b≠S->s.heap.get? b=aa o->h'.get? b=aa o)->ord.Perm (es.toList.map (·.2))->h'.get? S=aa {cls:=.type "list",dict:=af,data:=.seq ord.toArray c,slots:=#[]}->R (.ok (.ret res)) {s with heap:=h',drawn:=d}):
 av (Su prog w) A.in1 (Tj (.ref S) (.ref a) res)
  (λfin s'=>match fin with|.done f=>R (.ok f) s'|.again n=>n.quiet=ah/\ak (Su prog w) A n R s') (λe s'=>R (.error e) s') s:=by
 have z:s.TypeIs (.ref a) "set":=⟨o,Y,Z.1⟩;have I:a<s.heap.objs.size:=R6 Y;have Sl:S<s.heap.objs.size:=R6 j;unfold Tj;refine RP (U6 z ?_);have G:UM (.ref S) (.ref a)=ai:=by simp[UM,O.symm]
 have F:(UL "set"==UL "list")=ai:=by decide
 have E:(UL "set"==UL "tuple")=ai:=by decide
 simp only[G,F,E,Vp,UC,if_false];refine RP (AE (s:=s) Y Z m y J u λh₁ d r ord N V M v k=>?_);have p:ord.length=es.size:=by rw[k.length_eq,Se,SG]
 have H:=Vk J;have W:∀(h:aq)(D:Nat),(∀b o,b≠S->h₁.get? b=aa o->h.get? b=aa o)->h.get? S=aa {cls:=.type "list",data:=.seq #[] D}->ak (Su prog w) A (.builtin "list.extend.loop" ⟨[.ref S,.ref r,res],[]⟩) R {s with heap:=h,drawn:=d}:=by
  intro h D l q;refine B6 (s:={s with drawn:=d}) (h₁:=h₁) (t:=t) x (Tt (Sx I M)) O (Tt (Sx Sl M)) (by lia) (V a o Y) m p res (λh' c g i=>C h' d ord c (λb o J e=>g b o J (SA (Sx (R6 e) M)) (V b o e)) k i)
   ord.length 0 h D (Yn _) (Tu _) (N.keep (V S _ j) rfl O l) (λb o J _ e=>l b o J e) (by simpa using q)
 have q:=V S _ j;refine RP (Tf (B7 (s:={s with heap:=h₁,drawn:=d}) ⟨o,V a o Y,Z.1⟩ ?_));refine Wk (λ_=>?_) (λ_=>au ⟨plainId_quiet SX _,W _ L (λb o _ e=>e) q⟩);refine RP (VB ?_);refine RP ?_;show av _ _ (Wm S (·.push .none) >>= λ_=>Wm S (·.pop)) _ _ _;refine RP (Uw q rfl ?_);have B:=SB (TN (·.push T5)) q rfl;refine Uw (hz:=by seq_fits) B rfl ?_;have U:=SB (TN (·.pop)) B rfl;refine au ⟨plainId_quiet SX _,W _ _ (λb o J e=>?_) U⟩;exact(Ti _ _ (Td J)).trans ((Ti _ _ (Td J)).trans e)
def tT(i:A.handled=af)(W:s.heap.get? a=aa o)(Z:o.ExactSet)(k:o.data=.set es ep t)(j:t.fits es.size=ah)(m:es.size<Vq)(c:Tb (w.params.followText "set-order") t)
(h:∀h' d ord,s.heap.objs.size<h'.objs.size->(∀b o,s.heap.get? b=aa o->h'.get? b=aa o)->ord.Perm (es.toList.map (·.2))->R ord {s with heap:=h',drawn:=d}):
 av (Su prog w) A (collect (.ref a)) R E s:=by
 have g:a<s.heap.objs.size:=R6 W;unfold collect;refine RP (wpAny_runValue (codeAny_builtin PySem.F.entry_proto_collect ?_));rw[TU PySem.F.plain_proto_collect _];show av _ A.in1 (newList [] >>= λl=>again (.builtin "list.__iadd__" ⟨[l,.ref a],[]⟩)) _ _ s;refine RP (SL ?_);refine au ⟨plainId_quiet Xp _,codeAny_builtin PySem.F.entry_list_iadd ?_⟩;rw[TU Xp _];have D:(s.heap.push {cls:=.type "list",data:=.seq ([]:List aA).toArray}).get? s.heap.objs.size=aa {cls:=.type "list",data:=.seq #[]}:=R8 _ rfl;show av _ A.in1 (Tj (.ref s.heap.objs.size) (.ref a) (.ref s.heap.objs.size)) _ _ _;have U:=u9 (prog:=prog) (A:=A) (s:={s with heap:=s.heap.push {cls:=.type "list",data:=.seq ([]:List aA).toArray} })
  (R:=λ(q:Xy) (O:RV)=>∃ (h':aq) (d:Drawn) (ord:List aA) (M:Nat),q=.ok (.ret (.ref s.heap.objs.size))/\O={ s with heap:=h',drawn:=d } ∧
   (∀ b o,s.heap.get? b=aa o->h'.get? b=aa o)/\ord.Perm (es.toList.map (·.2))/\h'.get? s.heap.objs.size=aa { cls:=.type "list",dict:=af,data:=.seq ord.toArray M,slots:=#[] })
  i (RT _ W) Z k j m c (SA g) (.ref s.heap.objs.size) 0 D
  (λh' d ord M L J B=>⟨h',d,ord,M,rfl,rfl,λb o e=>L b o (SA (R6 e)) (RT _ e),J,B⟩)
 refine Uy U (λfin O x=>?_) λe O x=>?_
 ·cases fin with
  |done f =>
   obtain⟨h',d,ord,M,e,rfl,L,J,B⟩:=x;cases e;show av _ A (load s.heap.objs.size >>= _) _ _ _;refine RP (wpAny_load B ?_);refine au ?_;show R ord.toArray.toList _;exact h h' d ord (R6 B) L J
  |again Y =>
   refine⟨x.1,codeAny_mono x.2 λq V y=>?_⟩;obtain⟨h',d,ord,M,rfl,rfl,L,J,B⟩:=y;show av _ A (load s.heap.objs.size >>= _) _ _ _;refine RP (wpAny_load B ?_);refine au ?_;show R ord.toArray.toList _;exact h h' d ord (R6 B) L J
 ·obtain⟨_,_,_,_,n,_⟩:=x;cases n
theorem wU:∀{vs:List aA},(∀v∈vs,∃k,W3 k v=ah)->∃ks,VG vs ks/\∀k,k∈ks↔∃v∈vs,W3 k v=ah
 |[],_=>⟨[],.nil,λk=>by simp⟩
 |v::vs,h=>by
  obtain⟨k,D⟩:=h v Sj;obtain⟨ks,O,L⟩:=wU λu M=>h u (Sb _ M);obtain⟨t,rfl⟩:=YM D;refine⟨k::ks,.cons k t O,λj=>?_⟩;constructor
  ·intro J;rcases List.mem_cons.mp J with rfl|J
   exact⟨_,Sj,D⟩
   ·obtain⟨u,q,B⟩:=(L j).mp J;exact⟨u,Sb _ q,B⟩
  ·rintro ⟨u,q,B⟩
   rcases List.mem_cons.mp q with rfl|q
   rw[Value.isInt_inj _ _ _ B D];exact Sj;exact Sb _ ((L j).mpr ⟨u,q,B⟩)
theorem qv:∀{l ks:List Int},l.Nodup->(∀k∈l,k∈ks)->ks.length=l.length->l.Perm ks
 |[],ks,_,_,h=>by rw[List.length_eq_zero_iff.mp h]
 |x::l,ks,n,m,h=>by have q:=m x Sj;obtain⟨J,D⟩:=List.nodup_cons.mp n;have:=qv (l:=l) (ks:=ks.erase x) D (λk B=>(List.mem_erase_of_ne (a:=k) (b:=x) (λz=>J (by rw[←z];exact B))).mpr (m k (Sb _ B))) (by rw[List.length_erase_of_mem q,h];simp);exact(this.cons x).trans (List.perm_cons_erase q).symm
theorem vc:∀(ns q:List Int),q.Nodup->(ns.foldl (fun σ v=>if σ.any (·==v)then σ else σ++[v]) q).Nodup
 |[],q,h=>h
 |n::ns,q,h=>by
  show(ns.foldl _ (if q.any (·==n)then q else q++[n])).Nodup
  by_cases c:q.any (·==n)=ah
  rw[bJ c];exact vc ns q h
  ·rw[bK c];refine vc ns _ (List.nodup_append.mpr ⟨h,by simp,λa D b B=>?_⟩);rw[List.mem_singleton.mp B];intro z;subst z;exact c (List.any_eq_true.mpr ⟨a,D,by simp⟩)
def yT(ns:List Int):(bq ns).Nodup:=vc ns [] We
def yU(p:us.Perm vs)(h:VG vs ks):∃B,VG us B/\B.Perm ks:=by
 induction p generalizing ks with
 |nil=>exact⟨ks,h,.refl _⟩
 |cons x p O =>
  cases h with
  |cons n t h =>
   obtain⟨B,a,b⟩:=O h;exact⟨n::B,.cons n t a,b.cons n⟩
 |swap x y l =>
  cases h with
  |cons n t h =>
   cases h with
   |cons L M h=>exact⟨L::n::_,.cons L M (.cons n t h),.swap _ _ _⟩
 |trans p q J D =>
  obtain⟨W,a,b⟩:=D h;obtain⟨k2,V,U⟩:=J a;exact⟨k2,V,U.trans b⟩
def vd(y:A.handled=af)(u:pN prog w (w.params.followText "set-order") s.heap a (λl=>(bq ns).any (·==l)) (bq ns).length)(h64:(bq ns).length<64)
(G:∀h' d p out e,VG out.toList (bG (bq ns))->(∀b o,s.heap.get? b=aa o->h'.get? b=aa o)->s.heap.objs.size<=p->h'.get? p=aa (seqObj "list" out e)->Q (.ref p) {s with heap:=h',drawn:=d}):
 av (Su prog w) A (call (.builtin "sorted") [.ref a]) Q E s:=by
 obtain⟨o,I,S,t,x,hex,C,M,F,Y,z,hn,r⟩:=u;have H:=Vk Y;refine BS.tS (tT (A:=A.in1) y x hex C z Y r λh' d ord K Z J=>⟨by rw[J.length_eq,Se,SG];lia,?_⟩);obtain⟨V,W,k2⟩:=wU (vs:=I.toList.map (·.2)) λv m=>by obtain⟨e,B,rfl⟩:=List.mem_map.mp m;obtain⟨⟨k,L,_⟩,_⟩:=M e B;exact⟨k,L⟩
 obtain⟨g,j,i⟩:=yU J W;have f:V.length=(bq ns).length:=by have:=Yx W;simp at this;lia
 have c:(bq ns).Perm V:=qv (yT ns) (λk L=>(k2 k).mpr (by
  obtain ⟨e,B,q⟩:=(F k).mp (List.any_eq_true.mpr ⟨k,L,by simp⟩);exact ⟨e.2,List.mem_map.mpr ⟨e,B,rfl⟩,q⟩)) f
 refine PyProof.Rows.list_sort_tree (R8 _ rfl) j (by rw[J.length_eq,Se,SG];lia) λout D R P N=>⟨_,rfl,?_⟩;obtain⟨e,B⟩:=PyProof.Rows.sortedHeap_at (h:=h'.push (seqObj "list" ord.toArray 0)) (a:=h'.objs.size) (vs:=ord) (n:=0) (out:=out) (R8 _ rfl);have O:D=bG (bq ns):=Ww ((P.trans i).trans (c.symm.trans (bE _).symm)) N (BT.n8 _);subst O;refine G _ d _ out e R (λb ob q=>?_) (Uu K) B;have U:=Z b ob q;have lt:=R6 U;rw[PyProof.Rows.sortedHeap_old (SA lt) (by rw[SY];exact WO lt)];exact RT _ U
end
end BX
namespace BS
open PySem PySem.Spec PyProof.Rows L2
def Inv.drew(I:Inv X zt σ H s):Inv X zt σ H {s with drawn:=d}:=⟨I.ok,I.os,I.bare,I.base,I.loc,I.cell,I.free,I.freeC,I.pin,I.aJ,I.len⟩
theorem ve:∀(ns q:List Int),(ns.foldl (fun σ v=>if σ.any (·==v)then σ else σ++[v]) q).length<=ns.length+q.length
 |[],q=>by simp
 |n::ns,q=>by
  show(ns.foldl _ (if q.any (·==n)then q else q++[n])).length<=_
  by_cases c:q.any (·==n)=ah
  ·rw[bJ c];have:=ve ns q;simp only[Sh];lia
  ·rw[bK c];have:=ve ns (q++[n]);simp only[Sh,Sz,SW]at this⊢;lia
section
def B8(O:Ok X F G sc N)(g:f7 N=ah)(hg:dO sc "sorted"=ah)(U:dO sc "set"=ah)(K:noStar ex=ah)(hA:PA X [ex] (tDs X F G sa)):
 PE X (.Call (.Name "sorted" np) [.Call (.Name "set" zp) [ex] [] pos] [] p) (tD X F G (.bi .sset ai sa)):=by
 intro l s k H Q I q;have q:=iS q;refine Call_ (gU (u:=.builtin "sorted") I (dU O hg) (O.blt _ (by decide)) (by decide +kernel) (Wa ?_ (cY rfl) rfl));rw[cY (show noStar (.Call (.Name "set" zp) [ex] [] pos)=ah from rfl)];show av _ _ (spliced ((ai,eval (.Call (.Name "set" zp) [ex] [] pos) X.env)::Vb p (SM [] X.env))) _ _ s;refine Vz (Call_ (gU (u:=.type "set") I (dU O U) (O.blt _ (by decide)) (by decide +kernel) (SJ (thn (hA pos l s k H _ I q) λus s1 ⟨vs,H1,I1,r1,q1⟩=>?_) (cY K) rfl)));obtain⟨m,h,ws,z,h',R,L,e,n⟩:=q1;obtain⟨j,d,e1,e2,⟨_,rfl,rfl⟩|⟨_,q,_⟩⟩:=gX e
 rotate_left
 exact aS q;have t:=gc R L e1;have hd:∃D,j=[.aB D]:=by
  match j,e2 with
  |[.aB D],_=>exact⟨D,rfl⟩
 obtain⟨D,rfl⟩:=hd;rw[BT.sX]at e2;obtain⟨ns,g1,J⟩:=Option.bind_eq_some_iff.mp e2
 by_cases c:ns.length<64
 rotate_left
 rw[bK c]at J;exact bI J;rw[bJ c]at J;cases J;obtain⟨v,rfl,r⟩:=t.one;obtain⟨a,vt,rfl,ha,ra⟩:=r.aB;rw[gC g1]at ra;have ev:=gf ra;subst ev;obtain⟨u,rfl,eu⟩:=vals1 r1;cases eu;obtain⟨B,f,w,hz⟩:=I1.list ha.sq;have T:=intsAre_of f;have x:=f.length;rw[Se]at x;have sz:B.toArray.size=ns.length:=by simp;lia
 refine BX.Az (items:=B.toArray) (ns:=ns) (I1.ok.hd (O.calm g)) w.isList (by simpa using T) (by rw[sz];unfold Vq;lia) λh2 Z W S=>?_;rw[sz,E4]at W;refine VH ?_;have dl:=ve ns [];have Y:(bq ns).length<64:=by have:(bq ns).length<=ns.length+0:=dl;lia
 refine BX.vd (s:={s1 with heap:=h2,toks:=Z}) (ns:=ns) (I1.ok.hd (O.calm g)) W Y λh3 d p M e C k2 A y=>?_;have i:s1.heap.objs.size<=p:=by obtain⟨o,_,_,_,P,_⟩:=W;exact SK (Uu (R6 P)) A
 have E:=j9 C;have sl:aj=16777216:=WI;have l2:(bG (bq ns)).length=(bq ns).length:=(bE _).length_eq;exact⟨.ref _,_,Inv.drew (I1.laid (o:=.aB ((bG (bq ns)).map V.int)) (t':=Z) (λb u q=>k2 b u (S b u q)) i ⟨by rw[Se];lia,M.toList,e,E,y⟩),rfl,jq R (I1.aJ.fresh i) (lM _) n⟩
end
end BS
end
section
namespace BS
open PySem PySem.Spec PyProof.Rows L2
section
end
noncomputable def oN(sc:TV)(x:ay):Bool:=match sc.names.lookup x with
 |some .local=>ah|some .cell=>ah|_=>ai
inductive CTs(sc:TV)(N:List ay):List (Nat×ay)->List Sd->Prop
 |nil:CTs sc N [] []
 |cons{i:Nat}{x:ay}{p:Pos}{tg:List (Nat×ay)}{es:List Sd}(h1:N[i]?=aa x)(h2:oN sc x=ah)(r:CTs sc N tg es):CTs sc N ((i,x)::tg) (.Name x p::es)
inductive CT(sc:TV)(N:List ay):List (Nat×ay)->Sd->Prop
 |one{i:Nat}{x:ay}{p:Pos}(h1:N[i]?=aa x)(h2:oN sc x=ah):CT sc N [(i,x)] (.Name x p)
 |aC{tg:List (Nat×ay)}{es:List Sd}{p:Pos}{k:Nat}(q:Nat.ble 2 tg.length=ah)(h:CTs sc N tg es):CT sc N tg (.Tuple es k p)
section
def RS.set{K:RQ}(S:RS P w K m H σ s)(r:RW P w K m H v z):RS P w K m H (σ.set i (aa v)) (s.set i (aa z)):=by
 refine⟨by simp[S.len],λj y e=>?_⟩
 by_cases c:i=j
 ·subst c;have B:i<s.length:=by
   rcases Sq i s.length with q|q
   exact q;rw[Si (by simpa using q)]at e;exact cU e
  rw[SN B]at e;cases e;exact⟨v,by rw[SN (by rw[S.len];exact B)],r⟩
 ·rw[Sy c]at e;obtain⟨u,J,D⟩:=S.get j y e;exact⟨u,by rw[Sy c];exact J,D⟩
def oO(O:Ok X F G sc N)(h:oN sc x=ah):L2.Loc X.env.scope x:=by
 rw[O.hsc];unfold oN at h;unfold L2.Loc;cases e:sc.names.lookup x with
 |none=>rw[e]at h;exact aS h
 |some k=>rw[e]at h;cases k<;>first|(exact .inl rfl)|(exact .inr rfl)|exact aS h
def wV(h:kP e=ah):∀x,foldedSetIterable e env x=pure x:=by intro x;cases e<;>first|rfl|exact aS h
def GOk(X:Cx)(tg:List (Nat×ay))(g:TG):Prop:=∀(m:List az)(H:Hp)(B:L2.St)(s:bx) (x:V) (d:aM) (D:List aM) (Q:L2.St->Hp->Prop),RS X.prog X.w X.K m H B s->RD X.K m H x d->bf tg.length d=aa D →
 (∀q,RS X.prog X.w X.K m H q (BT.sets tg D s)->Q q H)->g x B H Q
def Qe(K:RQ)(n:Nat)(t:TGs):TG:=λv B H Q=>∃a q,v=.ref a/\(SqT K H a q\/LL K H a q)/\q.length=n/\t q B H Q
def Jm{X:Cx}{es:List Sd}{k:Nat}{t:TGs}{n:Nat}{pos:Pos}(U:X.calm=ah)(h:PGs X es t)(hn:(UT es X.env).length=n)(q:(UT es X.env).findIdx? (·.1)=af):PG X (.Tuple es k pos) (Qe X.K n t):=by
 intro D s B H v u Q I r hw;obtain⟨a,M,rfl,L|L,O,hw⟩:=hw;exact Hq U h hn q D s B H _ u Q I r ⟨a,M,rfl,L,O,hw⟩
 ·cases r;obtain⟨z,J,f,V,Y,e⟩:=rdL I L;rw[assign_Tuple];refine RP (WY ?_);unfold unpack;rw[hn,q];refine RP (Tf ?_);have sz:n=J.toArray.size:=by rw[RZ,←O];exact Y
  rw[sz];refine PySem.W.kun_itemsOf (I.ok.hd U) ⟨_,e,rfl,_,rfl⟩ λc Z=>?_;have d:Inv X D B H {s with heap:=c}:=I.aH (t':=s.toks) λb o e=>Z b o (SA (R6 e)) e;exact h D _ B H M _ Q d (by simpa using V) hw
inductive GsO(X:Cx)(tg:List (Nat×ay))(es:List Sd):Prop
 |mk(q:TGs)(h:PGs X es q)(hn:(UT es X.env).length=tg.length)(B:(UT es X.env).findIdx? (·.1)=af)
  (ok:∀(m:List az)(H:Hp)(σ:L2.St)(s:bx) (vs:List V) (ds:List aM) (Q:L2.St->Hp->Prop),RS X.prog X.w X.K m H σ s->RDs X.K m H vs ds->ds.length=tg.length->(∀σ',RS X.prog X.w X.K m H σ' (BT.sets tg ds s)->Q σ' H)->q vs σ H Q):GsO X tg es
def Qf{X:Cx}{sc:TV}{N:List ay}(O:Ok X F G sc N){tg:List (Nat×ay)}{es:List Sd}(h:CTs sc N tg es)(M:∀q∈tg,X.fn q.2=ah\/X.env.scope.names.lookup q.2=aa .local):GsO X tg es:=by
 induction h with
 |nil =>
  refine⟨Lk,DM,rfl,rfl,λm H L s B J Q S r D q=>?_⟩;cases r with
  |nil=>exact⟨rfl,q _ S⟩|cons _ _=>cases D
 |@cons i x p tg es a Z r U =>
  obtain⟨b,Y,hn,V,ok⟩:=U λq W=>M q (Sb _ W);refine⟨_,zO (vP (i:=i) O.nd (by rw[O.hN];exact a) (oO O Z) (M (i,x) (by simp))) Y,bR (·+1) hn,?_,λm H L s B J Q S r D q=>?_⟩
  ·show((ai,Xx (.Name x p) X.env)::UT es X.env).findIdx? (·.1)=af;rw[List.findIdx?_cons];show(if ai=ah then _ else _)=_;rw[bK (by decide),V];rfl
  ·cases r with
   |nil=>cases D|@cons v d B J ra t=>exact⟨v,B,rfl,ok m H (L.set i (aa v)) (s.set i (aa (.p d))) B J Q (S.set (.p ra)) t (Nat.succ.inj D) q⟩
def sCT(O:Ok X F G sc N)(W:X.calm=ah)(h:CT sc N tg te)(J:∀q∈tg,X.fn q.2=ah\/X.env.scope.names.lookup q.2=aa .local):∃g,PG X te g/\GOk X tg g:=by
 cases h with
 |@one i x p Y L =>
  refine⟨_,vP (i:=i) O.nd (by rw[O.hN];exact Y) (oO O L) (J (i,x) (by simp)),?_⟩;intro m H D s v d Z Q S r e q;simp only[Sh,SW,WS,BT.lE]at e;cases e;exact q _ (S.set (.p r))
 |@aC tg f p k U h =>
  obtain⟨b,V,hn,M,ok⟩:=Qf O h J;refine⟨_,Jm (n:=tg.length) W V hn M,?_⟩;intro m H D s v d Z Q S r e q;have L:=Yo U;unfold bf at e;rw[bK (by lia)]at e;cases r with
  |@aC a B dd h r =>
   rw[BT.tw]at e;obtain⟨c,e⟩:=dw e;subst e;exact⟨a,B,rfl,.inl (h.elim (λq=>.inl q.1) λ⟨o,its,n,q,_⟩=>.inr ⟨o,its,n,q⟩),by rw[r.length];exact c,ok m H D s B _ Q S r c q⟩
  |@aB a B dd h r =>
   rw[BT.sZ]at e;obtain⟨c,e⟩:=dw e;subst e;exact⟨a,B,rfl,.inr (h.elim (λq=>.inl q.1) .inr),by rw[r.length];exact c,ok m H D s B _ Q S r c q⟩
  |_=>exact cU e
end
end BS
end
section
namespace BC
open PySem
section
def yV{target:Sd}(I:Nat->RV->Prop)
(turn:∀ n s,I n s->av (Su prog w) A (Vy it) (λr B=>match r with
  |none=>R (.ok .next) B
  | some v=>av (Su prog w) A (Wo target it v) (λ_ s₀=>av (Su prog w) A (Xx target env v) (λ_ M =>
   av (Su prog w) A (forIn ifs ah λc r=>if r=ah then do let ok ← isTrue c env (eval c env);pure (VJ ok) else pure (VJ r)) (λok q =>
    if ok=ah then av (Su prog w) A (eval elt env) (λx L =>
     av (Su prog w) A (call (.builtin "list.append") [acc,x]) (λ_ J=>∃ m,m < n/\I m J) (λ_ _=>False) L) (λ_ _=>False) q
    else ∃ m,m < n/\I m q) (λ_ _=>False) M) (λ_ _=>False) s₀) (λ_ _=>False) B) (λ_ _=>False) s)
(n:Nat)(h:I n s):ak (Su prog w) A (.compLoop (.ListComp elt [⟨target,iter,ifs,0⟩] scope pos) 0 it acc env) R s:=by
 refine codeAny_loop rfl I (λn s a=>?_) n h;show av _ A ((compTurn (.ListComp elt [⟨target,iter,ifs,0⟩] scope pos) 0 it acc env).onRaise (λx=>do noteFrame x env;theTreesLotGoes x)) _ _ s;refine wpAny_noted ?_;rw[compTurn_list];refine RP (WY (RP (Uy (turn n s a) (λr B U=>?_) λ_ _ D=>D.elim)));cases r with
 |none=>exact au U
 |some v =>
  refine RP (Uy U (λ_ s₀ V=>?_) λ_ _ D=>D.elim);refine RP (Uy V (λ_ M Z=>RP (Uy Z (λok q O=>?_) λ_ _ D=>D.elim)) λ_ _ D=>D.elim);cases ok with
  |false=>exact au ⟨rfl,O⟩
  |true =>
   exact RP (RP (Uy O (λx L Y=>RP (Uy Y (λ_ J W=>au (au ⟨rfl,W⟩)) λ_ _ D=>D.elim)) λ_ _ D=>D.elim))
end
noncomputable def jf(cells:List (ay×az)):List (ay×Vd)->List (ay×az)->List (ay×az)
 |[],acc=>acc
 |(n,k)::r,acc=>if k==.free then(match cells.lookup n with|some c=>jf cells r ((n,c)::acc)|none=>jf cells r acc)else jf cells r acc
def vf(cells:List (ay×az))(names:List (ay×Vd)):Prop:=∀x∈names,x.2=.free->∃c,cells.lookup x.1=aa c
theorem oQ:∀(names:List (ay×Vd)) (q:List (ay×az)),vf env.cells names →
 (forIn names q λx (r:List (ay×az))=>(if x.2==.free then do let c ←cellOf env x.1;pure (VJ ((x.1,c)::r))else pure (VJ r):Sem (ForInStep (List (ay×az)))))=pure (jf env.cells names q)
 |[],q,_=>rfl
 |(n,k)::r,q,h=>by
  have B:=λq=>oQ (env:=env) r q λx D=>h x (Sb _ D);rw[V3]
  by_cases c:k=.free
  ·subst c;obtain⟨a,e⟩:=h (n,.free) Sj rfl;have e:env.cells.lookup n=aa a:=e;simp only[jf,e];show(cellOf env n >>= _) >>= _=_;unfold cellOf;rw[e];exact B _
  ·have J:(k==T8)=ai:=by simpa using c
   simp only[jf,J];exact B _
def mE{q B:Type}{m m':Sem q}{f:q->Sem B}(h:m=m'):(m >>= f)=(m' >>= f):=by rw[h]
def vg{q:TV}{env:Env}(h:vf env.cells q.names):closureFor q env=pure (jf env.cells q.names []):=by have:=oQ (env:=env) q.names [] h;unfold closureFor;exact(mE this).trans rfl
theorem rD:∀{names:List (ay×Vd)}{B:List (ay×az)},(∀x c,B.lookup x=aa c->cells.lookup x=aa c)->∀x c,(jf cells names B).lookup x=aa c->cells.lookup x=aa c
 |[],B,h,x,c,e=>h x c e
 |(n,k)::r,B,h,x,c,e=>by
  rw[jf]at e;split at e
  ·split at e
   ·rename_i a J;refine rD (λy b q=>?_) x c e;rw[Uk]at q;split at q
    ·rename_i D;have:y=n:=by simpa using D
     subst this;cases q;exact J
    exact h y b q
   exact rD h x c e
  exact rD h x c e
theorem nt:∀{names:List (ay×Vd)}{q:List (ay×az)},(∃c,q.lookup x=aa c)->∃c,(jf cells names q).lookup x=aa c
 |[],q,h=>h
 |(n,k)::r,q,h=>by
  rw[jf];split
  ·split
   ·refine nt ?_;rw[Uk];split;exact⟨_,rfl⟩;exact h
   exact nt h
  exact nt h
theorem rE:∀{names:List (ay×Vd)}{B:List (ay×az)},(x,T8)∈names->(∃c,cells.lookup x=aa c)->∃c,(jf cells names B).lookup x=aa c
 |[],B,h,_=>nomatch h
 |(n,k)::r,B,h,q=>by
  rw[jf];rcases List.mem_cons.mp h with e|e
  ·cases e;obtain⟨c,D⟩:=q;rw[bJ (by rfl),D];refine nt ?_;exact⟨c,by simp⟩
  ·split
   ·split;exact rE e q;exact rE e q
   exact rE e q
end BC
end
section
namespace BS
open PySem PySem.Spec PyProof.Rows L2
variable{cond:aY}
def oR(F:FT)(G:ay->Option aN)(sc:TV)(N:List ay)(cond:aY)(q:List Sd):Prop :=
 (cond=.nil/\q=[])\/∃c D,cond=.cons c .nil/\q=[D]/\∀B,Ok B F G sc N->PT B D (tDT B F G c)
structure tU(sc:TV)(N tg:List ay)(fv:List (Nat×ay))(scope:TV):Prop where
 k1:scope.kind=.function
 k2:sc.kind=.function
 cell:∀y∈scope.names,y.2≠.cell
 loc:∀y∈scope.names,y.2=.local->scope.names.lookup y.1=aa .local
 free:∀y∈scope.names,y.2=.free->sc.names.lookup y.1=aa .cell
 fvs:∀q∈fv,N[q.1]?=aa q.2/\(q.2,T8)∈scope.names/\sc.names.lookup q.2=aa .cell/\(eB scope sc).names.lookup q.2=aa .cell
 nd:(tg++fv.map (·.2)).Nodup
theorem qw:∀{l:List ay},oq l=ah->l.Nodup
 |[],_=>We
 |x::r,h=>by simp only[oq,RX,WE]at h;refine List.nodup_cons.mpr ⟨λz=>?_,qw h.2⟩;have:=h.1;simp[z]at this
def M5(h:kQ sc N tg fv scope=ah):tU sc N tg fv scope:=by
 simp only[kQ,RX]at h;obtain⟨⟨⟨⟨⟨⟨W,V⟩,M⟩,L⟩,J⟩,D⟩,U⟩:=h;rw[Uz]at M L J D;refine⟨bQ W,bQ V,λy B e=>?_,λy B e=>?_,λy B e=>?_,λq O=>?_,qw U⟩
 ·have:=M y B;rw[e]at this;simp at this
 ·have:=L y B;rw[e]at this;simpa using this
 ·have:=J y B;rw[e]at this;simpa using this
 ·have:=D q O;simp only[RX]at this;obtain⟨⟨⟨a,b⟩,c⟩,d⟩:=this;exact⟨by simpa using a,by simpa using b,by simpa using c,by simpa using d⟩
theorem kR{sc:TV}{x:ay}{k:Vd}(M:k=.cell\/k=.free):∀{names:List (ay×Vd)},(∀y∈names,y.2≠.cell) →
 (names.map λ(n,k)=>if(k==T8&&sc.kind==.function&&sc.names.lookup n==aa .cell)then(n,Wc)else(n,k)).lookup x=aa k->(x,T8)∈names
 |[],_,h=>by simp at h
 |(n,q)::r,hc,h=>by
  have U:=kR (sc:=sc) (x:=x) M (names:=r) λy V=>hc y (Sb _ V);replace h:UV x ((if(q==T8&&sc.kind==.function&&sc.names.lookup n==aa .cell)=ah then(n,Wc)else(n,q))::(r.map λ(n,k)=>if(k==T8&&sc.kind==.function&&sc.names.lookup n==aa .cell)then(n,Wc)else(n,k)))=aa k:=h;have O:∀(B:Vd),(B=q\/(B=.cell/\q=.free))->UV x ((n,B)::(r.map λ(n,k)=>if(k==T8&&sc.kind==.function&&sc.names.lookup n==aa .cell)then(n,Wc)else(n,k)))=aa k->(x,T8)∈(n,q)::r:=by
   intro B W D;rw[Uk]at D;split at D
   ·rename_i J;have J:x=n:=by simpa using J
    subst J;have e:B=k:=Sa D;have L:q=.free:=by
     rcases W with rfl|⟨_,e2⟩
     ·rcases M with z|z
      exact bL (e.trans z) (hc (x,B) Sj);exact e.trans z
     exact e2
    rw[L];exact Sj
   exact Sb _ (U D)
  by_cases c:(q==T8&&sc.kind==.function&&sc.names.lookup n==aa .cell)=ah
  ·rw[bJ c]at h;refine O .cell (.inr ⟨rfl,?_⟩) h;simp only[RX]at c;exact bQ c.1.1
  ·rw[bK c]at h;exact O q (.inl rfl) h
def blk(X:Cx)(B:List ay)(s2:RV)(H1:Hp)(q:TV)(C:az)(fp:List az):Cx :=
 {X with N:=B,s₀:=s2,H₀:=H1,env:=YH q (BC.jf X.env.cells q.names []) C X.env,outer:=X.stack,stack:=X.stack,ex:=fp,fn:=λ_=>ai,pn:=[],xe:=λ_ _=>False}
section
variable{X:Cx}{F:FT}{G:ay->Option aN}{sc:TV}{N:List ay}{zt:List (az×ao)}{σ:L2.St}{H1:Hp}{s2:RV}
def mT{q:TV}{x:ay}{c:az}(e:(BC.jf X.env.cells q.names []).lookup x=aa c):X.env.cells.lookup x=aa c :=
 BC.rD (λ_ _ z=>by simp at z) x c e
def tV(q:X.env.scope=sc)(x:ay):(YH scope (BC.jf X.env.cells scope.names []) C X.env).kindOf x=(eB scope sc).names.lookup x:=by subst q;rfl
def wW(J:Inv X zt σ H1 s2)(q:X.env.scope=sc)(D:tU sc N tg fv scope)(B:(x,T8)∈scope.names):∃c,(BC.jf X.env.cells scope.names []).lookup x=aa c:=by refine BC.rE B (J.ok.has x (.inl ?_));have:=D.free _ B rfl;rw[←q]at this;exact this
theorem Jo(B:Inv X zt σ H1 s2)(J:X.env.scope=sc){scope:TV}{tg:List ay}{Y:List (Nat×ay)}(M:tU sc N tg Y scope){Z:List ay}{C:az}{fp:List az}(V:C=s2.heap.objs.size+1)
(L:∀b∈fp,pL X zt H1 b)(U:∀b∈fp,b<s2.heap.objs.size):(blk X Z s2 H1 scope C fp).Ok where
 mod:=B.ok.mod
 kind:=M.k1
 glob:=B.ok.glob
 blt:=B.ok.blt
 above:=by show s2.heap.objs.size<=C;rw[V];exact T3 _
 inj:=λx y c a b=>B.ok.inj x y c (mT a) (mT b)
 has:=λx W=>by
  refine wW B J M ?_;have O:(eB scope sc).names.lookup x=aa .cell\/(eB scope sc).names.lookup x=aa .free:=by rw[←tV J (C:=C)];exact W
  rcases O with e|e
  exact kR (.inl rfl) M.cell e;exact kR (.inr rfl) M.cell e
 cab:=λx c z=>by cases z
 hd:=B.ok.hd
 frames:=B.ok.frames
 stk:=.inl rfl
 exf:=λb D=>⟨λz=>by have l:=U b D;have z:b=C:=z;rw[z,V]at l;exact bL l (Nat.not_lt.mpr (T3 _)),λx c e=>(L b D).2.2.2.2.1 x c (mT e)⟩
 bs:=B.bs
 bsz:=SK B.ok.bsz B.sz
 noex:=λb o e D=>by
  have q:=(B.ok.bs b o e).1;rcases (L b D).2.2.2.1 with z|z
  exact B.ok.noex b o e z;exact bL (R6 q) (Nat.not_lt.mpr z)
 exfs:=λb D z=>by
  rcases List.mem_cons.mp (B.qH b z)with e|e
  exact(L b D).2.1 e;exact(L b D).2.2.1 e
 lY:=B.stack
 frf:=B.vM
end
noncomputable def lobj(us:List aA)(n:Nat):ao:={cls:=.type "list",data:=.seq us.toArray n}
section
variable{X:Cx}{F:FT}{G:ay->Option aN}{sc:TV}{N:List ay}{zt:List (az×ao)}{σ:L2.St}{H1:Hp}{s2:RV}
noncomputable def kT(n:Nat)(σ:L2.St)(B:List (Nat×ay)):L2.St:=Sw n af++B.map λq=>(σ[q.1]?).getD af
theorem E7(D:Inv X zt σ H1 s2)(B:X.env.scope=sc)(t:X.N=N)(a:tU sc N tg fv scope)(Y:C=s2.heap.objs.size+1)
(s:∀b∈fp,pL X zt H1 b)(U:∀b∈fp,b<s2.heap.objs.size)(J:∀b o,s2.heap.get? b=aa o->h1.get? b=aa o)(O:h1.Ns C m)(w:h1.get? s2.heap.objs.size=aa (lobj [] 0)):
 Inv (blk X (tg++fv.map (·.2)) s2 H1 scope C fp) [(s2.heap.objs.size,lobj [] 0)] (kT tg.length σ fv) H1 {s2 with heap:=h1,toks:=tk} where
 ok:=Jo D B a Y s U
 os:=rfl
 bare:=D.bare
 base:=Un.aH J
 loc:=by
  refine⟨m,O,λi x v e1 e2 G=>?_⟩;have e1:(tg++fv.map (·.2))[i]?=aa x:=e1;unfold kT at e2
  by_cases c:i<tg.length
  ·rw[RU (by simpa using c),U4,bJ c]at e2;cases e2
  ·rw[SS (by simpa using c)]at e2;rw[SS (by simpa using c)]at e1;simp only[Ve,Sv]at e1 e2;cases g:fv[i-tg.length]? with
   |none=>rw[g]at e1;exact cU e1
   |some q =>
    rw[g]at e1 e2;simp only[VU,Vt]at e1 e2;subst e1;obtain⟨E,A,f,y⟩:=a.fvs q (Sg g);have Z:σ[q.1]?=aa (aa v):=by
     cases d:σ[q.1]? with
     |none=>rw[d]at e2;exact cU e2|some o=>rw[d]at e2;simp only[YQ]at e2;rw[e2]
    obtain⟨F,r,V⟩:=D.loc;obtain⟨u,h,j⟩:=V q.1 q.2 v (by rw[t];exact E) Z (by rw[B];exact .inr (.inl f));refine⟨u,h,?_⟩;have l:X.env.kindOf q.2=aa .cell:=by show X.env.scope.names.lookup q.2=_;rw[B];exact f
    rcases j with⟨k,_⟩|⟨k,c,ec,o,L,W⟩
    rw[l]at k;cases k
    ·obtain⟨H,M⟩:=wW D B a A;have:=mT M;rw[ec]at this;cases this;refine .inr ⟨.inl ?_,c,M,o,J c o L,W⟩;show(YH scope (BC.jf X.env.cells scope.names []) C X.env).kindOf q.2=_;rw[tV B];exact y
 cell:=λx c e=>by obtain⟨v,o,L,W⟩:=D.cell x c (mT e);exact⟨v,o,J c o L,W⟩
 free:=D.aJ.fresh (by show s2.heap.objs.size<=C;rw[Y];exact T3 _)
 freeC:=λx c e=>D.freeC x c (mT e)
 pin:=λp n=>by
  have e:p=(s2.heap.objs.size,lobj [] 0):=by have:p∈[]++[(s2.heap.objs.size,lobj [] 0)]:=n;simpa using this
  subst e;refine⟨w,D.aJ.fresh (R0 _),?_,?_,λv z=>by cases (show Data.seq _ _=Data.cell v from z)⟩
  ·show s2.heap.objs.size≠C;rw[Y];exact SA (Ul _)
  ·intro z;obtain⟨_,o,L,_⟩:=D.stack.mem z;exact bL (R6 L) (To _)
 aJ:=D.aJ.aH J
 len:=by show(kT tg.length σ fv).length=(tg++fv.map (·.2)).length;simp[kT]
end
noncomputable def tgF:Nat->List ay->List (Nat×ay)
 |_,[]=>[]|k,x::r=>(k,x)::tgF (k+1) r
noncomputable abbrev tgI(tg:List ay):List (Nat×ay):=tgF 0 tg
theorem rF:∀(tg:List ay)(k:Nat),(tgF k tg).length=tg.length
 |[],_=>rfl|_::r,k=>bR (·+1) (rF r (k+1))
theorem wX{q:Nat×ay}:∀{tg:List ay}{k:Nat},q∈tgF k tg->q.2∈tg
 |x::r,k,h=>by
  rcases List.mem_cons.mp h with rfl|h
  exact Sj;exact Sb _ (wX h)
def wY(h:nmE te=aa x):∃p,te=.Name x p:=by
 cases te with
 |Name y p=>cases h;exact⟨p,rfl⟩|_=>exact bL (show(af:Option ay)=aa _ from h) (λz=>nomatch z)
def B9(h:II te=a::l):∃k p,te=.Tuple (a::l) k p:=by
 cases te with
 |Tuple q k p=>cases h;exact⟨k,p,rfl⟩|_=>exact bL (show([]:List Sd)=_::_ from h) (λz=>nomatch z)
theorem Ca{sc:TV}{fs:List ay}:∀(tg:List ay){pre:List ay}{es:List Sd},tg.map aa=es.map nmE->(∀x∈tg,oN sc x=ah)->CTs sc (pre++(tg++fs)) (tgF pre.length tg) es
 |[],pre,es,e,_=>by
  cases es with
  |nil=>exact .nil|cons _ _=>cases e
 |x::r,pre,es,e,h=>by
  cases es with
  |nil=>cases e
  |cons a es =>
   obtain⟨p,rfl⟩:=wY (XS e).symm;have q:=Ca (fs:=fs) r (pre:=pre++[x]) (List.tail_eq_of_cons_eq e) λy B=>h y (Sb _ B);rw[Tg,Sz]at q;exact .cons (by simp) (h x Sj) q
def E8(h:tK sc tg te=ah):CT sc (tg++fs) (tgI tg) te/\(tgI tg).length=tg.length/\∀q∈tgI tg,sc.names.lookup q.2=aa .local:=by
 have st:∀{x:ay},sc.names.lookup x=aa .local->oN sc x=ah:=λe=>by unfold oN;rw[e]
 unfold tK at h;rw[RX,UK,RX,Uz]at h;obtain⟨h,J⟩:=h;have lo:∀{x},x∈tg->sc.names.lookup x=aa .local:=λ{x} B=>bQ (J x B);rcases h with h|⟨h1,h2⟩
 ·have e:=bQ h;cases tg with
  |nil=>exact bL (bR Xe e) (by simp)
  |cons x r =>
   cases r with
   |cons _ _=>exact bL (bR Xe e) (by simp)
   |nil =>
    obtain⟨p,rfl⟩:=wY (XS e).symm;have l:sc.names.lookup x=aa .local:=lo Sj;exact⟨.one rfl (st l),rfl,λq D=>by rw[List.mem_singleton.mp D];exact l⟩
 ·have e:=bQ h2;cases g:II te with
  |nil=>rw[g]at e;cases tg with
   |nil=>exact aS h1|cons _ _=>cases e
  |cons a l =>
   rw[g]at e;obtain⟨k,p,rfl⟩:=B9 g;exact⟨.aC (by rw[rF];exact h1) (Ca (pre:=[]) tg e λx B=>st (lo B)),rF _ _,λq D=>lo (wX D)⟩
theorem wZ:∀(tg:List ay)(k:Nat)(ds:List aM)(q:bx),ds.length=tg.length->k+tg.length<=q.length->BT.sets (tgF k tg) ds q=q.take k++(ds.map BT.fc++q.drop (k+tg.length))
 |[],k,ds,q,h,_=>by cases List.length_eq_zero_iff.mp h;exact(Ye k q).symm
 |x::r,k,ds,q,h,hl=>by
  cases ds with
  |nil=>cases h
  |cons d ds =>
   rw[Sh]at hl;have kl:k<q.length:=by lia
   show BT.sets (tgF (k+1) r) ds (q.set k (aa (.p d)))=_;rw[wZ r (k+1) ds _ (Nat.succ.inj h) (by rw[TH];lia),List.drop_set_of_lt (by lia),List.take_succ,SN kl,List.take_set,List.set_eq_of_length_le (by rw[VS];lia),Tg,show k+1+r.length=k+(x::r).length by rw[Sh];lia];rfl
def vh{n:Nat}{d:aM}{ds:List aM}(h:bf n d=aa ds):ds.length=n:=by
 unfold bf at h
 by_cases c:n=1
 rw[bJ c]at h;cases h;exact c.symm
 ·rw[bK c]at h;cases d with
  |aC q=>rw[BT.tw]at h;obtain⟨c,h⟩:=dw h;rw[←h];exact c|aB q=>rw[BT.sZ]at h;obtain⟨c,h⟩:=dw h;rw[←h];exact c|_=>exact cU h
def E9(h:(tgI tg).length=tg.length)(L:tg≠[])(D:bf tg.length d0=aa ds)(J:sl.length=tg.length+fs.length)(B:sl.drop tg.length=fs):
 BT.sets (tgI tg) ds sl=ds.map BT.fc++fs/\(ds.map BT.fc++fs).length=tg.length+fs.length/\(ds.map BT.fc++fs).drop tg.length=fs:=by
 have hn:=vh D;have g:=wZ tg 0 ds sl hn (by lia);rw[WS,B]at g;have q:(ds.map BT.fc).length=tg.length:=by rw[Se];exact hn
 exact⟨g,by rw[Sz,q],by rw[←q];exact List.drop_left⟩
theorem mF:∀{B:List (Nat×ay)}{fs:bx},BT.frees s B=aa fs->fs.length=B.length/\∀(i:Nat)(q:Nat×ay),B[i]?=aa q->fs[i]?=s[q.1]?
 |[],fs,e=>by simp[BT.frees]at e;subst e;exact⟨rfl,λi q z=>by simp at z⟩
 |q::r,fs,e=>by
  simp only[BT.frees]at e;cases g:s[q.1]? with
  |none=>rw[g]at e;exact cU e
  |some w =>
   rw[g]at e;obtain⟨L,e1,e2⟩:=dh e;subst e2;obtain⟨J,D⟩:=mF e1;refine⟨by simp[J],λi p z=>?_⟩;cases i with
   |zero=>simp at z;subst z;simp[g]|succ i=>simpa using D i p (by simpa using z)
def yW{K:RQ}(S:RS P w K m H σ s)(J:BT.frees s fv=aa fs):RS P w K m H (kT n σ fv) (Sw n af++fs):=by
 obtain⟨q,L⟩:=mF J;refine⟨by simp[kT,q],λi y e=>?_⟩
 by_cases c:i<n
 ·rw[RU (by simpa using c),U4,bJ c]at e;cases e
 ·rw[SS (by simpa using c)]at e;simp only[Ve]at e;have D:i-n<fv.length:=by
   rw[←q];rcases Sq (i-n) fs.length with z|z
   exact z;rw[Si z]at e;exact cU e
  have g:=RY D;rw[L _ _ g]at e;obtain⟨v,B,r⟩:=S.get _ _ e;refine⟨v,?_,r⟩;unfold kT;rw[SS (by simpa using c)];simp only[Ve,Sv,g,VU,B,YQ]
def Fb{rest:List aM}(e:BT.d7 f n (d::r) h=aa (rest,h2)):
 ∃xs o B q,bf n d=aa xs/\f xs h=aa (o,B)/\BT.d7 f n r B=aa (q,h2)/\rest=(match o with|some x=>x::q|none=>q):=by
 rw[BT.d7]at e;cases g:bf n d with
 |none=>rw[g]at e;exact cU e
 |some xs =>
  rw[g]at e;obtain⟨o,B,e1,e2⟩:=c5 e;unfold BT.AM at e2;obtain⟨q,L,J,D⟩:=c5 e2;unfold BT.wk at D;cases D;exact⟨xs,o,B,q,rfl,e1,J,rfl⟩
theorem Un.behind(u:Un fs ex H H' h h1)(a:∀b,b<h.objs.size->H2 b=H' b)(lt:∀b o,H b=aa o->b<h.objs.size)(k:∀b o,b<h.objs.size->h1.get? b=aa o->h2.get? b=aa o):Un fs ex H H2 h h2 where
 keep:=λb o e n c d=>k b o (R6 e) (u.keep b o e n c d)
 slot:=λb o e n c d=>by obtain⟨J,q⟩:=u.slot b o e n c d;exact⟨J,k b _ (R6 e) q⟩
 free:=λb o e n d=>by rw[a b (R6 e)];exact u.free b o e n d
 there:=λb o e d=>by obtain⟨B,q⟩:=u.there b o e d;exact⟨B,k b B (R6 e) q⟩
 tups:=λb D e=>by rw[a b (lt b _ e)];exact u.tups b D e
 frzs:=λb o w e=>by rw[a b (lt b _ e)];exact u.frzs b o w e
 tbls:=λb L e=>by rw[a b (lt b _ e)];exact u.tbls b L e
section
theorem Jp(O:Ok X F G sc N)(hu:f7 N=ah)(q:tU sc N tg fv scope):
 Ok (blk X (tg++fv.map (·.2)) s2 H1 scope C fp) F G (eB scope sc) (tg++fv.map (·.2)) where
 hsc:=by have:=O.hsc;subst this;rfl
 hN:=rfl
 nd:=q.nd
 calm:=λ_=>O.calm hu
 hu:=O.hu
 own:=Ym
 glob:=O.glob
 call:=O.call
 aF:=O.aF
 mkc:=O.mkc
 blt:=O.blt
 lam:=O.lam
 lamx:=λh=>bL (show ai=ah from h "") (by decide)
def Cb(e:BT.oh mu sr n (aa fs) ec ee ws h=aa z)(g:(aR ws h).bind (BT.gH sr)=aa ds):
 wQ sr ws/\∃M,(∀xs h r,M xs h=aa r->BT.fz ec ee fs xs h=aa r/\rB ws ds r.2)/\rB ws ds h/\bB (BT.d7 M n ds h) (BT.jb mu)=aa z:=by
 unfold BT.oh at e;rw[g]at e;simp only at e
 by_cases B:BT.jM ws=ah
 ·rw[bJ B]at e;exact⟨.inl B,_,λxs h r q=>⟨q,oK B⟩,oK B,e⟩
 ·rw[bK B]at e;have two:sr=.seq/\∃q,ws=[.r q]:=by unfold BT.uV at e;split at e;exact⟨rfl,_,rfl⟩;exact cU e
  obtain⟨rfl,q,rfl⟩:=two;rw[BT.AQ]at e;have U:bg h q=aa ds:=by
   simp only[aR,aW,VU]at g;cases L:bg h q with
   |none=>rw[L]at g;exact cU g|some xs=>rw[L]at g;cases g;rfl
  refine⟨.inr ⟨rfl,q,rfl⟩,_,λxs h r q=>?_,λO D=>by cases D;exact U,e⟩;unfold BT.chk at q;cases J:BT.fz ec ee fs xs h with
  |none=>rw[J]at q;exact cU q
  |some V =>
   rw[J]at q;simp only at q;split at q
   ·rename_i c;cases q;exact⟨rfl,λO D=>by cases D;exact c⟩
   exact cU q
inductive LI(X:Cx)(F:FT)(G:ay->Option aN)(scope:TV)(tg:List ay)(fv:List (Nat×ay))(cond:aY)(elt:aV)(s2:RV)(H1:Hp)(C:az)(fp:List az)(tn:Nat->aq->Prop)(m1:List az)(ds outs:List aM)(fs:bx)(h2:aO)(f':List aM->aO->Option (Option aM×aO))(Cc:aO->Prop)(n:Nat)(s:RV):Prop
 |mk(i:Nat)(D:L2.St)(H':Hp)(m':List az)(q:aO)(out rest:List aM)(vs:List V)(us:List aA)(O:Nat)(B:bx)(Y:i<=ds.length)(p1:n=ds.length-i)(p2:Inv (blk X (tg++fv.map (·.2)) s2 H1 scope C fp) [(s2.heap.objs.size,lobj us O)] D H' s)(p3:tn i s.heap)(p4:(∀b∈fp,H' b=af))(Z:Ext m1 H1 m' H')(p6:RH X.K m' H' q)(p7:RS X.prog X.w X.K m' H' D B)(p8:B.length=tg.length+fs.length)(p9:B.drop tg.length=fs)(M:dg vs us)(L:RDs X.K m' H' vs out)(J:BT.d7 f' tg.length (ds.drop i) q=aa (rest,h2))(U:out++rest=outs)(W:Cc q):LI X F G scope tg fv cond elt s2 H1 C fp tn m1 ds outs fs h2 f' Cc n s
structure Apart(X:Cx)(zt:List (az×ao))(H:Hp)(C:az):Prop where
 fr:H C=af
 lo:C≠X.env.locals
 ab:X.s₀.heap.objs.size<=C
 ce:∀x c,X.env.cells.lookup x=aa c->c≠C
 pi:∀p∈X.pn++zt,p.1≠C
def qx(O:Ok X F G sc N)(hu:f7 N=ah)
(hk:kQ sc N tg fv scope=ah)(ht:tK (eB scope sc) tg te=ah)(hset:kP iter=ah)(hI:PI X te iter (iD X F G sr sa))(hC:oR F G (eB scope sc) (tg++fv.map (·.2)) cond ifs)
(hE:∀X',Ok X' F G (eB scope sc) (tg++fv.map (·.2))->PE X' elt' (tD X' F G elt)):∀(zt:List (az×ao)) (s:RV) (σ:L2.St) (H:Hp) (Q:VK) (use:Option (aA->Sem Unit)) (Q':aA->RV->Prop),Inv X zt σ H s->tD X F G (.comp mu sr sa tg fv cond elt) σ H Q →
 (∀(Z:RV)(H6:Hp)(C D:az)(m:ay->Option aA),Inv X zt σ H6 Z->Z.heap.Ns C m->Apart X zt H6 C->Q (.ref D) H6->compPost (Su X.prog X.w) X.A X.xe use Q' (.ref D) C (.ok .next) Z) →
 av (Su X.prog X.w) X.A (comprehension (.ListComp elt' [⟨te,iter,ifs,0⟩] scope pos) scope X.env (firstIterPos [⟨te,iter,ifs,0⟩] pos) (newList []) ai (eval iter X.env) use) Q' X.xe s:=by
 have cf:=M5 hk;obtain⟨ct,tl,tloc⟩:=E8 (fs:=fv.map (·.2)) ht;have t0:tg≠[]:=by
  rintro rfl
  simp[tK]at ht
 intro zt s σ H Q use Q' I q hfin;obtain⟨m,s',h,z,h',R,S,ee,zr⟩:=q;simp only[aL]at ee;obtain⟨ws,h1,e1,e2⟩:=c5 ee;cases g1:(aR ws h1).bind (BT.gH sr)with
 |none=>unfold BT.oh at e2;rw[g1]at e2;exact cU e2
 |some W =>
  cases g2:BT.frees s' fv with
  |none=>unfold BT.oh at e2;rw[g1,g2]at e2;exact cU e2
  |some fs =>
   rw[g2]at e2;obtain⟨ca,f',hf',c1,e2⟩:=Cb e2 g1;obtain⟨L,h2,e3,e4⟩:=c5 e2;unfold BT.jb at e4
   by_cases cl:L.length<=BT.lim
   case neg=>rw[bK cl]at e4;exact cU e4
   rw[bJ cl] at e4;have ez:BT.new mu L h2=(z,h'):=Sa e4;have hfree:BC.vf X.env.cells scope.names:=λx hx e=>I.ok.has x.1 (.inl (by
    have:=cf.free x hx e;show X.env.scope.names.lookup x.1=_;rw[O.hsc];exact this))
   refine wpAny_comprehension_free (use:=use) rfl (wV hset) (BC.vg hfree) cf.k1 cf.loc
    (thn (hI zt s σ H (λJ H1=>∃m1,Ext m H m1 H1/\RH X.K m1 H1 h1/\u6 X.K J m1 H1 W (rB ws W)) I ⟨m,s',h,ws,h1,W,R,S,e1,g1,ca,λH1 m1 J x1 R1 it=>⟨m1,x1,R1,it⟩⟩) λv s1 hv=>thn hv λitv s2 h2'=>?_)
   obtain⟨it,fp,tn,J,H1,rfl,I1,T,st,hf,m1,x1,R1,ito⟩:=h2';have hlt:∀b∈fp,b<s2.heap.objs.size:=λb B=>by obtain⟨o,ho,_⟩:=T.obj 0 _ st b B;exact R6 ho
   refine SL (wpAny_newFunctionEnv cf.cell (by intro y hy;simp at hy) (λh3 hns hsb=>?_) cf.k1);dsimp only at hns hsb⊢;generalize hH2:s2.heap.push {cls:=.type "list",dict:=af,data:=.seq ([]:List aA).toArray}=H2 at hns hsb⊢;have E:H2.objs.size=s2.heap.objs.size+1:=by rw[←hH2,SY]
   have old:∀b o,s2.heap.get? b=aa o->h3.get? b=aa o:=λb o e=>hsb.extBut b o (by rw[E];exact SA (WO (R6 e))) (RT _ (hH2 ▸ RT _ e));have hacc:h3.get? s2.heap.objs.size=aa (lobj [] 0):=hsb.extBut _ _ (by rw[E];exact SA (Ul _)) (RT _ (hH2 ▸ R8 _ rfl));have I4:=E7 (tk:=s2.toks+([]:List (ay×aA)).length) I1 O.hsc O.hN cf E hf hlt old hns hacc;have O':=Jp (s2:=s2) (H1:=H1) (C:=H2.objs.size) (fp:=fp) O hu cf;obtain⟨g,hg1,hg2⟩:=sCT O' (O.calm hu) ct λq hq=>.inr (by rw[O'.hsc];exact tloc q hq);have hfl:fs.length=fv.length:=(mF g2).1;have k:∀{H':Hp}{o:ao},(∀b∈fp,H' b=af)->∀b∈fp,pL (blk X (tg++fv.map (·.2)) s2 H1 scope H2.objs.size fp) [(s2.heap.objs.size,o)] H' b:=λ{H' o} hn b B=>by
    refine⟨hn b B,?_,?_,.inl B,λx c e=>(hf b B).2.2.2.2.1 x c (mT e),λp hp=>?_⟩
    ·show b≠H2.objs.size;rw[E];exact SA (WO (hlt b B))
    ·intro a;rcases List.mem_cons.mp (I1.qH b a)with e|e
     exact(hf b B).2.1 e;exact(hf b B).2.2.1 e
    ·have hp':p=(s2.heap.objs.size,o):=by have:p∈[]++[(s2.heap.objs.size,o)]:=hp;simpa using this
     rw[hp'];show s2.heap.objs.size≠b;exact Tt (hlt b B)
   have loop:∀s4:RV,s4={s2 with heap:=h3,toks:=s2.toks+([]:List (ay×aA)).length} →
    ak (Su X.prog X.w) X.A (.compLoop (.ListComp elt' [⟨te,iter,ifs,0⟩] scope pos) 0 (.ref it) (.ref s2.heap.objs.size) (YH scope (BC.jf X.env.cells scope.names []) H2.objs.size X.env))
     (compPost (Su X.prog X.w) X.A X.xe use Q' (.ref s2.heap.objs.size) H2.objs.size) s4:=by
    rintro s4 rfl
    refine BC.yV (LI X F G scope tg fv cond elt s2 H1 H2.objs.size fp tn m1 W L fs h2 f' (rB ws W)) ?_
     W.length ⟨0,_,H1,m1,h1,[],L,[],[],0,_,Tu _,rfl,I4,T.keep 0 _ _ st (λb B o e=>old b o e),λb B=>(hf b B).1,.refl _ _,R1,yW (S.ext x1) g2,by simp,by simp,.nil,.nil,by rw[List.drop_zero];exact e3,rfl,c1⟩
    rintro n s5 ⟨i,σ5,H5,m5,hh,out,rest,vs,us,nn,sl,hi,rfl,I5,st5,fr5,x5,R5,S5,sl1,sl2,rv5,rd5,go5,ou5,cc5⟩
    by_cases c:i<W.length
    ·rw[XF c]at go5;obtain⟨xs,o,hA,t,eT,eF,eG,eR⟩:=Fb go5;obtain⟨eF,cA⟩:=hf' _ _ _ eF;refine thn (T.item (blk X (tg++fv.map (·.2)) s2 H1 scope H2.objs.size fp) rfl rfl rfl (O.calm hu) i _ s5 σ5 H5 _ I5 (k fr5) st5 (ito.go m5 H5 hh i x5 R5 cc5 c)) λr Z hr=>?_;obtain⟨u,rfl,hr⟩:=hr;refine thn hr λ_ s7 zq=>?_;obtain⟨x,H7,I7,r7,y7,st7,fr7⟩:=zq;obtain⟨x7,k7,rd7⟩:=ito.yld m5 H5 hh i x H7 W[i] x5 R5 cc5 (RY c) y7;have R7:=R5.ext x7 k7;have I7':=I7.pinned (k fr7) (T.obj _ _ st7);obtain⟨sq1,sq2,sq3⟩:=E9 tl t0 eT sl1 sl2;refine thn (hg1 _ s7 σ5 H7 x u (fun M H8=>H8=H7/\RS X.prog X.w X.K m5 H7 M (xs.map BT.fc++fs)) I7' r7 (hg2 m5 H7 σ5 sl x W[i] xs _ (S5.ext x7) rd7 (by rw[tl];exact eT) fun M S8=>⟨rfl,by rw[←sq1];exact S8⟩)) λ_ s8 h8=>?_;obtain⟨M,H8,I8,rfl,S8⟩:=h8;have aH:∀{s9:RV}{σ9:L2.St}{j:Hp},Inv (blk X (tg++fv.map (·.2)) s2 H1 scope H2.objs.size fp) ([(s2.heap.objs.size,lobj us nn)]++lZ fp s7.heap) σ9 j s9->tn (i+1) s9.heap/\∀b∈fp,j b=af:=λ{s9 σ9 j} I9=>by refine⟨T.keep _ _ _ st7 λb B o e=>(I9.pin (b,o) (S9 _ (S9 _ (ji B e)))).1,λb B=>?_⟩;obtain⟨o,e,_⟩:=T.obj _ _ st7 b B;exact(I9.pin (b,o) (S9 _ (S9 _ (ji B e)))).2.1
     have elem:∀{s9:RV}{j:Hp}{m9:List az}{h9:aO}{w:aN}{hB:aO}{d:aM},Inv (blk X (tg++fv.map (·.2)) s2 H1 scope H2.objs.size fp) ([(s2.heap.objs.size,lobj us nn)]++lZ fp s7.heap) M j s9->Ext m5 H8 m9 j->RH X.K m9 j h9 →
      aL F G elt (xs.map BT.fc++fs) h9=aa (w,hB)->BT.pR w hB=aa (aa d,hA)->o=aa d →
      av (Su X.prog X.w) X.A (eval elt' (YH scope (BC.jf X.env.cells scope.names []) H2.objs.size X.env)) (λx s₄ =>
       av (Su X.prog X.w) X.A (call (.builtin "list.append") [.ref s2.heap.objs.size,x]) (λ_ s₅=>∃ m,m < W.length - i/\LI X F G scope tg fv cond elt s2 H1 H2.objs.size fp tn m1 W L fs h2 f' (rB ws W) m s₅) (λ_ _=>False) s₄) (λ_ _=>False) s9:=by
      intro s9 j m9 h9 w hB d I9 x9 R9 eE V eO;have ew:w=.p d/\hB=hA:=by
       unfold BT.pR at V;cases w with
       |p d'=>cases V;exact⟨rfl,rfl⟩|_=>exact cU V
      obtain⟨rfl,rfl⟩:=ew;refine thn (hE _ O' _ s9 M j (λv Ha=>∃P,Ext m9 j P Ha/\RH X.K P Ha hB/\RD X.K P Ha v d) I9 ⟨m9,_,h9,_,hB,R9,S8.ext x9,eE,λv Ha P xa Ra ra=>by cases ra with|p ra=>exact⟨P,xa,Ra,ra⟩⟩) λu10 s10 ⟨v10,H10,I10,r10,m10,x10,R10,rd10⟩=>?_
      obtain⟨pD,nD,f,nfD,_⟩:=I10.pin (s2.heap.objs.size,lobj us nn) (by simp);have lus:=rv5.length;have lvs:=rd5.length;have lou:out.length<=L.length:=by rw[←ou5];simp
      have lle:=f9;have cl':L.length<=BT.lim:=cl;refine wpAny_list_append_plain ⟨nn,pD⟩ (λh11 U Y=>?_) (by rw[RZ];lia);obtain⟨nn',U⟩:=U;have U:h11.get? s2.heap.objs.size=aa (lobj (us++[u10]) nn'):=by rw[U];simp[lobj]
      have Y:Tv s2.heap.objs.size s10.heap h11:=Y;obtain⟨st10,fr10⟩:=aH I10;have I11:Inv (blk X (tg++fv.map (·.2)) s2 H1 scope H2.objs.size fp) [] M H10 {s10 with heap:=h11} :=
       Inv.turned (t':=s10.toks) (I10.m7 (λp hp=>by cases hp)) (λb o B e=>(Y.2 b B).trans e) nD f (.inr (R0 _)) (λx c e a=>by obtain⟨v,o,ho,_⟩:=I1.cell x c (mT e);have:=R6 ho;rw[a]at this;exact bL this (To _)) λp hp=>by cases hp
      have I12:Inv (blk X (tg++fv.map (·.2)) s2 H1 scope H2.objs.size fp) [(s2.heap.objs.size,lobj (us++[u10]) nn')] M H10 {s10 with heap:=h11}:=I11.m7 λp hp=>by simp only[List.mem_singleton]at hp;subst hp;exact⟨U,nD,f,nfD,λv a=>by cases (show Data.seq _ _=Data.cell v from a)⟩
      have xt:Ext m5 H5 m10 H10:=(x7.trans x9).trans x10;refine⟨W.length-(i+1),by lia,i+1,M,H10,m10,hB,out++[d],t,vs++[v10],us++[u10],nn',_,c,rfl,I12,?_,fr10,x5.trans xt,R10,(S8.ext x9).ext x10,sq2,sq3,rv5.append (.cons r10 .nil),(rd5.ext xt).append (.cons rd10 .nil),eG,?_,cA⟩
      ·refine T.keep _ _ _ st10 λb B o' e=>(Y.2 b ?_).trans e;exact SA (hlt b B)
      rw[←ou5,eR,eO,Tg];rfl
     unfold BT.fz at eF;obtain⟨cs,hc,eC,V⟩:=c5 eF;rcases hC with⟨rfl,rfl⟩|⟨cc,cc',rfl,rfl,hCC⟩
     ·simp only[aX]at eC;cases eC;have V:=(show bB _ BT.pR=_ from V);obtain⟨w,hB,eE,eL⟩:=c5 V;refine wpAny_tests_nil ?_;rw[bJ rfl];have:∃d,o=aa d:=by
       unfold BT.pR at eL;cases w with
       |p d'=>cases eL;exact⟨_,rfl⟩|_=>exact cU eL
      obtain⟨d,rfl⟩:=this;exact elem I8 (.refl _ _) R7 eE eL rfl
     ·simp only[aX]at eC;obtain⟨wc,hc2,eC1,eC2⟩:=c5 eC;simp only[BT.lF,BT.d9,BT.jn]at eC2;cases eC2;have B:∃b,wc=.p (.bl b):=by
       cases wc with
       |p d =>
        cases d<;>first|exact⟨_,rfl⟩|exact cU V
       |_=>exact cU V
      obtain⟨b,rfl⟩:=B;refine wpAny_tests_one (thn (hCC _ O' _ s8 M H8 (λb' Ha=>b'=b/\∃P,Ext m5 H8 P Ha/\RH X.K P Ha hc) I8 ⟨m5,_,hh,b,hc,R7,S8,eC1,λHa P xa Ra=>⟨rfl,P,xa,Ra⟩⟩) λb' s9 zq=>?_);obtain⟨j,I9,hbb,m9,x9,R9⟩:=zq;subst hbb;cases b' with
      |false =>
       have V:=(show aa ((af:Option aM),hc)=aa _ from V);cases V;rw[bK (by decide)];obtain⟨st9,fr9⟩:=aH I9;have xt:Ext m5 H5 m9 j:=x7.trans x9;refine⟨W.length-(i+1),by lia,i+1,M,j,m9,hA,out,t,vs,us,nn,_,c,rfl,I9.k9,st9,fr9,x5.trans xt,R9,S8.ext x9,sq2,sq3,rv5,rd5.ext xt,eG,?_,cA⟩;rw[←ou5,eR]
      |true =>
       have V:=(show bB _ BT.pR=_ from V);rw[bJ rfl];obtain⟨w,hB,eE,eL⟩:=c5 V;have:∃d,o=aa d:=by
        unfold BT.pR at eL;cases w with
        |p d'=>cases eL;exact⟨_,rfl⟩|_=>exact cU eL
       obtain⟨d,rfl⟩:=this;exact elem I9 x9 R9 eE eL rfl
    ·have ei:i=W.length:=by lia
     subst ei;rw[List.drop_length,BT.d7]at go5;cases go5;rw[TJ]at ou5;subst ou5;refine thn (T.done (blk X (tg++fv.map (·.2)) s2 H1 scope H2.objs.size fp) rfl rfl rfl (O.calm hu) _ _ s5 σ5 H5 _ I5 (k fr5) st5 (ito.stop m5 H5 _ x5 R5 cc5)) λr Z zq=>?_;obtain⟨hr,I6⟩:=zq;subst hr;obtain⟨mm,hmm,_⟩:=I6.loc;obtain⟨pD,nD,f,nfD,_⟩:=I6.pin (s2.heap.objs.size,lobj us nn) (by simp);have f:s2.heap.objs.size≠H2.objs.size:=f;have hos:Z.os=s2.os:=I6.os;have lus:=rv5.length;have lvs:=rd5.length;have lle:=f9;have cl':out.length<=BT.lim:=cl;have aJ:HOk X.prog X.w (upd H5 s2.heap.objs.size (.aB vs)) Z.heap:=λb u e=>by
      by_cases eb:b=s2.heap.objs.size
      ·subst eb;rw[eN]at e;cases e;exact⟨by lia,us,nn,rv5,pD⟩
      ·rw[dB eb]at e;refine(I6.aJ b u e).stay (λc v hc q=>q) (λc q=>?_) λc l q=>?_;rw[dB (λa=>by rw[a,nD]at q;exact cU q)];exact q;rw[dB (λa=>by rw[a,nD]at q;exact cU q)];exact q
     have u7:Un (frs X.stack) fp H1 (upd H5 s2.heap.objs.size (.aB vs)) s2.heap Z.heap:=Un.behind (h1:=Z.heap) I6.base (λb B=>dB (SA B)) (λb o e=>I1.aJ.lt e) λb o B e=>e;have I7:=I1.call (g':=Z.gens) (t':=Z.toks) (d':=Z.drawn) (ch:=fp) u7 aJ I6.bare λb B=>⟨(hf b B).2.2.2.1,(hf b B).2.1,(hf b B).2.2.2.2.1,(hf b B).2.2.2.2.2⟩;have fr6:H5 H2.objs.size=af:=I6.free;have ltC:s2.heap.objs.size<H2.objs.size:=by rw[E];exact Ul _
     have ap:Apart X zt (upd H5 s2.heap.objs.size (.aB vs)) H2.objs.size:=by
      refine⟨by rw[dB (Td f)];exact fr6,?_,?_,λx c e a=>?_,λp hp a=>?_⟩;exact Tt (Wb I1.lt ltC);exact SK I1.sz (Uu ltC)
      ·obtain⟨v,o,ho,_⟩:=I1.cell x c e;have l:=R6 ho;rw[a]at l;exact bL (Wb l ltC) (To _)
      ·have l:=R6 (I1.pin p hp).1;rw[a]at l;exact bL (Wb l ltC) (To _)
     refine hfin Z _ _ _ mm ?_ hmm ap (nk (mu:=mu) R5 nD rd5 (by rw[ez];exact λv' H' m' xx RR rr=>zr v' H' m' ((x1.trans x5).trans xx) RR rr));obtain⟨hp6,g6,d6,t6,os6⟩:=Z;have hos:os6=s2.os:=hos;subst hos;exact I7
   exact codeAny_compStart_list (loop _ rfl) (T.self _ 0 _ _ _ (T.keep 0 _ _ st (λb B o e=>old b o e)) (loop _ rfl))
def Fc(O:Ok X F G sc N)(Y:f7 N=ah)
(c:kQ sc N tg fv scope=ah)(Z:tK (eB scope sc) tg te=ah)(J:kP iter=ah)(f:PI X te iter (iD X F G sr sa))(h:oR F G (eB scope sc) (tg++fv.map (·.2)) cond ifs)
(g:∀M,Ok M F G (eB scope sc) (tg++fv.map (·.2))->PE M elt' (tD M F G elt)):PE X (.ListComp elt' [⟨te,iter,ifs,0⟩] scope pos) (tD X F G (.comp mu sr sa tg fv cond elt)):=by
 intro W s V H Q I q;rw[eval_ListComp];refine qx O Y c Z J f h g W s V H Q af _ I q λU k C D m j hn L a=>?_;refine⟨m,hn,λi B=>?_⟩;have B:Tv C U.heap i:=B;exact⟨.ref D,k,Inv.turned (t':=U.toks) j (λb o d e=>(B.2 b d).trans e) L.fr L.lo (.inr L.ab) L.ce L.pi,rfl,a⟩
def Fd(O:Ok X F G sc N)(l:f7 N=ah)
(r:kQ sc N tg fv scope=ah)(n:tK (eB scope sc) tg te=ah)(L:kP iter=ah)(u:PI X te iter (iD X F G sr sa))(x:oR F G (eB scope sc) (tg++fv.map (·.2)) cond ifs)
(w:∀Y,Ok Y F G (eB scope sc) (tg++fv.map (·.2))->PE Y elt' (tD Y F G elt))(k:N[i]?=aa y)(f:sc.names.lookup y=aa .local)
(U:VC (.ListComp elt' [⟨te,iter,ifs,0⟩] scope pos) (aa (.Name y py)) spos.line X.env=pure ah):
 PS X (.Assign [.Name y py] (.ListComp elt' [⟨te,iter,ifs,0⟩] scope pos) spos) (zP (tD X F G (.comp mu sr sa tg fv cond elt)) (vO i)):=by
 intro Z s h H D I q;rw[exec_Assign_Name_used _ _ _ _ U];refine RP (WY (RP ?_));show av _ X.A (do let _ ←comprehension (.ListComp elt' [⟨te,iter,ifs,0⟩] scope pos) scope X.env _ (newList []) ai (eval iter X.env) (aa (Xx (.Name y py) X.env))) _ _ s;refine RP (thn (qx O l r n L u x w Z s h H _ (aa (Xx (.Name y py) X.env)) (λ_ d=>SP X Z D .next d) I q λR Q C g m P hn J V=>?_) λ_ d V=>au (au V));show av _ X.A (Xx (.Name y py) X.env (.ref g)) _ _ _;refine wpAny_assign_Name (qd P O.nd (by rw[O.hN];exact k) (.inl (by rw[O.hsc];exact f)) (v:=.ref g) rfl (λc K p=>?_) (.inr (by rw[O.hsc];exact f)));obtain⟨a,j,W⟩:=p;have M:C≠a:=by
  rcases W with rfl|W
  exact J.lo;exact λz=>J.ce y a W z.symm
 refine⟨m,hn.sameBut j M,λE B=>?_⟩;have B:Tv C c.heap E:=B;exact⟨_,Q,Inv.turned (t':=c.toks) K (λb o t e=>(B.2 b t).trans e) J.fr J.lo (.inr J.ab) J.ce J.pi,V⟩
end
section
variable{E:aA->RV->Prop}
end
section
end
end BS
end
section
namespace L2
open PySem PySem.Spec PyProof.Rows
section
variable{X:Cx}{tg:Vo}
end
end L2
namespace BS
open PySem PySem.Spec PyProof.Rows L2
section
variable{F:FT}{G:ay->Option aN}
end
end BS
end
section
namespace BS
open PySem PySem.Spec PyProof.Rows L2
variable{k1:Nat}
section
variable{E:aA->RV->Prop}
def gE(q:s.heap.IsTupleIter it t i)(O:s.heap.IsTuple t items)(M:items[i]?=aa x)
(V:∀h',h'.IsTupleIter it t (i+1)->Tv it s.heap h'->Q x {s with heap:=h'}):
 av (Su prog w) A (SO (.ref it)) Q E s:=by
 obtain ⟨o,D,U,B⟩:=id q;obtain ⟨W,J,_,Y,L⟩:=O;unfold SO;refine RP (SZ (name:=Sn "__next__") q.typeIs F.slot_tuple_iterator_next
  (TM F.slot_tuple_iterator_next q.typeIs F.entry_tuple_iterator_next ?_ (F.args_tuple_iterator_next_1 _)))
 show av _ _ (field (.ref it) 0 >>= _) _ _ s;refine RP (TR D B (x:=.ref t) rfl ?_);show av _ _ (if (S7 t==T5)=ah then _ else _) _ _ s;rw[bK (show ¬ ((S7 t==T5)=ah) from SE)];show av _ _ (field (.ref it) 1 >>= _) _ _ s;refine RP (TR D B (x:=.int i 0) rfl ?_);show av _ _ (seqItems? (.ref t) >>= _) _ _ s;refine RP (T6 J L ?_);simp only[TQ,M];refine RP (Us D B (by simp) (au ⟨x,rfl,au (V _ ?_ (SV ..))⟩));exact ⟨_,SB _ D (Obj.isFreed_of_fields (Obj.data_mapFields B _)),(Obj.cls_mapFields ..).trans U,by
  rw[Obj.data_mapFields B];simp[U1]⟩
def rG(M:A.handled=af)(q:s.heap.IsTupleIter it t i)(U:s.heap.IsTuple t items)(O:items[i]?=af)
(V:∀h' e,Xg it s.heap h'->(∃o,h'.get? e=aa o/\o.cls=.type "StopIteration")->E (.ref e) {s with heap:=h'}):
 av (Su prog w) A (SO (.ref it)) Q E s:=by
 obtain ⟨o,D,Z,L⟩:=id q;obtain ⟨W,B,_,Y,J⟩:=U;unfold SO;refine RP (SZ (name:=Sn "__next__") q.typeIs F.slot_tuple_iterator_next
  (TM F.slot_tuple_iterator_next q.typeIs F.entry_tuple_iterator_next ?_ (F.args_tuple_iterator_next_1 _)))
 show av _ _ (field (.ref it) 0 >>= _) _ _ s;refine RP (TR D L (x:=.ref t) rfl ?_);show av _ _ (if(S7 t==T5)=ah then _ else _) _ _ s;rw[bK (show ¬((S7 t==T5)=ah) from SE)];show av _ _ (field (.ref it) 1 >>= _) _ _ s;refine RP (TR D L (x:=.int i 0) rfl ?_);show av _ _ (seqItems? (.ref t) >>= _) _ _ s;refine RP (T6 B J ?_);simp only[TQ,O];refine RP (VB (RP (Us D L (by simp) ?_)));show av _ _ (newExc (.type "StopIteration") [] >>= _) _ _ _;refine RP ?_;simp only[newExc,newTuple];refine RP (SL ?_ (by size_fits));refine RP (m:=Wz _ _) (wpAny_of_eq (a:=T5) (by first|rfl|(simp only[Wz];rfl)) ?_);refine SL ?_ (by size_fits);simp only[raiseNew];refine RP (wpAny_handled ?_)
 first|rw[show A.in1.handled=af from M]|rw[M]
 refine RP (au (wpAny_throw ?_));exact V _ _ (((SV ..).extBut.push _).push _) ⟨_,R8 _ rfl,rfl⟩
noncomputable abbrev yX(h:aq)(z TI TO:az)(q:aA)(f:Bool):Prop :=
 h.get? z=aa {cls:=.type "zip",dict:=af,data:=.fields #[q,.bool f,.bool ai,.ref TI,.ref TO],slots:=#[]}
def Cd{z TI TO i1 i2 l1 l2:az}{k2:Nat}{xs ys:Array aA}{x y a b:aA}{Q:aA->RV->Prop}(D:YL z TI TO i1 i2 l1 l2)
(hz:Yp s.heap z TI TO .none)(hTI:Vi s.heap TI (.ref i1) (.ref i2))(hTO:Vi s.heap TO a b)
(h1:s.heap.IsTupleIter i1 l1 k1)(h2:s.heap.IsTupleIter i2 l2 k2)(hl1:s.heap.IsTuple l1 xs)(X:s.heap.IsTuple l2 ys)(hx:xs[k1]?=aa x)(hy:ys[k2]?=aa y)
(hQ:∀ h',Yp h' z TI TO (U1 s.heap.objs.size)->Vi h' TO x y->h'.IsTupleIter i1 l1 (k1+1)->h'.IsTupleIter i2 l2 (k2+1)->Vi h' s.heap.objs.size x y->h'.objs.size=s.heap.objs.size+1 →
  (∀ c o,c≠z->c≠TO->c≠i1->c≠i2->s.heap.get? c=aa o->h'.get? c=aa o)->Q (.ref s.heap.objs.size) { s with heap:=h' }):
 av (Su prog w) A (Builtin.«zip.__next__» ⟨[.ref z],[]⟩) (λfin s'=>∃v,fin=.done (.ret v)/\Q v s') E s:=by
 show av _ _ (field (.ref z) 2 >>= _) _ _ _;refine RP (TR hz rfl (x:=.bool ai) rfl ?_);show av _ _ (field (.ref z) 3 >>= _) _ _ _;refine RP (TR hz rfl (x:=.ref TI) rfl ?_);refine RP (T6 hTI rfl ?_);show av _ _ (S6 (.ref z) >>= _) _ _ _;refine RP ?_;unfold S6;refine RP (TR hz rfl (x:=.none) rfl (au ?_));simp only[if_true];refine RP (VB ?_);refine RP (TR hz rfl (x:=.ref TO) rfl ?_);refine RP (VL hz (by simp) λN d B=>?_);replace d:Yp N z TI TO .ellipsis:=d;refine RP ?_;simp only[List.zipIdx_cons,List.zipIdx_nil,V3,XD];refine RP (RP (wpAny_onRaise ?_));show av _ _ (SO (.ref i1) >>= _) _ _ _;refine RP (gE (h1.extBut B.extBut D.i1z) (hl1.extBut B.extBut D.l1z) hx λK C M=>au ?_);have i:Vi K TO a b:=M.extBut _ _ D.TOi1 (B.extBut _ _ D.TOz hTO);refine RP (T6 i rfl ?_);refine RP (wpAny_updateSeq_pair i λI W L=>?_);replace W:Vi I TO x b:=W;refine RP (wpAny_letGo (au ?_));refine RP (RP (wpAny_onRaise ?_));show av _ _ (SO (.ref i2) >>= _) _ _ _;refine RP (gE (((h2.extBut B.extBut D.i2z).extBut M.extBut D.i12.symm).extBut L.extBut D.TOi2.symm)
  (((X.extBut B.extBut D.l2z).extBut M.extBut D.l2i1).extBut L.extBut D.l2TO) hy λH t U=>au ?_)
 have h:Vi H TO x b:=U.extBut _ _ D.TOi2 W;refine RP (T6 h rfl ?_);refine RP (wpAny_updateSeq_pair h λq J O=>?_);replace J:Vi q TO x y:=J;refine RP (wpAny_letGo (au (au ?_)));refine RP (T6 J rfl ?_);refine RP (wpAny_newTuple ?_);have R:q.objs.size=s.heap.objs.size:=by rw[O.1,U.1,L.1,M.1,B.1]
 have j:Yp q z TI TO .ellipsis:=O.extBut _ _ D.TOz.symm (U.extBut _ _ D.i2z.symm (L.extBut _ _ D.TOz.symm (M.extBut _ _ D.i1z.symm d)));have n:∀c o,c≠z->c≠TO->c≠i1->c≠i2->s.heap.get? c=aa o->q.get? c=aa o:=λc o F T c3 c4 e =>
  O.extBut _ _ T (U.extBut _ _ c4 (L.extBut _ _ T (M.extBut _ _ c3 (B.extBut _ _ F e))))
 have u:q.IsTupleIter i1 l1 (k1+1):=((C.extBut L.extBut D.TOi1.symm).extBut U.extBut D.i12).extBut O.extBut D.TOi1.symm;have p:q.IsTupleIter i2 l2 (k2+1):=t.extBut O.extBut D.TOi2.symm;have l:z<q.objs.size:=R6 j;have hTOlt:TO<q.objs.size:=R6 J;show av _ _ (Vx (.ref z) (.ref q.objs.size) >>= _) _ _ _;refine RP ?_;unfold Vx;have m:Yp (q.push {cls:=.type "tuple",data:=.seq #[x,y]}) z TI TO .ellipsis:=RT _ j;refine RP (VL m (by simp) λG Z g=>?_);replace Z:Yp G z TI TO (U1 q.objs.size):=Z;refine VL Z (by simp) λY V f=>?_;replace V:Yp Y z TI TO (U1 q.objs.size):=V;have S:∀c o,c≠z->q.get? c=aa o->Y.get? c=aa o:=λc o F e=>f.extBut _ _ F (g.extBut _ _ F (RT _ e));have k:Vi Y q.objs.size x y:=f.extBut _ _ (Tt l) (g.extBut _ _ (Tt l) (R8 _ rfl));have P:Y.objs.size=q.objs.size+1:=by rw[f.1,g.1,SY]
 rw[R]at V k P;refine au ⟨_,rfl,?_⟩;show Q (.ref q.objs.size) _;rw[R];exact hQ Y V (S _ _ D.TOz J) (let ⟨o,e,r⟩:=u;⟨o,S _ o D.i1z e,r⟩) (let ⟨o,e,r⟩:=p;⟨o,S _ o D.i2z e,r⟩) k P λc o F T c3 c4 e=>S c o F (n c o F T c3 c4 e)
def w5{z TI TO a:az}{f:Bool}{L:ao}{Q:Bool->RV->Prop}(hz:yX s.heap z TI TO (U1 a) f)(M:s.heap.get? a=aa L)
(J:∀h',yX h' z TI TO (U1 a) ah->Tv z s.heap h'->Q ai {s with heap:=h'}):av (Su prog w) A (S6 (.ref z)) Q E s:=by
 unfold S6;refine RP (TR hz rfl (x:=U1 a) rfl ?_);show av _ _ (loadIfAlive ((a:Int).toNat) >>= _) _ _ _;rw[TQ];refine RP (PySem.W.kdx_alive M ?_);simp only[Option.isNone_some,UC,if_false];refine RP (TR hz rfl (x:=.bool f) rfl ?_);cases f with
 |true =>
  rw[bK (show ¬((VE ah != VE ah)=ah) from SE)];exact au (J s.heap hz (Vn _ _))
 |false =>
  rw[bJ (show(VE ai != VE ah)=ah from rfl)];refine RP (VL hz (by simp) λD B q=>?_);exact au (J D B q)
def Fe{z TI TO i1 i2 l1 l2 c:az}{f:Bool}{h:ao}{k2:Nat}{xs ys:Array aA}{x y:aA}{Q:aA->RV->Prop}(D:YL z TI TO i1 i2 l1 l2)
(hz:yX s.heap z TI TO (U1 c) f)(k:s.heap.get? c=aa h)(Z:Vi s.heap TI (.ref i1) (.ref i2))
(h1:s.heap.IsTupleIter i1 l1 k1)(h2:s.heap.IsTupleIter i2 l2 k2)(Y:s.heap.IsTuple l1 xs)(W:s.heap.IsTuple l2 ys)(j:xs[k1]?=aa x)(i:ys[k2]?=aa y)
(l:∀ h',yX h' z TI TO (U1 c) ah->h'.IsTupleIter i1 l1 (k1+1)->h'.IsTupleIter i2 l2 (k2+1)->Vi h' s.heap.objs.size x y->h'.objs.size=s.heap.objs.size+1 →
  (∀ b o,b≠z->b≠i1->b≠i2->s.heap.get? b=aa o->h'.get? b=aa o)->Q (.ref s.heap.objs.size) { s with heap:=h' }):
 av (Su prog w) A (Builtin.«zip.__next__» ⟨[.ref z],[]⟩) (λfin s'=>∃v,fin=.done (.ret v)/\Q v s') E s:=by
 show av _ _ (field (.ref z) 2 >>= _) _ _ _;refine RP (TR hz rfl (x:=.bool ai) rfl ?_);show av _ _ (field (.ref z) 3 >>= _) _ _ _;refine RP (TR hz rfl (x:=.ref TI) rfl ?_);refine RP (T6 Z rfl ?_);show av _ _ (S6 (.ref z) >>= _) _ _ _;refine RP (w5 hz k λd M q=>?_);simp only[UC,if_false];refine RP ?_;simp only[← YA,V3,XD];refine RP (RP (Tf ?_));show av _ _ (SO (.ref i1) >>= _) _ _ _;refine RP (gE (h1.extBut q.extBut D.i1z) (Y.extBut q.extBut D.l1z) j λa U B=>au (au ?_));refine RP (RP (Tf ?_));show av _ _ (SO (.ref i2) >>= _) _ _ _;refine RP (gE ((h2.extBut q.extBut D.i2z).extBut B.extBut D.i12.symm)
  ((W.extBut q.extBut D.l2z).extBut B.extBut D.l2i1) i λJ O L=>au (au (au ?_)))
 refine RP (wpAny_newTuple (hsz:=by show 2<=aj;decide) ?_);have hsz:J.objs.size=s.heap.objs.size:=by rw[L.1,B.1,q.1]
 have V:∀b o,J.get? b=aa o->(J.push {cls:=.type "tuple",data:=.seq #[x,y]}).get? b=aa o:=λb o e=>RT _ e;refine au ⟨_,rfl,?_⟩;have g:Vi (J.push {cls:=.type "tuple",data:=.seq #[x,y]}) J.objs.size x y:=R8 _ rfl;show Q (.ref J.objs.size) _;rw[hsz]at g⊢;exact l _ (V _ _ (L.extBut _ _ D.i2z.symm (B.extBut _ _ D.i1z.symm M))) (let ⟨o,e,r⟩:=U;⟨o,V _ o (L.extBut _ _ D.i12 e),r⟩) (let ⟨o,e,r⟩:=O;⟨o,V _ o e,r⟩) g (by rw[SY,hsz])
  λb o p n m e=>V b o (L.extBut _ _ m (B.extBut _ _ n (q.extBut _ _ p e)))
def Jq{z TI TO i1 i2 l1 l2 c:az}{f:Bool}{W:ao}{xs:Array aA}{Q:Fin->RV->Prop}(Z:A.handled=af)(D:YL z TI TO i1 i2 l1 l2)
(hz:yX s.heap z TI TO (U1 c) f)(d:s.heap.get? c=aa W)(U:Vi s.heap TI (.ref i1) (.ref i2))
(h1:s.heap.IsTupleIter i1 l1 k1)(O:s.heap.IsTuple l1 xs)(Y:xs[k1]?=af)
(g:∀h' e,(∀b o,b≠z->b≠i1->s.heap.get? b=aa o->h'.get? b=aa o)->(∃o,h'.get? e=aa o/\o.cls=.type "StopIteration")->E (.ref e) {s with heap:=h'}):
 av (Su prog w) A (Builtin.«zip.__next__» ⟨[.ref z],[]⟩) Q E s:=by
 show av _ _ (field (.ref z) 2 >>= _) _ _ _;refine RP (TR hz rfl (x:=.bool ai) rfl ?_);show av _ _ (field (.ref z) 3 >>= _) _ _ _;refine RP (TR hz rfl (x:=.ref TI) rfl ?_);refine RP (T6 U rfl ?_);show av _ _ (S6 (.ref z) >>= _) _ _ _;refine RP (w5 hz d λV M B=>?_);simp only[UC,if_false];refine RP ?_;simp only[←YA,V3,XD];refine RP (RP (Tf ?_));show av _ _ (SO (.ref i1) >>= _) _ _ _;exact RP (rG Z (h1.extBut B.extBut D.i1z) (O.extBut B.extBut D.l1z) Y λL e J a=>g L e (λb o i h q=>J _ _ h (B.extBut _ _ i q)) a)
structure ZLo(z TI TO i1 i2 l1 l2 S:az):Prop where
 D:YL z TI TO i1 i2 l1 l2
 z:z<S
 TI:TI<S
 TO:TO<S
 i1:i1<S
 i2:i2<S
 l1:l1<S
 l2:l2<S
structure ZS(z TI TO i1 i2 l1 l2 S:az)(xs ys:Array aA)(i:Nat)(h:aq):Prop where
 st:(i=0/\Yp h z TI TO .none/\∃a b,Vi h TO a b)\/∃(c:az) (f:Bool) (oc:ao),yX h z TI TO (U1 c) f/\h.get? c=aa oc/\S<c
 ti:Vi h TI (.ref i1) (.ref i2)
 a1:h.IsTupleIter i1 l1 i
 a2:h.IsTupleIter i2 l2 i
 t1:h.IsTuple l1 xs
 t2:h.IsTuple l2 ys
def ZS.keep{TI TO S:az}(L:ZLo z TI TO i1 i2 l1 l2 S)(Z:ZS z TI TO i1 i2 l1 l2 S xs ys i h)(k:∀b o,b≠S->h.get? b=aa o->h'.get? b=aa o):ZS z TI TO i1 i2 l1 l2 S xs ys i h':=by
 have n:∀{b:az},b<S->b≠S:=λq=>SA q;refine⟨?_,k _ _ (n L.TI) Z.ti,let ⟨o,e,r⟩:=Z.a1;⟨o,k _ o (n L.i1) e,r⟩,let ⟨o,e,r⟩:=Z.a2;⟨o,k _ o (n L.i2) e,r⟩,let ⟨o,e,r⟩:=Z.t1;⟨o,k _ o (n L.l1) e,r⟩,let ⟨o,e,r⟩:=Z.t2;⟨o,k _ o (n L.l2) e,r⟩⟩;rcases Z.st with⟨e,q,a,b,p⟩|⟨c,f,oc,q,hc,lt⟩
 exact .inl ⟨e,k _ _ (n L.z) q,a,b,k _ _ (n L.TO) p⟩;exact .inr ⟨c,f,oc,k _ _ (n L.z) q,k _ _ (Tt lt) hc,lt⟩
def ZS.at{TI TO S:az}{x y:aA}(L:ZLo z TI TO i1 i2 l1 l2 S)(Z:ZS z TI TO i1 i2 l1 l2 S xs ys i h)
(k:∀b o,b≠z->b≠TO->b≠i1->b≠i2->h.get? b=aa o->h'.get? b=aa o):Vi h' TI (.ref i1) (.ref i2)/\h'.IsTuple l1 xs/\h'.IsTuple l2 ys :=
 ⟨k _ _ L.D.TIz L.D.TITO L.D.TIi1 L.D.TIi2 Z.ti,let ⟨o,e,r⟩:=Z.t1;⟨o,k _ o L.D.l1z L.D.l1TO L.D.l1i1 L.D.l1i2 e,r⟩,let ⟨o,e,r⟩:=Z.t2;⟨o,k _ o L.D.l2z L.D.l2TO L.D.l2i1 L.D.l2i2 e,r⟩⟩
def Ff{TI TO S:az}(L:ZLo z TI TO i1 i2 l1 l2 S)(Z:ZS z TI TO i1 i2 l1 l2 S xs ys i s.heap)(n:S<s.heap.objs.size)(l:xs[i]?=aa x)(k:ys[i]?=aa y)
(m:∀h',ZS z TI TO i1 i2 l1 l2 S xs ys (i+1) h'->Vi h' s.heap.objs.size x y->h'.objs.size=s.heap.objs.size+1->(∀b o,b≠z->b≠TO->b≠i1->b≠i2->s.heap.get? b=aa o->h'.get? b=aa o)->Q (aa (.ref s.heap.objs.size)) {s with heap:=h'}):
 av (Su prog w) A (Vy (.ref z)) Q E s:=by
 have lt:∀{b:az},b<S->S<b->False:=λp q=>To _ (Wb p q);rcases Z.st with⟨e,q,a,b,p⟩|⟨c,f,oc,q,hc,hl⟩
 ·have J:s.TypeIs (.ref z) "zip":=⟨_,q,rfl⟩;unfold Vy;refine RP (V4 (SZ (name:=Sn "__next__") J F.slot_zip_next
   (TM F.slot_zip_next J F.entry_zip_next
    (Cd L.D q Z.ti p Z.a1 Z.a2 Z.t1 Z.t2 l k λh' a1 a2 j h M g B=>au (m h' ?_ M g B)) (F.args_zip_next_1 _))))
  obtain⟨d,Y,W⟩:=Z.at (x:=x) (y:=y) L B;exact⟨.inr ⟨_,ai,_,a1,M,n⟩,d,j,h,Y,W⟩
 ·have J:s.TypeIs (.ref z) "zip":=⟨_,q,rfl⟩;unfold Vy;refine RP (V4 (SZ (name:=Sn "__next__") J F.slot_zip_next
   (TM F.slot_zip_next J F.entry_zip_next
    (Fe L.D q hc Z.ti Z.a1 Z.a2 Z.t1 Z.t2 l k λh' a1 j h M g B=>au (m h' ?_ M g λb o V _ U O e=>B b o V U O e)) (F.args_zip_next_1 _))))
  obtain⟨d,Y,W⟩:=Z.at (x:=x) (y:=y) (h':=h') L λb o V _ U O e=>B b o V U O e;exact⟨.inr ⟨c,ah,oc,a1,B c oc (λz=>lt (z ▸ L.z) hl) (λz=>lt (z ▸ L.i1) hl) (λz=>lt (z ▸ L.i2) hl) hc,hl⟩,d,j,h,Y,W⟩
def Fg{TI TO S:az}(V:A.handled=af)(L:ZLo z TI TO i1 i2 l1 l2 S)(Z:ZS z TI TO i1 i2 l1 l2 S xs ys i s.heap)(hi:0<i)(M:xs[i]?=af)
(Y:∀h',(∀b o,b≠z->b≠i1->s.heap.get? b=aa o->h'.get? b=aa o)->Q af {s with heap:=h'}):
 av (Su prog w) A (Vy (.ref z)) Q E s:=by
 rcases Z.st with⟨e,q,a,b,p⟩|⟨c,f,oc,q,hc,hl⟩
 lia
 ·have J:s.TypeIs (.ref z) "zip":=⟨_,q,rfl⟩;unfold Vy;refine RP (V4 (SZ (name:=Sn "__next__") J F.slot_zip_next
   (TM F.slot_zip_next J F.entry_zip_next (Jq V L.D q hc Z.ti Z.a1 Z.t1 M λh' e U W=>?_) (F.args_zip_next_1 _))))
  obtain⟨o,O,B⟩:=W;refine RP (U3 (T:="StopIteration") (b:=ah) ⟨o,O,B⟩ isSubtype_stop ?_);exact au (Y _ U)
structure ZG(xs ys:Array aA)(S:az)(h:aq)(as:List az):Prop where
 rise:as.Pairwise (· < ·)
 above:∀a∈as,S<a
 pairs:∀(j:Nat)(a:az),as[j]?=aa a->∃x y,xs[j]?=aa x/\ys[j]?=aa y/\Vi h a x y
def ZG.there{S:az}(g:ZG xs ys S h as)(B:a∈as):a<h.objs.size:=by obtain⟨j,q⟩:=List.mem_iff_getElem?.mp B;obtain⟨_,_,_,_,e⟩:=g.pairs j a q;exact R6 e
end
section
variable{prog:So}{w:SQ}{A:TF}{s:RV}{R:Xy->RV->Prop}{xs ys:Array aA}{z TI TO i1 i2 l1 l2 S:az}
def Fi(hh:A.handled=af)(L:ZLo z TI TO i1 i2 l1 l2 S)(hn0:0<xs.size)(hxy:xs.size=ys.size)(hn:xs.size<=aj)(res:aA){h₁:aq}
(hR:∀ h' tk B c as,(∀ b o,b≠S->b≠z->b≠TO->b≠i1->b≠i2->h₁.get? b=aa o->h'.get? b=aa o)->h'.get? S=aa { cls:=.type "list",dict:=af,data:=.seq B c,slots:=#[] }->as.length=xs.size->ZG xs ys S h' as →
  B.toList=as.map S7->R (.ok (.ret res)) { s with heap:=h',toks:=tk }):
 ∀(k i:Nat)(h:aq)(tk c:Nat)(B:Array aA) (as:List az),xs.size-i=k->i<=xs.size->ZS z TI TO i1 i2 l1 l2 S xs ys i h->(∀b o,b≠S->b≠z->b≠TO->b≠i1->b≠i2->h₁.get? b=aa o->h.get? b=aa o) →
  h.get? S=aa {cls:=.type "list",dict:=af,data:=.seq B c,slots:=#[]}->B.toList=as.map S7->as.length=i->ZG xs ys S h as →
  ak (Su prog w) A (.builtin "list.extend.loop" ⟨[.ref S,.ref z,res],[]⟩) R {s with heap:=h,toks:=tk}:=by
 have f:∀{b:az},b<S->S≠b:=λq=>Tt q;have g:∀{a b:az},S<a->b<S->a≠b:=λp q=>Tt (Wb q p);intro k
 induction k with
 |zero =>
  intro i h tk c B as hk hi Y D E J O U;have hin:i=xs.size:=by lia
  refine codeAny_builtin UP ?_;rw[TU SX _];show av _ A.in1 (Vy (.ref z) >>= _) _ _ _;refine RP (Fg (s:={s with heap:=h,toks:=tk}) (A:=A.in1) hh L Y (by lia) (Tz (by lia)) λh' u=>?_);have u:∀b o,b≠z->b≠i1->h.get? b=aa o->h'.get? b=aa o:=u;refine au (hR h' tk B c as (λb o I m H l G e=>u b o m l (D b o I m H l G e)) (u S _ (f L.z) (f L.i1) E) (by lia) ⟨U.rise,U.above,λj a W=>?_⟩ J);obtain⟨x,y,e1,e2,K⟩:=U.pairs j a W;have T:=U.above a (Sg W);exact⟨x,y,e1,e2,u a _ (g T L.z) (g T L.i1) K⟩
 |succ k ih =>
  intro i h tk c B as hk hi Y D E J O U;have t:i<xs.size:=by lia
  have P:xs[i]?=aa xs[i]:=SI t;have N:ys[i]?=aa (ys[i]'(by lia)):=SI (by lia);have n:B.size=i:=by rw[←SG,J,Se,O]
  refine codeAny_builtin UP ?_;rw[TU SX _];show av _ A.in1 (Vy (.ref z) >>= _) _ _ _;refine RP (Ff (s:={ s with heap:=h,toks:=tk }) L Y (R6 E) P N λh' r Q hz V=>?_);dsimp only at Q hz V ⊢;have C:=V S _ (f L.z) (f L.TO) (f L.i1) (f L.i2) E;have F:∀ b o,b≠S->h'.get? b=aa o->(h'.update S (TN (·.push (S7 h.objs.size)))).get? b=aa o:=λb o M e=>(Ti _ _ (Td M)).trans e;have v:S < h.objs.size:=R6 E;show av _ A.in1 (Wm S (·.push (S7 h.objs.size)) >>= _) _ _ _;refine RP ?_;refine Uw C rfl (au ⟨plainId_quiet SX _,ih (i+1) _ tk _ (B.push (S7 h.objs.size)) (as++[h.objs.size]) (by lia) t (r.keep L F)
   (λb o I m H l G e=>F b o I (V b o m H l G (D b o I m H l G e))) (SB _ C rfl) (by rw[YU,J,Vv];rfl) (by rw[Sz,O];rfl) ⟨?_,?_,?_⟩⟩) (by rw[n];lia) (by show (B.push (S7 h.objs.size)).size<=aj+1;rw[Array.size_push,n];lia)
  ·refine List.pairwise_append.mpr ⟨U.rise,List.pairwise_singleton _ _,λa d b M=>?_⟩;rw[List.mem_singleton.mp M];exact U.there d
  ·intro a d;rcases List.mem_append.mp d with d|d
   exact U.above a d;rw[List.mem_singleton.mp d];exact v
  ·intro j b W;rcases Nat.lt_trichotomy j as.length with h1|h1|h1
   ·rw[RU h1]at W;obtain⟨x',X,e1,e2,K⟩:=U.pairs j b W;have M:=U.above b (Sg W);exact⟨x',X,e1,e2,F b _ (Tt M) (V b _ (g M L.z) (g M L.TO) (g M L.i1) (g M L.i2) K)⟩
   ·subst h1;have M:h.objs.size=b:=by simpa using W
    subst M;exact⟨_,_,by rw[O];exact P,by rw[O];exact N,F _ _ (Tt v) Q⟩
   ·have Z:(as++[h.objs.size])[j]?=af:=Si (by rw[Sz,UH];lia);rw[Z]at W;cases W
end
def vj:Xk (.type "zip") "__len__"=pure af:=by rw[Wn,Vr];kernel_rfl
def tW:Xk (.type "zip") "__length_hint__"=pure af:=by rw[Wn,Vr];kernel_rfl
section
variable{prog:So}{w:SQ}{A:TF}{E:aA->RV->Prop}{s:RV}{R:Xy->RV->Prop}{xs ys:Array aA}{z TI TO i1 i2 l1 l2 S:az}
def yY(l:A.handled=af)(L:ZLo z TI TO i1 i2 l1 l2 S)(U:0<xs.size)(O:xs.size=ys.size)(hn:xs.size<=aj)(res:aA)(J:Nat)(Y:Yp s.heap z TI TO .none)(Z:ZS z TI TO i1 i2 l1 l2 S xs ys 0 s.heap)(g:s.heap.get? S=aa {cls:=.type "list",data:=.seq #[] J})
(n:∀ h' tk M c as,(∀ b o,b≠S->b≠z->b≠TO->b≠i1->b≠i2->s.heap.get? b=aa o->h'.get? b=aa o)->h'.get? S=aa { cls:=.type "list",dict:=af,data:=.seq M c,slots:=#[] }->as.length=xs.size->ZG xs ys S h' as →
  M.toList=as.map S7->R (.ok (.ret res)) { s with heap:=h',toks:=tk }):
 av (Su prog w) A.in1 (Tj (.ref S) (.ref z) res)
  (λfin s'=>match fin with|.done f=>R (.ok f) s'|.again h=>h.quiet=ah/\ak (Su prog w) A h R s') (λe s'=>R (.error e) s') s:=by
 have W:S≠z:=Tt L.z;have V:s.TypeIs (.ref z) "zip":=⟨_,Y,rfl⟩;unfold Tj;refine RP (U6 V ?_);have t:UM (.ref S) (.ref z)=ai:=by simp[UM,W]
 have r:(UL "zip"==UL "list")=ai:=by decide
 have p:(UL "zip"==UL "tuple")=ai:=by decide
 simp only[t,r,p,Vp,UC,if_false];refine RP (wpAny_pyIter_zip Y ?_);refine RP (Tf ?_);unfold U9;refine RP (XZ V vj ?_);show av _ A.in1 (specialOf (S7 z) (Sn "__length_hint__") >>= _) _ _ _;refine RP (XZ V tW ?_);refine au ?_;show av _ A.in1 (rule "list.extend.makes-room" >>= λ_=>Builtin.List.listTouch (.ref S) >>= λ_ =>
  again (.builtin "list.extend.loop" ⟨[.ref S,.ref z,res],[]⟩)) _ _ _
 refine RP (VB ?_);refine RP ?_;show av _ A.in1 (Wm S (·.push .none) >>= λ_=>Wm S (·.pop)) _ _ _;refine RP (Uw g rfl ?_);have q:=SB (TN (·.push T5)) g rfl;refine Uw (hz:=by seq_fits) q rfl ?_;have B:=SB (TN (·.pop)) q rfl;have D:∀b o,b≠S->s.heap.get? b=aa o->((s.heap.update S (TN (·.push T5))).update S (TN (·.pop))).get? b=aa o :=
  λb o d e=>(Ti _ _ (Td d)).trans ((Ti _ _ (Td d)).trans e)
 exact au ⟨plainId_quiet SX _,Fi (s:=s) (h₁:=s.heap) l L U O hn res n xs.size 0 _ s.toks _ #[] [] (Yn _) (Tu _) (Z.keep L D) (λb o i _ _ _ _ e=>D b o i e) B rfl rfl
  ⟨Xv,(λ_ m=>nomatch m),(λj a k=>by simp at k)⟩⟩
def Fj(l:A.handled=af)(L:ZLo z TI TO i1 i2 l1 l2 S)(O:0<xs.size)(M:xs.size=ys.size)(hn:xs.size<=aj)(i:Yp s.heap z TI TO .none)(Z:ZS z TI TO i1 i2 l1 l2 S xs ys 0 s.heap)(V:s.heap.get? S=aa {cls:=.type "list",data:=.seq #[]})
(n:∀ h' tk q c as,(∀ b o,b≠S->b≠z->b≠TO->b≠i1->b≠i2->s.heap.get? b=aa o->h'.get? b=aa o)->h'.get? S=aa { cls:=.type "list",dict:=af,data:=.seq q c,slots:=#[] }->as.length=xs.size->ZG xs ys S h' as →
  q.toList=as.map S7->R (.ok (.ret .none)) { s with heap:=h',toks:=tk }):
 av (Su prog w) A.in1 (Builtin.«list.__init__» ⟨[.ref S,.ref z],[]⟩)
  (λfin s'=>match fin with|.done f=>R (.ok f) s'|.again Y=>Y.quiet=ah/\ak (Su prog w) A Y R s') (λe s'=>R (.error e) s') s:=by
 show av _ _ (do let old ←WQ (.ref S);Builtin.List.listUpdate (.ref S) (λ_=>#[]);letGo old.toList.reverse;Tj (.ref S) (.ref z) .none) _ _ s;refine RP ?_;unfold WQ;refine RP (T6 V rfl (au ?_));show av _ _ (Wm S (λ_=>#[]) >>= λ_=>letGo (#[]:Array aA).toList.reverse >>= λ_=>Tj (.ref S) (.ref z) .none) _ _ s;refine RP (Uw V rfl ?_);have D:=SB (TN (λ_=>(#[]:Array aA))) V rfl;have B:∀b o,b≠S->s.heap.get? b=aa o->(s.heap.update S (TN (λ_=>(#[]:Array aA)))).get? b=aa o :=
  λb o m e=>(Ti _ _ (Td m)).trans e
 refine RP (wpAny_letGo ?_);refine yY (s:={s with heap:=s.heap.update S (TN (λ_=>(#[]:Array aA)))}) l L O M hn .none _ (B _ _ (SA L.z) i) (Z.keep L B) D λh' tk q c as k U j p J=>?_;exact n h' tk q c as (λb o W h g d a e=>k b o W h g d a (B b o W e)) U j p J
def Fk(k:A.handled=af)(L:ZLo z TI TO i1 i2 l1 l2 s.heap.objs.size)(V:0<xs.size)(U:xs.size=ys.size)(hn:xs.size<=aj)(h:Yp s.heap z TI TO .none)(Z:ZS z TI TO i1 i2 l1 l2 s.heap.objs.size xs ys 0 s.heap)
(l:∀ h' tk q c as,(∀ b o,b≠z->b≠TO->b≠i1->b≠i2->s.heap.get? b=aa o->h'.get? b=aa o)->h'.get? s.heap.objs.size=aa { cls:=.type "list",dict:=af,data:=.seq q c,slots:=#[] }->as.length=xs.size->ZG xs ys s.heap.objs.size h' as →
  q.toList=as.map S7->Q (.ref s.heap.objs.size) { s with heap:=h',toks:=tk }):
 av (Su prog w) A (call (.type "list") [.ref z]) Q E s:=by
 refine callType_codes (Q₁:=λD B=>D=.ref s.heap.objs.size/\B={s with heap:=s.heap.push {cls:=.type "list",data:=.seq #[]} }) PySem.F.called_list (PySem.F.typeCall_list_1 _) PySem.F.entry_list_init
  (code_list_new _ ⟨rfl,rfl⟩) λD B J=>?_
 obtain⟨rfl,rfl⟩:=J;have Y:(s.heap.push {cls:=.type "list",data:=.seq #[]}).get? s.heap.objs.size=aa {cls:=.type "list",data:=.seq #[]}:=R8 _ rfl;have O:∀b o,s.heap.get? b=aa o->(s.heap.push {cls:=.type "list",data:=.seq #[]}).get? b=aa o:=λb o e=>RT _ e;refine⟨⟨_,Y,rfl⟩,PySem.F.args_list_init_2 _ _,Fj (s:={s with heap:=s.heap.push {cls:=.type "list",data:=.seq #[]} }) (A:=A.in1) k L V U hn (O _ _ h) (Z.keep L λb o _ e=>O b o e) Y λh' tk q c as j W i m M=>?_⟩;exact⟨rfl,l h' tk q c as (λb o g f d a e=>j b o (SA (R6 e)) g f d a (O b o e)) W i m M⟩
end
noncomputable abbrev Fo(h:aq)(l1:az):aq:=h.push {cls:=.type "tuple_iterator",data:=.fields #[.ref l1,.int 0 0]}
noncomputable abbrev Fp(h:aq)(l1 l2:az):aq:=(Fo h l1).push {cls:=.type "tuple_iterator",data:=.fields #[.ref l2,.int 0 0]}
noncomputable abbrev Fq(h:aq)(l1 l2:az):aq:=(Fp h l1 l2).push {cls:=.type "tuple",data:=.seq #[.ref h.objs.size,.ref (Fo h l1).objs.size]}
noncomputable abbrev Ft(h:aq)(l1 l2:az):aq:=(Fq h l1 l2).push {cls:=.type "tuple",data:=.seq #[.none,.none]}
noncomputable abbrev vm(h:aq)(l1 l2:az):aq:=(Ft h l1 l2).push {cls:=.type "zip",data:=.fields #[.none,.bool ai,.bool ai,.ref (Fp h l1 l2).objs.size,.ref (Fq h l1 l2).objs.size]}
def rH(l1 l2:az)(xs ys:Array aA):
 Meets (Builtin.«zip.__new__» ⟨[.type "zip",.ref l1,.ref l2],[]⟩) (λ_ R s=>s.heap.IsTuple l1 xs/\s.heap.IsTuple l2 ys ∧
  R (.ok (.ret (.ref (Ft s.heap l1 l2).objs.size))) { s with heap:=vm s.heap l1 l2 }) :=
 .of_wp λM w A R s h=>by
  obtain⟨U,g,d,L,os⟩:=s;obtain⟨B,q,h⟩:=h;have O:=sub_zip;have J:Heap.IsTuple (Shared.heap ⟨U,g,d,L,os⟩) l1 xs:=B;have D:Heap.IsTuple (Shared.heap ⟨U.push {cls:=.type "tuple_iterator",data:=.fields #[.ref l1,.int 0 0]},g,d,L,os⟩) l2 ys:=Heap.IsTuple.push q _
  wp_walk using WZ J,WZ D
  exact⟨_,rfl,h⟩
section
variable{E:aA->RV->Prop}
def Fv(O:s.heap.IsTuple l1 xs)(M:s.heap.IsTuple l2 ys)
(h:∀ h',Yp h' (s.heap.objs.size+4) (s.heap.objs.size+2) (s.heap.objs.size+3) .none->Vi h' (s.heap.objs.size+2) (.ref s.heap.objs.size) (.ref (s.heap.objs.size+1)) →
  Vi h' (s.heap.objs.size+3) .none .none->h'.IsTupleIter s.heap.objs.size l1 0->h'.IsTupleIter (s.heap.objs.size+1) l2 0->h'.objs.size=s.heap.objs.size+5 →
  (∀ c o,s.heap.get? c=aa o->h'.get? c=aa o)->Q (.ref (s.heap.objs.size+4)) { s with heap:=h' }):
 av (Su prog w) A (call (.type "zip") [.ref l1,.ref l2]) Q E s:=by
 refine callType_new F.called_zip (by decide) (F.typeCall_zip_2 _ _) (F.newCall_zip_2 _ _) (λL=>F.args_object_init_3 L _ _) F.entry_zip_new
  (rH l1 l2 xs ys) ⟨O,M,?_⟩
 have J:(Fo s.heap l1).objs.size=s.heap.objs.size+1:=SY ..;have D:(Fp s.heap l1 l2).objs.size=s.heap.objs.size+2:=by rw[SY,J]
 have B:(Fq s.heap l1 l2).objs.size=s.heap.objs.size+3:=by rw[SY,D]
 have q:(Ft s.heap l1 l2).objs.size=s.heap.objs.size+4:=by rw[SY,B]
 have Z:(vm s.heap l1 l2).objs.size=s.heap.objs.size+5:=by rw[SY,q]
 have U:(vm s.heap l1 l2).get? (Ft s.heap l1 l2).objs.size=aa _:=R8 _ rfl;have V:(vm s.heap l1 l2).get? (Fq s.heap l1 l2).objs.size=aa _:=RT _ (R8 _ rfl);have W:(vm s.heap l1 l2).get? (Fp s.heap l1 l2).objs.size=aa _:=RT _ (RT _ (R8 _ rfl));have Y:(vm s.heap l1 l2).get? (Fo s.heap l1).objs.size=aa _:=RT _ (RT _ (RT _ (R8 _ rfl)));have a:(vm s.heap l1 l2).get? s.heap.objs.size=aa _:=RT _ (RT _ (RT _ (RT _ (R8 _ rfl))));show _/\_;rw[D,B,q] at U;rw[J,D] at W;rw[B] at V;rw[J] at Y;rw[q];exact ⟨⟨_,U,rfl⟩,h _ U W V ⟨_,a,rfl,rfl⟩ ⟨_,Y,rfl,rfl⟩ Z λc o x =>
  RT _ (RT _ (RT _ (RT _ (RT _ x))))⟩
def yZ(h:A.handled=af)(M:s.heap.IsTuple l1 xs)(J:s.heap.IsTuple l2 ys)(V:0<xs.size)(U:xs.size=ys.size)(hn:xs.size<=aj)
(i:∀ h' tk q c as,(∀ b o,s.heap.get? b=aa o->h'.get? b=aa o)->h'.get? (s.heap.objs.size+5)=aa { cls:=.type "list",dict:=af,data:=.seq q c,slots:=#[] }->as.length=xs.size->ZG xs ys (s.heap.objs.size+5) h' as →
  q.toList=as.map S7->Q (.ref (s.heap.objs.size+5)) { s with heap:=h',toks:=tk }):
 av (Su prog w) A (call (.type "zip") [.ref l1,.ref l2]) (λv g=>v=.ref (s.heap.objs.size+4)/\av (Su prog w) A (call (.type "list") [v]) Q E g) E s:=by
 have f:l1<s.heap.objs.size:=let ⟨o,e,_⟩:=M;R6 e;have d:l2<s.heap.objs.size:=let ⟨o,e,_⟩:=J;R6 e;refine Fv M J λB a p n m l Y W=>⟨rfl,?_⟩;have D:YL (s.heap.objs.size+4) (s.heap.objs.size+2) (s.heap.objs.size+3) s.heap.objs.size (s.heap.objs.size+1) l1 l2:=zipApart_new f d;have L:ZLo (s.heap.objs.size+4) (s.heap.objs.size+2) (s.heap.objs.size+3) s.heap.objs.size (s.heap.objs.size+1) l1 l2 B.objs.size:=by rw[Y];exact⟨D,Ul _,Wu (by decide:2<5) _,Wu (by decide:3<5) _,Nat.lt_add_of_pos_right (by decide),Wu (by decide:1<5) _,Sx f (UA _ _),Sx d (UA _ _)⟩
 have Z:ZS (s.heap.objs.size+4) (s.heap.objs.size+2) (s.heap.objs.size+3) s.heap.objs.size (s.heap.objs.size+1) l1 l2 B.objs.size xs ys 0 B :=
  ⟨.inl ⟨rfl,a,_,_,n⟩,p,m,l,let ⟨o,e,r⟩:=M;⟨o,W _ o e,r⟩,let ⟨o,e,r⟩:=J;⟨o,W _ o e,r⟩⟩
 refine Fk (s:={s with heap:=B}) h L V U hn a Z λh' tk q c as k e1 e2 O j=>?_;have k:∀b o,b≠s.heap.objs.size+4->b≠s.heap.objs.size+3->b≠s.heap.objs.size->b≠s.heap.objs.size+1->B.get? b=aa o->h'.get? b=aa o:=k;have e1:h'.get? B.objs.size=aa {cls:=.type "list",dict:=af,data:=.seq q c,slots:=#[]}:=e1;have O:ZG xs ys B.objs.size h' as:=O;show Q (.ref B.objs.size) _;rw[Y]at e1 O⊢;refine i h' tk q c as (λb o e=>k b o ?_ ?_ ?_ ?_ (W b o e)) e1 e2 O j
 all_goals exact SA (Sx (R6 e) (by first|exact UA _ _|exact R0 _))
end
noncomputable def hpz(H:Hp)(n S:az)(as:List az)(ps:List (V×V)):Hp:=λb=>if b<n then H b else if b=S then aa (.aB (as.map V.ref))else((as.zip ps).lookup b).map λp=>HO.aC [p.1,p.2]
def Ce{as:List az}{ps:List (V×V)}{b:az}{p:V×V}(h:(as.zip ps).lookup b=aa p):∃j:Nat,as[j]?=aa b/\ps[j]?=aa p:=by
 induction as generalizing ps with
 |nil=>cases h
 |cons a as B =>
  cases ps with
  |nil=>cases h
  |cons q ps =>
   rw[YS,Uk]at h
   by_cases e:b=a
   ·subst e;simp at h;subst h;exact⟨0,rfl,rfl⟩
   ·have L:(b==a)=ai:=by simpa using e
    rw[L]at h;obtain⟨j,J,D⟩:=B h;exact⟨j+1,by simpa using J,by simpa using D⟩
def Fw{as:List az}{ps:List (V×V)}(L:as.Pairwise (· < ·)){j:Nat}{b:az}{p:V×V}(h1:as[j]?=aa b)(h2:ps[j]?=aa p):(as.zip ps).lookup b=aa p:=by
 induction as generalizing ps j with
 |nil=>simp at h1
 |cons a as J =>
  cases ps with
  |nil=>simp at h2
  |cons q ps =>
   rw[YS,Uk];obtain⟨D,B⟩:=List.pairwise_cons.mp L;cases j with
   |zero =>
    simp at h1 h2;subst h1 h2;simp
   |succ j =>
    simp at h1 h2;have lt:=D b (Sg h1);have M:(b==a)=ai:=by simp only[bS,ne_eq];exact Tt lt
    rw[M];exact J B h1 h2
theorem w6{K:RQ}:∀{as:List az}{q B:List V}{xs ys:List aM},as.length=q.length->q.length=B.length->RDs K m H q xs->RDs K m H B ys →
 (∀(j:Nat) a v u,as[j]?=aa a->q[j]?=aa v->B[j]?=aa u->H a=aa (.aC [v,u])/\a∉m)->RDs K m H (as.map V.ref) (BT.sU xs ys)
 |[],_,_,_,_,h1,h2,r1,r2,_=>by
  cases r1 with
  |nil=>simp[BT.sU];exact .nil|cons _ _=>simp at h1
 |a::as,_,_,_,_,h1,h2,r1,r2,k=>by
  cases r1 with
  |nil=>simp at h1
  |cons M J =>
   cases r2 with
   |nil=>simp at h2
   |cons L D =>
    obtain⟨O,k2⟩:=k 0 a _ _ rfl rfl rfl;refine .cons (.aC (.inl ⟨.inl O,k2⟩) (.cons M (.cons L .nil))) (w6 (by simpa using h1) (by simpa using h2) J D λj a v u e1 e2 U=>k (j+1) a v u (by simpa using e1) (by simpa using e2) (by simpa using U))
def qy(r:dg vs us){j:Nat}(h:us[j]?=aa u):∃v,vs[j]?=aa v/\RelV v u:=by
 have D:=r.length;have q:j<vs.length:=by have:=(List.getElem?_eq_some_iff.mp h).1;lia
 obtain⟨B,e1,e2⟩:=r.get (RY q);rw[h]at e1;cases e1;exact⟨_,RY q,e2⟩
section
def Cf{X:Cx}{sc:TV}{N:List ay}(O:Ok X F G sc N)(hu:f7 N=ah){ex P:Sd}{sa:aY}{np zp p pos:Pos}(hg:dO sc "list"=ah)(hg2:dO sc "zip"=ah)(hs:noStar ex=ah)(hs2:noStar P=ah)(hA:PA X [ex,P] (tDs X F G sa)):
 PE X (.Call (.Name "list" np) [.Call (.Name "zip" zp) [ex,P] [] pos] [] p) (tD X F G (.bi .lzip ai sa)):=by
 intro zt s T H Q I q;have q:=iS q;refine Call_ (gU (u:=.type "list") I (dU O hg) (O.blt _ (by decide)) (by decide +kernel) (SJ ?_ (cY rfl) rfl));rw[cY (show noStar (.Call (.Name "zip" zp) [ex,P] [] pos)=ah from rfl)];show av _ _ (spliced ((ai,eval (.Call (.Name "zip" zp) [ex,P] [] pos) X.env)::Vb p (SM [] X.env))) _ _ s;refine Vz (Call_ (gU (u:=.type "zip") I (dU O hg2) (O.blt _ (by decide)) (by decide +kernel) (SJ (thn (hA pos zt s T H _ I q) λus s1 ⟨vs,H1,I1,r1,L⟩=>?_) (cY hs) (dM (by simp[c7,hs2])))));obtain⟨m,h,ws,z,h',R,rws,e,zr⟩:=L;obtain⟨ds,d,e1,e2,⟨_,rfl,rfl⟩|⟨_,q,_⟩⟩:=gX e
 rotate_left
 cases q;have rr:=gc R rws e1;have hd:∃xs ys,ds=[.aC xs,.aC ys]:=by
  match ds,e2 with
  |[.aC xs,.aC ys],_=>exact⟨xs,ys,rfl⟩
 obtain⟨xs,ys,rfl⟩:=hd;rw[BT.AJ]at e2
 by_cases c:0<xs.length/\xs.length=ys.length
 rotate_left
 rw[bK c]at e2;cases e2;rw[bJ c]at e2;cases e2;cases rr with
 |cons ra t =>
  cases t with
  |cons W t =>
   cases t;cases ra with
   |d ra =>
    cases W with
    |d W =>
     cases ra with
     |@aC a B _ h1 ra =>
      cases W with
      |@aC b D _ h2 W =>
       obtain⟨u1,u2,rfl,ru1,ru2⟩:=r1.two;cases ru1;cases ru2;have sq1:SqT X.K H1 a B:=h1.elim (λq=>.inl q.1) λ⟨o,its,n,q,_⟩=>.inr ⟨o,its,n,q⟩;have sq2:SqT X.K H1 b D:=h2.elim (λq=>.inl q.1) λ⟨o,its,n,q,_⟩=>.inr ⟨o,its,n,q⟩;obtain⟨A,f,p1,z1⟩:=I1.tuple sq1;obtain⟨r,Z,p2,z2⟩:=I1.tuple sq2;have n1:=ra.length;have n2:=W.length;have n3:=f.length;have n4:=Z.length;refine thn (yZ (Q:=EP X zt T Q) (I1.ok.hd (O.calm hu)) (xs:=A.toArray) (ys:=r.toArray) p1 p2 (by simp;lia) (by simp;lia) (by simp;lia) λh' tk acc cc J k g1 g2 E g4=>?_) λv s2 hv=>VH hv.2;have M:∀c:az,c<s1.heap.objs.size->hpz H1 s1.heap.objs.size (s1.heap.objs.size+5) J (B.zip D) c=H1 c:=λc U=>bJ U;have nS:¬(s1.heap.objs.size+5<s1.heap.objs.size):=Nat.not_lt.mpr (UA _ _);have atS:hpz H1 s1.heap.objs.size (s1.heap.objs.size+5) J (B.zip D) (s1.heap.objs.size+5)=aa (.aB (J.map V.ref)):=by unfold hpz;rw[bK nS,bJ rfl]
       have C:∀c:az,s1.heap.objs.size+5<c->hpz H1 s1.heap.objs.size (s1.heap.objs.size+5) J (B.zip D) c=((J.zip (B.zip D)).lookup c).map λp=>HO.aC [p.1,p.2]:=λc U=>by unfold hpz;rw[bK (Nat.not_lt.mpr (SK (UA _ 5) (Uu U))),bK (Tt U)]
       have zg:∀(j:Nat)(v u:V),B[j]?=aa v->D[j]?=aa u->(B.zip D)[j]?=aa (v,u):=λj v u L i=>by rw[XA];exact⟨L,i⟩
       have S:∀(j:Nat) a v u,J[j]?=aa a->B[j]?=aa v->D[j]?=aa u->hpz H1 s1.heap.objs.size (s1.heap.objs.size+5) J (B.zip D) a=aa (.aC [v,u]):=λj a v u L i q3=>by rw[C a (E.above a (Sg L)),Fw E.rise L (zg j v u i q3)];rfl
       have fresh:∀c:az,s1.heap.objs.size<=c->H1 c=af:=λc U=>I1.aJ.fresh U;have live:∀c u,H1 c=aa u->hpz H1 s1.heap.objs.size (s1.heap.objs.size+5) J (B.zip D) c=aa u:=λc u q=>by rw[M c (I1.aJ.lt q)];exact q
       have aJ:HOk X.prog X.w (hpz H1 s1.heap.objs.size (s1.heap.objs.size+5) J (B.zip D)) h':=λc u q=>by
        by_cases lc:c<s1.heap.objs.size
        ·rw[M c lc]at q;exact(I1.aJ c u q).stay (λb o _ w=>k b o w) (λb w=>live b _ w) λb l w=>live b _ w
        ·by_cases ec:c=s1.heap.objs.size+5
         ·subst ec;rw[atS]at q;cases q;refine⟨by rw[Se,g2];simp;lia,acc.toList,cc,?_,by simpa using g1⟩;rw[g4];clear g1 g2 E g4 S C atS M live
          induction J with
          |nil=>exact .nil|cons a J ih=>exact .cons rfl ih
         ·have Y:=q;unfold hpz at Y;rw[bK lc,bK ec]at Y;cases hL:(J.zip (B.zip D)).lookup c with
          |none=>rw[hL]at Y;cases Y
          |some pr =>
           rw[hL]at Y;cases Y;obtain⟨j,j1,j2⟩:=Ce hL;obtain⟨v,w⟩:=pr;rw[XA]at j2;obtain⟨x,y,x1,y1,pa⟩:=E.pairs j c j1;obtain⟨v',v1,v2⟩:=qy f (by simpa using x1);obtain⟨w',w1,w2⟩:=qy Z (by simpa using y1);rw[j2.1]at v1;rw[j2.2]at w1;cases v1;cases w1;exact⟨by show 2<=aj;decide,[x,y],.cons v2 (.cons w2 .nil),_,pa,rfl,_,rfl⟩
       have I2:Inv X zt T (hpz H1 s1.heap.objs.size (s1.heap.objs.size+5) J (B.zip D)) { s1 with heap:=h',toks:=tk }:=Inv.EX (s:=s1) (tk:=tk) (fp:=[]) I1 (λb hb=>nomatch hb) (λb o _ e=>k b o e) M aJ;have x:Ext m H1 m (hpz H1 s1.heap.objs.size (s1.heap.objs.size+5) J (B.zip D)):=⟨⟨[],by simp,by simp⟩,λc o q _ _=>live c o q,λc q=>by
        cases g:H1 c with
        |none=>rfl
        | some o=>rw[live c o g] at q;exact bL q (by simp),λc ob vs q=>live c _ q⟩
       have ni:∀c:az,s1.heap.objs.size<=c->c∉m:=λc U=>R.jP (fresh c U);refine⟨.ref (s1.heap.objs.size+5),_,I2,rfl,zr _ _ m x (R.ext x live) (.p (.aB (.inl ⟨.inl atS,ni _ (UA _ _)⟩) (w6 ?_ ?_ (ra.ext x) (W.ext x) λj a v u L i q3=>⟨S j a v u L i q3,ni a ?_⟩)))⟩;rw[g2];simp;lia;lia;exact SK (UA _ 5) (Uu (E.above a (Sg L)))
end
inductive ZK
 |l(a:az)|t(a:az)|s(x:ay)(k:Tok)
noncomputable def ZK.ty:ZK->String
 |.l _=>"list_iterator"|.t _=>"tuple_iterator"|.s x _=>strIterType x
noncomputable def ZK.val:ZK->aA
 |.l a=>.ref a|.t a=>.ref a|.s x k=>.str x k
def ZK.at(q:ZK)(B:az)(i:Nat)(h:aq):Prop:=match q with
 |.l a=>h.IsListIter B a i|.t a=>h.IsTupleIter B a i|.s x k=>h.IsStrIter B (strIterType x) x k i
def ZK.item(q:ZK)(i:Nat)(h:aq)(u:aA):Prop:=match q with
 |.l a=>∃B:List aA,h.IsList a B.toArray/\B[i]?=aa u|.t a=>∃B:List aA,h.IsTuple a B.toArray/\B[i]?=aa u|.s x _=>∃c t,x.cps[i]?=aa c/\u=.str ⟨#[c]⟩ t
def ZK.done(q:ZK)(i:Nat)(h:aq):Prop:=match q with
 |.l a=>∃B:List aA,h.IsList a B.toArray/\B.length<=i|.t a=>∃B:List aA,h.IsTuple a B.toArray/\B.length<=i|.s x _=>x.cps.size<=i
section
variable{prog:So}{w:SQ}{A:TF}{E:aA->RV->Prop}{s:RV}
end
def ZK.ob(q:ZK):ao:={cls:=.type q.ty,data:=.fields #[q.val,.int 0 0]}
def ZK.here(q:ZK)(h:aq):Prop:=match q with
 |.l a=>∃B:List aA,h.IsList a B.toArray|.t a=>∃B:List aA,h.IsTuple a B.toArray|.s _ _=>True
section
variable{prog:So}{w:SQ}{A:TF}{E:aA->RV->Prop}{s:RV}
end
section
variable{prog:So}{w:SQ}{A:TF}{E:aA->RV->Prop}{s:RV}
end
def ZK.has(q:ZK)(K:RQ)(H:Hp)(i:Nat):Prop:=match q with
 |.l a=>∃B x,SqL K H a B/\B[i]?=aa x|.t a=>∃B x,SqT K H a B/\B[i]?=aa x|.s x _=>∃c,x.cps[i]?=aa c
def ZK.is(q:ZK)(K:RQ)(H:Hp)(i:Nat)(v:V):Prop:=match q with
 |.l a=>∀B,SqL K H a B->B[i]?=aa v|.t a=>∀B,SqT K H a B->B[i]?=aa v|.s x _=>∃c,x.cps[i]?=aa c/\v=.str ⟨#[c]⟩
def ZK.over(q:ZK)(K:RQ)(H:Hp)(i:Nat):Prop:=match q with
 |.l a=>∃B,SqL K H a B/\B.length<=i|.t a=>∃B,SqT K H a B/\B.length<=i|.s x _=>x.cps.size<=i
section
variable{X:Cx}{zt:List (az×ao)}{σ:L2.St}{H:Hp}{s:RV}
end
section
variable{F:FT}{G:ay->Option aN}
end
section
variable{prog:So}{w:SQ}{A:TF}{E:aA->RV->Prop}{s:RV}
end
section
variable{F:FT}{G:ay->Option aN}
end
section
variable{X:Cx}{F:FT}{G:ay->Option aN}
end
section
variable{X:Cx}{F:FT}{G:ay->Option aN}
end
section
variable{m:List az}
def RBs.length{vs:List V}{ns:List Nat}(r:RBs m vs ns):vs.length=ns.length:=by
 induction r with
 |nil=>rfl|cons _ _ q=>rw[Sh,Sh,q]
theorem RBs.get:∀{vs:List V}{ns:List Nat}{i n:Nat},RBs m vs ns->ns[i]?=aa n->∃a,vs[i]?=aa (.ref a)/\m[n]?=aa a
 |_,_,_,_,.nil,e=>by simp at e
 |_,_,0,_,.cons r _,e=>by simp at e;subst e;exact⟨_,rfl,r⟩
 |_,_,i+1,d,.cons _ t,e=>by obtain⟨u,B,q⟩:=RBs.get (i:=i) (n:=d) t (by simpa using e);exact⟨u,by simpa using B,q⟩
theorem RBs.add{n:Nat}{a:az}(h:m[n]?=aa a):∀{vs:List V}{ns:List Nat},RBs m vs ns->RBs m (vs++[.ref a]) (ns++[n])
 |_,_,.nil=>.cons h .nil|_,_,.cons r t=>.cons r (RBs.add h t)
def RBs.atI{vs:List V}{ns:List Nat}{i:Int}{d:Nat}(r:RBs m vs ns)(e:BT.atP ns i=aa d):∃a,L2.atI vs i=aa (.ref a)/\m[d]?=aa a:=by unfold BT.atP at e;unfold L2.atI;obtain⟨j,J,D⟩:=Option.bind_eq_some_iff.mp e;obtain⟨v,B,q⟩:=r.get D;refine⟨v,?_,q⟩;rw[r.length];show((BT.place ns.length i).bind λj=>vs[j]?)=_;rw[J];exact B
end
section
variable{F:FT}{G:ay->Option aN}
def Jr{X:Cx}{a:aV}(σ:L2.St)(H:Hp)(Q:VK)(q:tD X F G (.obl a) σ H Q):HE (tDs X F G (.cons a .nil)) σ H Q:=by
 obtain⟨m,s,h,z,Z,R,S,D,L⟩:=q;simp only[aL]at D;obtain⟨x,V,e1,e2⟩:=c5 D;cases x with
 |o n =>
  cases e2;refine⟨m,s,h,[.o n],V,R,S,by simp only[aX,e1,BT.d9,BT.lF,BT.jn],λY W U M J O=>?_⟩;cases O with
  |cons r t =>
   cases t;cases r with
   |o hn =>
    refine⟨by show 1<=_;decide,λp B=>?_⟩;refine L _ _ (U++[p]) (M.trans (jc B)) (J.IK B ⟨_,eN,.cons ((jc (H:=W) (o:=.own 0) B).ix hn) .nil⟩) (.r ?_);rw[←J.len];simp
 |_=>exact cU e2
def Js{X:Cx}:IxR X (rOp X.prog X.w X.K BT.Ir):=by
 intro q B L s J H v u k l Q I V W h c;obtain⟨m,h,x,y,z,A,R,U,D,e,M⟩:=h;cases U with
 |@r a n hn =>
  cases D with
  |p D =>
   cases D with
   |int i =>
    rw[BT.Et]at e;obtain⟨t,g,e⟩:=Option.bind_eq_some_iff.mp e;obtain⟨d,e1,e2⟩:=dh e;cases e2;obtain⟨O,j,f⟩:=R.wB _ _ _ hn g;obtain⟨b,Z,Y⟩:=f.atI e1;exact vY q B L s J H _ _ _ _ Q I V W ⟨a,O,i,_,rfl,rfl,.inl (.inl j),Z,M _ _ m (.refl _ _) R (.o Y)⟩ c
   |_=>exact cU e
  |_=>exact cU e
 |_=>exact cU e
def Jt{X:Cx}{sc:TV}{N:List ay}(O:Ok X F G sc N){a:aV}{e:Sd}{p pos:Pos}(d:dO sc "len"=ah)(b:noStar e=ah)(f:PA X [e] (tDs X F G (.cons a .nil))):PE X (.Call (.Name "len" p) [e] [] pos) (tD X F G (.obn a)):=by
 refine PE.weak (fB jm (dU O d) (O.blt _ (by decide)) PySem.boot_len f (by decide) (by decide) (cY b) rfl) fun j H Q q=>?_;obtain⟨m,s,h,z,i,R,S,D,L⟩:=q;simp only[aL]at D;obtain⟨x,o,e1,e2⟩:=c5 D;cases x with
 |r n =>
  rw[BT.Iz]at e2;obtain⟨l,g,B⟩:=Option.bind_eq_some_iff.mp e2;obtain⟨c,B⟩:=dw B;cases B;refine⟨m,s,h,[.r n],i,R,S,by simp only[aX,e1,BT.d9,BT.lF,BT.jn],λk u Z M J V=>?_⟩;cases V with
  |cons r t =>
   cases t;cases r with
   |r hn =>
    obtain⟨U,Y,W⟩:=J.wB _ _ _ hn g;refine⟨_,U,rfl,.inl (.inl (.inl Y)),?_⟩;rw[W.length];exact L _ _ Z M J (.p (.int _))
 |_=>exact cU e2
def Ju{X:Cx}{o a:aV}{M e:Sd}{apos cpos:Pos}(K:dX M=ah)(E:(apos.endLine==cpos.line)=ah)(Y:noStar e=ah)(C:PE X M (tD X F G o))(N:PA X [e] (tDs X F G (.cons a .nil))):PE X (.Call (.Attribute M "append" apos) [e] [] cpos) (tD X F G (.oba o a)):=by
 refine PE.weak (An Ut Xb Xa qk C N (lN K) (by rw[jT (es:=[e]) (by simp[c7,Y])];rfl) E (cY Y) rfl) fun σ H Q q=>?_;obtain⟨m,s,h,z,h',R,S,b,f⟩:=q;simp only[aL]at b;obtain⟨x,O,e1,e2⟩:=c5 b;cases x with
 |r n =>
  rw[BT.Iw]at e2;have c:(BT.bat O n).isSome=ah:=Decidable.byContradiction λz=>by rw[bK z]at e2;exact cU e2
  rw[bJ c]at e2;obtain⟨y,P,e3,D⟩:=c5 e2;obtain⟨u,T⟩:=Option.isSome_iff_exists.mp c;refine⟨m,s,h,.r n,O,R,S,e1,λv H1 A V d k=>?_⟩;cases k with
  |r hn =>
   obtain⟨J,l,_⟩:=d.wB _ _ _ hn T;refine⟨.inl ⟨rfl,J,.inl (.inl l)⟩,A,s,O,[y],P,d,S.ext V,by simp only[aX,e3,BT.d9,BT.lF,BT.jn],λvs H2 w U R2 j=>?_⟩;cases j with
   |cons r t =>
    cases t;cases r with
    |o I =>
     rw[BT.Iu]at D;obtain⟨ns,g,D⟩:=Option.bind_eq_some_iff.mp D;obtain⟨c2,D⟩:=dw D;cases D;have B:=U.ix hn;obtain⟨i,L,W⟩:=R2.wB _ _ _ B g;have:=f9;have Z:=W.length;exact⟨_,i,_,rfl,rfl,L,by lia,f _ _ w ((V.trans U).trans (iH (Sg B) L)) (R2.setC B ⟨_,L,rfl⟩ ⟨_,eN,W.add I⟩) (.p .aD)⟩
    |_=>exact cU D
 |_=>exact cU e2
def za{K:RQ}{C f:az}(h:SD K (.ref C) "__init__"=aa (aa (.ref f)))(h2:VQ K (.ref f)=ah):YO K (.ref C) (.type "type") "__init__"=aa (.val (.ref f)):=by unfold YO;rw[show SD K (.type "type") "__init__"=aa (aa (.builtin "type.__init__")) from(by decide +kernel:SD [] (.type "type") "__init__"=aa (aa (.builtin "type.__init__")))];simp only[SH];rw[show UD K (.builtin "type.__init__") "__get__"=aa (aa (.builtin "wrapper_descriptor.__get__")) from(by decide +kernel:UD [] (.builtin "type.__init__") "__get__"=aa (aa (.builtin "wrapper_descriptor.__get__")))];simp only[SH];rw[show VO K (.builtin "type.__init__")=aa ai from(by decide +kernel:VO [] (.builtin "type.__init__")=aa ai)];simp only[SH];rw[h];simp only[SH];rw[bK (show ¬Builtin.heldUnderItsOwnName "__init__" (.ref f)=ah from λz=>nomatch z),bQ h2];simp only[SH];rw[bJ (by decide +kernel)]
def Jv{X:Cx}{sc:TV}{N:List ay}(O:Ok X F G sc N){c:ay}{as:aY}{e:Sd}{es:List Sd}{E apos cpos:Pos}(hg:dO sc c=ah)(hn:fQ c=ah)(hl:(apos.endLine==cpos.line)=ah)(L:(e::es).length<20)(J:c7 (e::es)=ah)(ha:PA X (e::es) (tDs X F G as)):
 PE X (.Call (.Attribute (.Name c E) "__init__" apos) (e::es) [] cpos) (tD X F G (.sup c as)):=by
 intro d s M H Q I q;obtain⟨m0,t,h,z,h',R,S,i,l⟩:=q;simp only[aL]at i;obtain⟨f,g,e1,e2⟩:=c5 i;obtain⟨C,ga,fd,ps,k,b,Z,hB,hR,ok⟩:=O.aF _ _ _ _ _ e2;obtain⟨C',_,_,_,_,a,Y,_,_,_,_⟩:=O.mkc _ _ _ _ e2;cases b.cn.inj a.cn;have U:vU (spF X.prog X.w X.K (F (.m c "__init__"))) [] E0 (tDs X F G as) M H Q:=by refine⟨m0,t,h,f,g,R,S,e1,λus j T o R1 A=>?_⟩;rw[TJ];exact⟨T,f,g,z,h',R1,A,e2,λp H5 P n R5 y=>l p H5 P (o.trans n) R5 y⟩
 have D:=b.rd;simp only[WL,RX,beq_iff_eq]at D;have V:UD X.K (.ref C) "__getattribute__"=aa (aa (.builtin "type.__getattribute__")):=by unfold UD;rw[D.1.1.1.2];exact D.1.1.2
 have B:=J;simp only[c7,RX]at B;refine VP (thn (qI (v:=.ref C) (dU O hg) Y rfl (gM hn).1 d s M H (λv H'=>v=.ref C/\H'=H) I ⟨rfl,rfl⟩) λu s1 ⟨x,j,I1,rx,ex,eh⟩=>?_) (mC rfl J L hl);subst ex eh;obtain rfl:u=S7 C:=rx;refine PySem.W.method_cls I1.kIn V (PySem.W.cls_value I1.kIn b.rd (za Z.at_ Z.fn) rfl ?_);have I2:=I1.tok (s1.toks+1);refine Vu (first:=[]) (h₀:=X.base) I.ok.mod.kin Z.kp (thn (ha cpos d _ M j _ I2 U) λus s2 ⟨vs,H2,I3,r,q2⟩=>⟨I3.kIn,?_⟩) (cY B.1) (dM B.2);exact nJ (us:=us) (vs:=vs) ok hR hB .nil nM I3 r q2
end
section
def zb{X:Cx}{v:V}{ds:List aM}(r:∀m H,RW X.prog X.w X.K m H v (.p (.aC ds))):∃a vs,v=.ref a/\KT X.K a vs:=by
 have z:=r [] (λ_=>af);cases z with
 |p z =>
  cases z with
  |@aC a vs _ h _ =>
   rcases h with⟨h,_⟩|h
   ·rcases h with h|⟨o,h⟩<;>exact cU h
   exact⟨a,vs,rfl,h⟩
def zc{X:Cx}{sc:TV}{N:List ay}(O:Ok X F G sc N){x:ay}{as:aY}{es:List Sd}{np apos cpos:Pos}(h2:dO sc x=ah)(h3:fQ x=ah)(hl:(apos.endLine==cpos.line)=ah)(V:es.length<20)(i:CEs sc N as es)(ha:PA X es (tDs X F G as)):
 PE X (.Call (.Attribute (.Name x np) "index" apos) es [] cpos) (tD X F G (.me .tindex (.aE x) as)):=by
 have B:=iB i;intro v s t H Q I q;obtain⟨m,K,h,z,h',R,S,k,y⟩:=q;simp only[aL]at k;obtain⟨w,g,e1,e2⟩:=c5 k;obtain⟨_,e2⟩:=wG e2;obtain⟨M,j,c,D⟩:=c5 e2;obtain⟨w',e5,e6⟩:=dh e1;cases e6;obtain⟨u,v0,hm,P,U⟩:=O.glob _ _ e5;have hT:∃J L,aZ M=aa J/\w=.p (.aC L)/\J≠[]:=by
  cases w with
  |p d =>
   rw[BT.nP]at D;cases W:aZ M with
   |none=>rw[W]at D;exact cU D
   |some J =>
    rw[W]at D;obtain⟨b,l,e8⟩:=dh D;cases d with
    |aC L=>refine⟨J,L,rfl,rfl,λz=>?_⟩;subst z;exact cU l|_=>cases J<;>exact cU l
  |_=>cases M<;>(first|exact cU D|simp[aP]at D)
 obtain⟨J,L,W,rfl,Y⟩:=hT;obtain⟨a,vt,rfl,o,its,n,⟨k1,k2,k3,k4,k5⟩,k6⟩:=zb U;cases es with
 |nil =>
  cases as with
  |cons a r=>exact(oG i).elim|nil=>simp only[aX]at c;cases c;simp[aZ]at W;exact bL W Y
 |cons e es =>
  simp only[c7,RX] at B;have Z:decide ((e::es).length+([]:List Wv).length+(if ([]:List Wv).isEmpty then 0 else 1) < 30)=ah:=bO (by
   simp only[Sh,SW,List.isEmpty_nil,if_true] at V ⊢;lia)
  refine (An PySem.F.plainAttrs_tuple PySem.F.slot_tuple_index PySem.F.type_tuple_index (yO O.hu) (qI (dU O h2) hm P (gM h3).1) ha rfl (by
   rw[jT (es:=e::es) (by simp only[c7,RX];exact B),Z];rfl) hl (cY B.1) (dM B.2)) v s t H Q I ?_
  refine⟨.inr (.inl ⟨rfl,o,k1,k2,k6⟩),m,K,h,M,j,R,S,c,λvs H2 f C R2 r2=>?_⟩;exact⟨f,j,.p (.aC L),M,z,h',R2,U f H2,r2,D,λE H5 m5 A R5 T=>y E H5 m5 (C.trans A) R5 T⟩
def Jw{X:Cx}{me:BT.Me}(B:me=.append\/me=.pop\/me=.extend){o:aV}:∀(m:List az)(h h2:aO)(H:Hp)(v:V) (x:aN) ws r,RH X.K m H h->RW X.prog X.w X.K m H v x->BT.kO x h=ah->aP me x ws h2=aa r->(∃σ s,RS X.prog X.w X.K m H σ s/\∃D,aL F G o s D=aa (x,h))->tyV X.K "list" v H:=by intro m h h2 H v x ws r R q ok e _;obtain⟨n,rfl⟩:=Qd B e;exact ty_list R q ok
def Qg{X:Cx}{o:aV}:∀(m:List az)(h h2:aO)(H:Hp)(v:V) (x:aN) ws r,RH X.K m H h->RW X.prog X.w X.K m H v x->BT.kO x h=ah->aP .sindex x ws h2=aa r->(∃σ s,RS X.prog X.w X.K m H σ s/\∃B,aL F G o s B=aa (x,h))->tyV X.K "str" v H:=by
 intro m h h2 H v x ws r R q _ e _;cases x with
 |p d =>
  rw[BT.nQ]at e;cases g:aZ ws with
  |none=>rw[g]at e;exact cU e
  |some J =>
   rw[g]at e;obtain⟨b,D,L⟩:=dh e;cases d with
   |str y=>cases q with|p r=>cases r;exact rfl
   |_=>cases J<;>exact cU D
 |_=>cases ws<;>(first|exact cU e|simp[aP]at e)
def Qh{X:Cx}{me:BT.Me}(J:me=.count\/me=.lindex){o:aV}:∀(m:List az)(h h2:aO)(H:Hp)(v:V) (x:aN) ws r,RH X.K m H h->RW X.prog X.w X.K m H v x->BT.kO x h=ah->aP me x ws h2=aa r->(∃σ s,RS X.prog X.w X.K m H σ s/\∃O,aL F G o s O=aa (x,h))->tyV X.K "list" v H:=by
 intro m h h2 H v x ws r R M _ e _;have B:∃D,x=.p (.aB D):=by
  cases x with
  |p d =>
   rw[tM]at e;cases g:aZ ws with
   |none=>rw[g]at e;exact cU e
   |some W =>
    rw[g]at e;obtain⟨b,U,Y⟩:=dh e;cases d with
    |aB y=>exact⟨y,rfl⟩
    |_=>rcases J with rfl|rfl<;>cases W<;>exact cU U
  |_=>rcases J with rfl|rfl<;>cases ws<;>(first|exact cU e|simp[aP]at e)
 obtain⟨D,rfl⟩:=B;cases M with
 |p r =>
  cases r with
  |@aB a L _ h _=>exact .inl ⟨rfl,L,LL.sq (h.elim (λq=>.inl q.1) .inr)⟩
def Qi(σ:L2.St)(H:Hp)(Q:Bool->Hp->Prop)(q:tDT X F G e σ H Q):tB (tD X F G e) σ H Q:=by obtain⟨m,s,J,b,L,R,S,M,B⟩:=q;refine⟨m,s,J,_,L,R,S,M,λv U D x O r=>?_⟩;exact⟨b,mz r,B U D x O⟩
def XE(F:FT)(G:ay->Option aN)(X:Cx)(e':aV)(e:Sd):Prop:=PE X e (tD X F G e')/\(tOK e'=ah->PT X e (tDT X F G e')/\∀B q p,e=.BoolOp B q p->PW X e (tDT X F G e'))
def XO(F:FT)(G:ay->Option aN)(X:Cx)(q:aY)(o:Option Sd):Prop:=∃t,PO X o t ∧
 ∀D H (Q:Option Int->Hp->Prop),(∃m s h l J M,RH X.K m H h/\RS X.prog X.w X.K m H D s/\aX F G q s h=aa (J,M)/\(aZ J).bind BT.qO=aa l/\∀B L,Ext m H L B->RH X.K L B M->Q l B)->t D H Q
def fh(p:PE X e (tD X F G e'))(L:∀D vs q,e≠.BoolOp D vs q)(J:∀B,isTrue e X.env B=(do let v ←B;X3 e.pos;V6 [v] (truthy v)):=by intro _;rfl):XE F G X e' e :=
 ⟨p,λ_=>⟨PT.weak (Hg p J) Qi,λD vs q z=>bL z (L D vs q)⟩⟩
def Jx:XO F G X .nil af:=⟨_,D3,fun D H Q q=>by obtain⟨m,s,h,l,J,L,R,S,e1,e2,B⟩:=q;simp only[aX]at e1;cases e1;simp[aZ,BT.qO]at e2;subst e2;exact B H m (.refl _ _) R⟩
def Jy(O:PE X e (tD X F G a)):XO F G X (.cons a .nil) (aa e):=by
 refine⟨_,D4 O,fun Z H Q q=>?_⟩;obtain⟨m,s,h,l,b,U,R,S,e1,e2,D⟩:=q;simp only[aX]at e1;obtain⟨x,c,V,B⟩:=c5 e1;simp only[BT.lF,BT.d9,BT.jn]at B;cases B;refine⟨m,s,h,x,U,R,S,V,λv Y M J W L=>?_⟩;cases L with
 |p r =>
  cases r<;>simp[aZ,BT.qO]at e2;subst e2;exact⟨_,rfl,D Y M J W⟩
 |_=>simp[aZ]at e2
def jU(V:PE X e (tD X F G a))(U:noStar e=ah):PA X [e] (tDs X F G (.cons a .nil)) :=
 PA.weak (j7 V qJ (cY U)) fun B H Q q=>by obtain⟨m,s,h,J,W,R,S,Y,D⟩:=cons_of B H Q q;exact⟨m,s,h,J,W,R,S,Y,λv b O L Z M=>ku (D v b O L Z M)⟩
def vn(J:PE X e (tD X F G a))(D:PE X f (tD X F G b))(B:noStar e=ah)(q:noStar f=ah):PA X [e,f] (tDs X F G (.cons a (.cons b .nil))) :=
 PA.weak (j7 J (jU D q) (cY B)) cons_of
def M6(sc:TV)(q:Sd)(o:aV):Prop:=∃x p,o=.aE x/\q=.Name x p/\dO sc x=ah/\fQ x=ah
def Qj(sc:TV):Tq->Prop
 |.e o q=>uX o=ai\/M6 sc q o|_=>True
def Fx(h:CQ sc N t):Qj sc t:=by
 induction h with
 |aE q hn=>exact .inr ⟨_,_,rfl,rfl,q,hn⟩
 |_=>first|exact .inl rfl|exact UW
def Jz(h:CE' sc N o oe):uX o=ai\/M6 sc oe o:=Fx h
def sMe(O:Ok X F G sc N)(h1:Ey m o=ah)(h2:name=Ba m)(M:dX oe=ah)(J:(apos.endLine==cpos.line)=ah)(D:es.length<20)(U:CE' sc N o oe)(q:CEs sc N as es)(L:PE X oe (tD X F G o))(B:PA X es (tDs X F G as)):
 PE X (.Call (.Attribute oe name apos) es [] cpos) (tD X F G (.me m o as)):=by
 subst h2;cases m with
 |append=>exact oJ (sc:=sc) (N:=N) Ut Xb Xa yM M J D L q B (Jw (.inl rfl))|pop=>exact oJ (sc:=sc) (N:=N) Ut PySem.F.slot_list_pop PySem.F.type_list_pop IU M J D L q B (Jw (.inr (.inl rfl)))|extend=>exact oJ (sc:=sc) (N:=N) Ut PySem.F.slot_list_extend PySem.F.type_list_extend yN M J D L q B (Jw (.inr (.inr rfl)))|sindex=>exact oJ (sc:=sc) (N:=N) PySem.F.plainAttrs_str PySem.F.slot_str_index PySem.F.type_str_index yP M J D L q B Qg
 |tindex =>
  rcases Jz U with z|⟨x,p,rfl,rfl,hg,hn⟩
  exact Bool.noConfusion (z.symm.trans h1);exact zc O hg hn J D q B
 |count=>exact oJ (sc:=sc) (N:=N) Ut PySem.F.slot_list_count PySem.F.type_list_count (BQ O.hu) M J D L q B (Qh (.inl rfl))|_=>simp[Ey]at h1
def M7(B:PE X (.BoolOp .And (x::r) p) (tD X F G (.and a b)))(w:tOK (.and a b)=ah->PW X (.BoolOp .And (x::r) p) (tDT X F G (.and a b))):XE F G X (.and a b) (.BoolOp .And (x::r) p) :=
 ⟨B,λq=>⟨(w q).pt,λ_ _ _ e=>by cases e;exact w q⟩⟩
def sOr(B:PE X (.BoolOp .Or (x::r) p) (tD X F G (.or a b)))(w:tOK (.or a b)=ah->PW X (.BoolOp .Or (x::r) p) (tDT X F G (.or a b))):XE F G X (.or a b) (.BoolOp .Or (x::r) p) :=
 ⟨B,λq=>⟨(w q).pt,λ_ _ _ e=>by cases e;exact w q⟩⟩
def nu(h:tOK (.and a b)=ah):tOK a=ah/\tOK b=ah:=by have h:(tOK a&&tOK b)=ah:=h;simpa only[RX]using h
def rJ(h:tOK (.or a b)=ah):tOK a=ah/\tOK b=ah:=by have h:(tOK a&&tOK b)=ah:=h;simpa only[RX]using h
def MX(F:FT)(G:ay->Option aN)(sc:TV)(N:List ay):Tq->Prop
 |.e M e=>∀(X:Cx),Ok X F G sc N->XE F G X M e|.es O es=>∀(X:Cx),Ok X F G sc N->PA X es (tDs X F G O)|.o B o=>∀(X:Cx),Ok X F G sc N->XO F G X B o|.c cond q=>oR F G sc N cond q|.i J L iter=>∀(X:Cx),Ok X F G sc N->∀(D:Sd),tH J D=ah->PI X D iter (iD X F G J L)
def sQ(h:CQ sc N t):MX F G sc N t:=by
 refine @CQ.rec (λsc N t _=>MX F G sc N t)
  (λr k a X O=>fh (wF O r k a) (λ_ _ _ z=>nomatch z))
  (λh X O=>fh (EL h) (λ_ _ _ z=>nomatch z))
  (λk a X O=>fh (EM O k a) (λ_ _ _ z=>nomatch z))
  (λh _ _ B J X O=>fh (PE.weak (Ls (opB h) (B _ O).1 (J _ O).1) (oH λs h=>by simp only[aL])) (λ_ _ _ z=>nomatch z))
  (λ_ B X O=>fh (PE.weak (GA zU (B _ O).1) Jb) (λ_ _ _ z=>nomatch z))
  (λ_ B X O=>⟨PE.weak (Hj (B _ O).1) ES,λL=>⟨PT.weak (Hi ((B _ O).2 L).1) ER,λ_ _ _ e=>nomatch e⟩⟩)
  (λ_ _ B J X O=>M7 (PE.weak (zM (B _ O).1 (zL (J _ O).1)) wJ) λL=>PW.weak (zK ((B _ O).2 (nu L).1).1 (DJ ((J _ O).2 (nu L).2).1)) wK)
  (λ_ _ B J X O=>M7 (PE.weak (zM (B _ O).1 (J _ O).1) wJ) λL=>PW.weak (zK ((B _ O).2 (nu L).1).1 (((J _ O).2 (nu L).2).2 _ _ _ rfl)) wK)
  (λ_ _ B J X O=>sOr (PE.weak (Gz (B _ O).1 (zL (J _ O).1)) BB) λL=>PW.weak (Gw ((B _ O).2 (rJ L).1).1 (Hh ((J _ O).2 (rJ L).2).1)) BD)
  (λ_ _ B J X O=>sOr (PE.weak (Gz (B _ O).1 (J _ O).1) BB) λL=>PW.weak (Gw ((B _ O).2 (rJ L).1).1 (((J _ O).2 (rJ L).2).2 _ _ _ rfl)) BD)
  (λh _ _ i B J X O=>⟨PE.weak (DS (opC O h) (B _ O).1 (J _ O).1 i) (oH λs h=>by simp only[aL]),λ_=>⟨PT.weak (DT (opC O h) (B _ O).1 (J _ O).1 i) (tP (oH λs h=>by simp only[aL])),λ_ _ _ e=>nomatch e⟩⟩)
  (λh v _ _ _ i B J d X O=>⟨PE.weak (zX (opC O h) (opC O v) (B _ O).1 (J _ O).1 (d _ O).1 i) tQ,λ_=>⟨PT.weak (zY (opC O h) (opC O v) (B _ O).1 (J _ O).1 (d _ O).1 i) (tP tQ),λ_ _ _ e=>nomatch e⟩⟩)
  (λh _ _ _ d B J X O=>⟨PE.weak (zN ((d _ O).2 h).1 (B _ O).1 (J _ O).1) Ja,λL=>nomatch L⟩)
  (λ_ B X O=>⟨PE.weak (HF (B _ O)) Je,λL=>nomatch L⟩)
  (λ_ B X O=>⟨PE.weak (Ad (B _ O)) Jf,λL=>nomatch L⟩)
  (λ_ _ D B g X O=>fh (PE.weak (GC IT (B _ O).1 (g _ O).1 (tO D)) (oH λs h=>by simp only[aL])) (λ_ _ _ z=>nomatch z))
  (λ_ _ _ B y w X O=>fh (by
   obtain ⟨tl,o,n⟩:=y _ O;obtain ⟨R,m,l⟩:=w _ O;exact PE.weak (Al osl (B _ O).1 o m) (Jc n l)) (λ_ _ _ z=>nomatch z))
  (λM hn Z B X O=>fh (BE O M hn Z (B _ O)) (λ_ _ _ z=>nomatch z))
  (λW M V D _ B X O=>fh (B8 O W M V D (jU (B _ O).1 D)) (λ_ _ _ z=>nomatch z))
  (λW M V D _ B X O=>fh (B5 O W M V D (jU (B _ O).1 D)) (λ_ _ _ z=>nomatch z))
  (λW b M D _ B X O=>fh (Jd O W b M (by simp[c7,D]) (jU (B _ O).1 D)) (λ_ _ _ z=>nomatch z))
  (λb M V D _ B X O=>fh (BH O b M V D (B _ O).1) (λ_ _ _ z=>nomatch z))
  (λr k a c j E Z f B X O=>fh (sMe O r k a c j E Z (f _ O).1 (B _ O)) (λ_ _ _ z=>nomatch z))
  (λW p L C D _ _ _ g d A X O=>⟨Fc O W p L D (g _ O _ C) d λK u=>(A _ u).1,λL=>nomatch L⟩)
  (λb I _ B X O=>fh (EU (sc:=sc) (N:=N) b I (B _ O).1) (λ_ _ _ z=>nomatch z))
  (λa c j _ Z f B X O=>fh (BJ O a c j (f _ O).1 Z (B _ O)) (λ_ _ _ z=>nomatch z))
  (λp _ B X O=>fh (EV p (B _ O).1) (λ_ _ _ z=>nomatch z))
  (λW b M Y U _ _ B J X O=>fh (EW O W b M (by simp[c7,Y,U]) (vn (B _ O).1 (J _ O).1 Y U)) (λ_ _ _ z=>nomatch z))
  (λW M V Y U _ _ B J X O=>fh (Cf O W M V Y U (vn (B _ O).1 (J _ O).1 Y U)) (λ_ _ _ z=>nomatch z))
  (λM hn Z B X O=>fh (BK O M hn Z (B _ O)) (λ_ _ _ z=>nomatch z))
  (λD _ B X O=>⟨PE.weak (Ad (jU (B _ O).1 D)) Jr,λL=>nomatch L⟩)
  (λa c D _ _ f B X O=>fh (Ju a c D (f _ O).1 (jU (B _ O).1 D)) (λ_ _ _ z=>nomatch z))
  (λ_ _ D B g X O=>fh (PE.weak (GC Js (B _ O).1 (g _ O).1 (tO D)) (oH λs h=>by simp only[aL])) (λ_ _ _ z=>nomatch z))
  (λM D _ B X O=>fh (Jt O M D (jU (B _ O).1 D)) (λ_ _ _ z=>nomatch z))
  (λM hn c j Z B X O=>fh (Jv O M hn c j (iB Z) (B _ O)) (λ_ _ _ z=>nomatch z))
  (λX O=>PA.weak qJ fun P H Q q=>ku q)
  (λD _ _ B x X O=>PA.weak (j7 (B _ O).1 (x _ O) (cY D)) cons_of)
  (λX O=>Jx)
  (λ_ B X O=>Jy (B _ O).1)
  (.inl ⟨rfl,rfl⟩)
  (λL _ B=>.inr ⟨_,_,rfl,rfl,λK u=>((B _ u).2 L).1⟩)
  (λM D _ B X O _ _=>BZ O M D (jU (B _ O).1 D))
  (λM D U _ _ B J X O _ _=>B0 O M D U (vn (B _ O).1 (J _ O).1 D U))
  (λM D _ B X O _ _=>E2 O M D (B _ O).1)
  (λ_ B X O _ _=>E1 (B _ O).1)
  sc N t h
def sE(h:CE' sc N e' e)(O:Ok X F G sc N):PE X e (tD X F G e'):=(sQ h X O).1
def sT(h:CE' sc N e' e)(O:Ok X F G sc N)(B:tOK e'=ah):PT X e (tDT X F G e')/\∀q vs p,e=.BoolOp q vs p->PW X e (tDT X F G e'):=(sQ h X O).2 B
def sCC{cond:aY}(h:CC sc N cond ifs):oR F G sc N cond ifs:=sQ h
def sCI(h:CI sc N sr sa iter)(O:Ok X F G sc N)(hz:tH sr tg=ah):PI X tg iter (iD X F G sr sa):=sQ h X O tg hz
end
end BS
end
section
namespace BS
open PySem PySem.Spec PyProof.Rows L2
open Classical in
section
end
section
variable{F:FT}{G:ay->Option aN}
section
variable{X:Cx}{cl:List (ay×az)}{H3 H5:Hp}{s3 s5:RV}{m2 m5:List az}
end
end
end BS
end
section
namespace BS
open PySem PySem.Spec PyProof.Rows L2
variable{K:RQ}{st:Tw}
noncomputable def mG:Sd->Bool
 |.ListComp _ _ _ _=>ai|.SetComp _ _ _ _=>ai|.DictComp _ _ _ _ _=>ai|_=>ah
noncomputable def swB(sc q:TV)(x:ay)(B pos:Pos):Bool :=
 (if sc.kind.isAnnotationScope then ScopeKind.function else sc.kind)==.function&&sc.names.lookup x==aa .local&&B.line==pos.line&&!(q.names.any λ(n,k)=>n==x&&(k==.local||k==.cell))
mutual
inductive CS(sc:TV)(N:List ay):BT.S->Tw->Prop
 |setc{i:Nat}{x:ay}{mu:Bool}{M:BT.Sr}{U:aY}{tg:List ay}{L:List (Nat×ay)}{cond:aY}{D:aV}{te iter B:Sd}{J:List Sd}{q:TV}{pos O p:Pos}(V:f7 N=ah)(h1:N[i]?=aa x)(h3:(sc.names.lookup x==aa .cell||swB sc q x O pos)=ah)
  (hk:kQ sc N tg L q=ah) (ht:tK (eB q sc) tg te=ah) (hz:tH M te=ah) (W:kP iter=ah) (hi:CI sc N M U iter) (Z:CC (eB q sc) (tg++L.map (·.2)) cond J) (Y:CE' (eB q sc) (tg++L.map (·.2)) D B) :
  CS sc N (.set i (.comp mu M U tg L cond D)) (.Assign [.Name x O] (.ListComp B [⟨te,iter,J,0⟩] q pos) p)
 |set{i:Nat}{x:ay}{e:aV}{v:Sd}{q p:Pos}(h1:N[i]?=aa x)(h2:oN sc x=ah)(B:mG v=ah)(D:CE' sc N e v):CS sc N (.set i e) (.Assign [.Name x q] v p)
 |unp{tg:List (Nat×ay)}{e:aV}{es:List Sd}{k:Nat}{D:Sd}{args:List Sd}{kw:List Wv}{q B p:Pos}(L:f7 N=ah)(J:CT sc N tg (.Tuple es k q))(M:CE' sc N e (.Call D args kw B)):CS sc N (.unp tg e) (.Assign [.Tuple es k q] (.Call D args kw B) p)
 |put{i:Nat}{x:ay}{k e:aV}{q v:Sd}{B sp p:Pos}(h1:N[i]?=aa x)(h2:tG sc x=ah)(D:fQ x=ah)(M:mG v=ah)(L:lG q=ah)(J:CE' sc N k q)(O:CE' sc N e v):CS sc N (.put i k e) (.Assign [.Subscript (.Name x B) q sp] v p)
 |aug{i:Nat}{x:ay}{o:bA}{q:VN}{e:aV}{v:Sd}{B p:Pos}(h1:N[i]?=aa x)(h2:oN sc x=ah)(J:BN o q=ah)(D:CE' sc N e v):CS sc N (.aug i o e) (.AugAssign (.Name x B) q v p)
 |setf{o e:aV}{f:ay}{q v:Sd}{B p:Pos}(h1:attrName f=ah)(h2:mG v=ah)(D:CE' sc N o q)(J:CE' sc N e v):CS sc N (.setf o f e) (.Assign [.Attribute q f B] v p)
 |augf{o e:aV}{f:ay}{b:bA}{q:VN}{B v:Sd}{D p:Pos}(h1:attrName f=ah)(J:BN b q=ah)(L:CE' sc N o B)(M:CE' sc N e v):CS sc N (.augf o f b e) (.AugAssign (.Attribute B f D) q v p)
 |ex{e:aV}{v:Sd}{p:Pos}(h:mG v=ah)(q:CE' sc N e v):CS sc N (.ex e) (.Expr v p)
 |ret{e:aV}{v:Sd}{p:Pos}(q:CE' sc N e v):CS sc N (.ret e) (.Return (aa v) p)
 |v{c:aV}{a b:BT.S}{t:Sd}{xs ys:List Tw}{p:Pos}(h:tOK c=ah)(B:CE' sc N c t)(q:CSs sc N a xs)(D:CSs sc N b ys):CS sc N (.v c a b) (.If t xs ys p)
 |j{c:aV}{b:BT.S}{t:Sd}{xs:List Tw}{p:Pos}(h:tOK c=ah)(q:CE' sc N c t)(B:CSs sc N b xs):CS sc N (.j c b) (.While t xs [] p)
 |for{tg:List (Nat×ay)}{q:BT.Sr}{B:aY}{b:BT.S}{te iter:Sd}{xs:List Tw}{p:Pos}(D:f7 N=ah)(M:CT sc N tg te)(hi:CI sc N q B iter)(hz:tH q te=ah)(J:kP iter=ah)(L:CSs sc N b xs):CS sc N (.for tg q B b) (.For te iter xs [] p)
 |bad{st:Tw}:CS sc N .bad st
 |rai{st:Tw}{c:ay}{e:aV}:CS sc N (.rai c e) st
inductive CSs(sc:TV)(N:List ay):BT.S->List Tw->Prop
 |nil:CSs sc N .nil []
 |one{s:BT.S}{st:Tw}(h:CS sc N s st):CSs sc N s [st]
 |cons{a b:BT.S}{st q:Tw}{r:List Tw}(h:CS sc N a st)(B:CSs sc N b (q::r)):CSs sc N (.seq a b) (st::q::r)
end
def lP(X:Cx)(m:List az)(H:Hp)(O:BT.Fl)(D:Ends):Prop:=match O with
 |.nx M L=>∀B q J,Ext m H J q->RH X.K J q L->RS X.prog X.w X.K J q B M->D.nx B q|.rt z L=>∀v q J,Ext m H J q->RH X.K J q L->RW X.prog X.w X.K J q v z->D.rt v q|.bk M L=>∀B q J,Ext m H J q->RH X.K J q L->RS X.prog X.w X.K J q B M->D.bk B q|.ct M L=>∀B q J,Ext m H J q->RH X.K J q L->RS X.prog X.w X.K J q B M->D.ct B q
def lP.ext{D:Ends}(x:Ext m H m' H')(p:lP X m H fl D):lP X m' H' fl D:=by cases fl<;>exact λa b c y=>p a b c (x.trans y)
inductive tDS(X:Cx)(F:FT)(G:ay->Option aN)(S:BT.S)(D:Ends)(σ:L2.St)(H:Hp):Prop
 |mk(m:List az)(s:bx)(h:aO)(q:BT.Fl)(R:RH X.K m H h)(r:RS X.prog X.w X.K m H σ s)(e:aT F G S s h=aa q)(p:lP X m H q D):tDS X F G S D σ H
def PS.weak(h:PS X st t)(q:∀D σ H,t' D σ H->t D σ H):PS X st t':=λB s σ H D I hw=>h B s σ H D I (q _ _ _ hw)
def PSs.weak{st:List Tw}(h:PSs X st t)(q:∀D σ H,t' D σ H->t D σ H):PSs X st t':=λB s σ H D I hw=>h B s σ H D I (q _ _ _ hw)
section
def Cg(D:Ends)(σ:L2.St)(H:Hp)(q:tDS X F G (.seq a b) D σ H):Lg (tDS X F G a) (tDS X F G b) D σ H:=by
 obtain⟨m,s,h,W,R,S,e,B⟩:=q;simp only[aT]at e;cases g:aT F G a s h with
 |none=>rw[g]at e;exact cU e
 |some J =>
  rw[g]at e;refine⟨m,s,h,J,R,S,g,?_⟩;cases J with
  |nx O V=>exact fun L c U M Z Y=>⟨U,O,V,W,Z,Y,e,B.ext M⟩
  |_=>cases e;exact B
def mU{X:Cx}{M:BT.S}{a:aV}{k:bx->aN->aO->Option BT.Fl}(Y:∀s h,aT F G M s h=bB (aL F G a s h) (k s)){D:Ends}{σ:L2.St}{H:Hp}(q:tDS X F G M D σ H){R':V->Hp->Prop}
(h1:∀m s h x B v H1,RH X.K m H1 h->RS X.prog X.w X.K m H1 σ s->RW X.prog X.w X.K m H1 v x->k s x h=aa B->lP X m H1 B D->R' v H1):tD X F G a σ H R':=by
 obtain⟨m,s,h,B,R,S,L,O⟩:=q;rw[Y]at L;obtain⟨x,g,e1,e2⟩:=c5 L;exact⟨m,s,h,x,g,R,S,e1,λv H1 W J Z U=>h1 W s g x B v H1 Z (S.ext J) U e2 (O.ext J)⟩
def w9(h:BT.tst x k=aa fl):∃b g,x=aa (.p (.bl b),g)/\k b g=aa fl:=by
 unfold BT.tst at h;obtain⟨w,g,e1,e2⟩:=c5 h;unfold BT.Mx at e2;cases w with
 |p d =>
  cases d<;>simp only at e2<;>try contradiction
  exact⟨_,g,e1,e2⟩
 |_=>exact cU e2
def nv(h:mG e=ah):VC e t l env=pure ai:=by cases e<;>first|rfl|exact aS h
def Fy(h:mG e=ah):swapsWithSole [t] e l env=pure ai:=nv h
def vo(h:lG i=ah):∀ v,Xx (.Subscript o i pos) env v=(do
 let ov ←V6 [v] (eval o env)
 let iv ←V6 [v,ov] (eval i env)
 X3 pos
 V6 [v,ov,iv] (setItem ov iv v)
 release [v,ov,iv] []):=by
 intro v;cases i<;>first|rfl|exact aS h
def JA(D:Ends)(σ:L2.St)(H:Hp)(q:tDS X F G (.j c b) D σ H):zS (tDT X F G c) (tDS X F G b) D σ H:=by
 obtain⟨x,s,h,k,R,S,e,J⟩:=q;simp only[aT]at e;refine⟨λn σ H=>∃m s h,RH X.K m H h/\RS X.prog X.w X.K m H σ s/\BT.eX (aL F G c) (aT F G b) n s h=aa k/\lP X m H k D,⟨BT.turns,x,s,h,R,S,e,J⟩,?_⟩
 rintro n σ1 H1 ⟨m,s,h,R,S,e,J⟩
 cases n with
 |zero=>exact cU e
 |succ n =>
  rw[BT.eX]at e;obtain⟨t,g,e1,e2⟩:=w9 e;refine⟨m,s,h,t,g,R,S,e1,λy p M R2=>?_⟩;cases t with
  |false =>
   rw[BT.om]at e2;cases e2;rw[bK (by decide)];exact J σ1 y p M R2 (S.ext M)
  |true =>
   rw[BT.mj]at e2;rw[bJ rfl];refine⟨fun V l=>∃W f i,RH X.K W l i/\RS X.prog X.w X.K W l V f/\BT.eX (aL F G c) (aT F G b) n f i=aa k/\lP X W l k D,fun V l ⟨W,f,i,a1,a2,a3,a4⟩=>⟨n,Ul n,W,f,i,a1,a2,a3,a4⟩,?_⟩;cases o:aT F G b s g with
   |none=>rw[o]at e2;exact cU e2
   |some r =>
    rw[o]at e2;refine⟨p,s,g,r,R2,S.ext M,o,?_⟩;cases r with
    |nx d Y=>exact fun B a O L U Z=>⟨O,d,Y,U,Z,e2,(J.ext M).ext L⟩
    |ct d Y=>exact fun B a O L U Z=>⟨O,d,Y,U,Z,e2,(J.ext M).ext L⟩
    |bk d Y=>cases e2;exact fun B a O L U Z=>J B a O (M.trans L) U Z
    |rt z Y=>cases e2;exact λv a O L U u=>J v a O (M.trans L) U u
def JB(D:Ends)(σ:L2.St)(H:Hp)(q:tDS X F G (.aug i o e) D σ H):Ln i (tD X F G e) (Jg o) D σ H:=by
 obtain⟨m,s,h,l,R,S,V,W⟩:=q;simp only[aT]at V;obtain⟨y,g,e1,e2⟩:=c5 V;unfold BT.MG at e2;have j:∃d O z,s[i]?=aa (aa (.p d))/\y=.p O/\BT.nO o d O=aa z/\l=.nx (s.set i (aa (.p z))) g:=by
  cases B:s[i]? with
  |none=>rw[B]at e2;cases y<;>exact cU e2
  |some Z =>
   cases Z with
   |none=>rw[B]at e2;cases y<;>exact cU e2
   |some Y =>
    rw[B]at e2;cases Y<;>cases y<;>simp only at e2<;>try contradiction
    obtain⟨z,J,n⟩:=dh e2;exact⟨_,_,z,rfl,rfl,J,n.symm⟩
 obtain⟨d,O,z,B,rfl,J,rfl⟩:=j;obtain⟨a,b,k,rfl,rfl,rfl⟩:=wN J;obtain⟨v,f,L⟩:=S.get i _ B;have ev:v=.int a:=by cases L with|p L=>cases L;rfl
 subst ev;refine⟨_,f,m,s,h,_,g,R,S,e1,λu t c U r M=>?_⟩;cases M with
 |p M =>
  cases M;exact⟨a,b,k,rfl,rfl,J,W _ t c U r ((S.ext U).set (.p (.int k)))⟩
def zd(e:BT.qT s f v x h=aa fl):∃n c fs,x=.o n/\bw h n=aa (c,fs)/\BT.attrOk v=ah/\fs.length<1000/\fl=.nx s (h.set n (.o c (BT.eS f v fs))):=by
 cases x with
 |o n =>
  rw[BT.AY]at e;cases g:bw h n with
  |none=>rw[g]at e;exact cU e
  |some q =>
   obtain⟨c,fs⟩:=q;rw[g]at e;simp only at e;obtain⟨B,e⟩:=dw e;cases e;simp only[RX,bM]at B;exact⟨n,c,fs,rfl,g,B.1,B.2,rfl⟩
 |_=>exact cU e
def tX{D:Ends}(R:RH X.K m H h)(S:RS X.prog X.w X.K m H σ s)(hn:m[n]?=aa a)(h1:H a=aa (.ins C dx vs))(h2:oz X.K c C)(B:RFs X.K m H vs fs)(ra:RA X.K m H v y)
(q:lP X m H (.nx s (h.set n (.o c (BT.eS f y fs)))) D):D.nx σ (upd H a (.ins C dx (L2.eS f v vs))):=by
 have x:Ext m H m (upd H a (.ins C dx (L2.eS f v vs))):=oA (Sg hn) ⟨_,h1,rfl⟩;exact q σ _ m x (R.setC hn ⟨_,h1,rfl⟩ ⟨C,dx,_,eN,h2,(RFs.put ra B).ext x⟩) (S.ext x)
def Fz{X:Cx}{o e:aV}{f:ay}(Y:attrName f=ah)(D:Ends)(σ:L2.St)(H:Hp)(q:tDS X F G (.setf o f e) D σ H):LD X.K (tD X F G o) (tD X F G e) f D σ H:=by
 refine mU (k:=λs=>BT.AZ (aL F G o s) s f) (λs h=>by simp only[aT]) q λm s h y j v p R S r e1 O=>?_;rw[BT.A6]at e1;obtain⟨x,g,e2,b⟩:=c5 e1;obtain⟨n,c,fs,rfl,Z,ok,W,rfl⟩:=zd b;refine⟨m,s,h,.o n,g,R,S,e2,λu l i B R2 V=>?_⟩;cases V with
 |@o a _ hn =>
  obtain⟨C,d,U,M,J,L⟩:=R2.tL _ _ _ _ hn Z;exact⟨a,C,d,U,rfl,M,J.cls,J.no f Y,by rw[L.length];exact W,tX R2 (S.ext B) hn M J L ((r.ext B).ra ok) (O.ext B)⟩
def Ci(e:BT.wA ee s f op x h=aa fl):∃n c fs d y g fs' z,x=.o n/\bw h n=aa (c,fs)/\BT.dP f fs=aa (.p d)/\ee h=aa (.p y,g)/\bw g n=aa (c,fs')/\BT.nO op d y=aa z/\fs'.length<1000/\fl=.nx s (g.set n (.o c (BT.eS f (.p z) fs'))):=by
 cases x with
 |o n =>
  rw[BT.Eu]at e;cases L:bw h n with
  |none=>rw[L]at e;exact cU e
  |some q =>
   obtain⟨c,fs⟩:=q;rw[L]at e;simp only at e;cases J:BT.dP f fs with
   |none=>rw[J]at e;exact cU e
   |some O =>
    rw[J]at e;cases O with
    |p d =>
     simp only at e;obtain⟨y,g,e1,e2⟩:=c5 e;cases y with
     |p y =>
      rw[BT.A7]at e2;cases D:bw g n with
      |none=>rw[D]at e2;exact cU e2
      |some q =>
       obtain⟨U,fs'⟩:=q;rw[D]at e2;simp only at e2;cases B:BT.nO op d y with
       |none=>rw[B]at e2;exact cU e2
       |some z =>
        rw[B]at e2;simp only at e2;obtain⟨M,e2⟩:=dw e2;cases e2;obtain⟨rfl,M⟩:=M;exact⟨n,U,fs,d,y,g,fs',z,rfl,L,J,e1,D,B,M,rfl⟩
     |_=>exact cU e2
    |_=>exact cU e
 |_=>exact cU e
def FA{X:Cx}{o e:aV}{f:ay}{b:bA}(E:attrName f=ah)(D:Ends)(σ:L2.St)(H:Hp)(q:tDS X F G (.augf o f b e) D σ H):vS X.K (tD X F G o) (tD X F G e) (Jg b) f D σ H:=by
 refine mU (k:=λs=>BT.wA (aL F G e s) s f b) (λs h=>by simp only[aT]) q λm s h y fl v H1 R S r e1 Z=>?_;obtain⟨n,c,fs,d,y,g,Q,z,rfl,P,N,e2,I,Y,A,rfl⟩:=Ci e1;obtain⟨i,j,k,rfl,rfl,rfl⟩:=wN Y;cases r with
 |@o a _ hn =>
  obtain⟨C,dx,t,x,M,w⟩:=R.tL _ _ _ _ hn P;obtain⟨u,l,ra⟩:=w.get N;have T:u=.int i:=by cases ra with|p ra=>cases ra;rfl
  subst T;refine⟨a,C,dx,t,_,rfl,x,M.cls,M.no f E,l,m,s,h,_,g,R,S,e2,λu2 H2 m2 B R2 L=>?_⟩;cases L with
  |p L =>
   cases L;obtain⟨C',O,J,W,V,U⟩:=R2.tL _ _ _ _ (B.ix hn) I;cases V.cn.inj M.cn;exact⟨i,j,k,rfl,rfl,Y,O,J,W,by rw[U.length];exact A,tX R2 (S.ext B) (B.ix hn) W V U (.p (.int k)) (Z.ext B)⟩
def JC{X:Cx}{i:Nat}{k e:aV}(D:Ends)(σ:L2.St)(H:Hp)(q:tDS X F G (.put i k e) D σ H):zP (tD X F G e) (Lm (tD X F G (.v i)) (tD X F G k) GD) D σ H:=by
 refine mU (k:=λs=>BT.IE (aL F G k s) s i) (λs h=>by simp only[aT]) q λm s h y K v P R S r e1 z=>?_;unfold BT.IE at e1;cases y with
 |p d =>
  cases g:s[i]? with
  |none=>rw[g]at e1;exact cU e1
  |some o =>
   cases o with
   |none=>rw[g]at e1;exact cU e1
   |some A =>
    cases A with
    |r n =>
     rw[g]at e1;simp only at e1;obtain⟨q,t,e2,B⟩:=c5 e1;refine⟨m,s,h,.r n,h,R,S,by simp only[aL,g],λo N E L R2 C=>⟨E,s,h,q,t,R2,S.ext L,e2,λI x V J w M=>?_⟩⟩;unfold BT.GJ at B;cases q with
     |p u =>
      cases Z:bg t n with
      |none=>rw[Z]at B;cases u<;>exact cU B
      |some b =>
       rw[Z]at B;cases u with
       |int j =>
        simp only at B;cases Y:BT.place b.length j with
        |none=>rw[Y]at B;exact cU B
        |some U =>
         rw[Y]at B;cases B;have O:=C.ext J;cases O with
         |@r a _ hn =>
          cases M with
          |p M =>
           cases M;obtain⟨f,W,l⟩:=w.cell n a b hn Z;refine⟨a,f,j,U,rfl,rfl,W,by rw[l.length];exact Y,?_⟩;have c:Ext V x V (upd x a (.aB (f.set U v))):=iH (Sg hn) W;cases r with
           |p r=>exact z σ _ V ((L.trans J).trans c) (w.set hn W (RDs.set ((r.ext L).ext J) U l)) (((S.ext L).ext J).ext c)
       |_=>exact cU B
     |_=>exact cU B
    |_=>rw[g]at e1;exact cU e1
 |_=>exact cU e1
end
section
def JD(hg:GOk X tg g)(D:Ends)(σ:L2.St)(H:Hp)(q:tDS X F G (.for tg sr sa b) D σ H):Lr (iD X F G sr sa) g (tDS X F G b) D σ H:=by
 obtain⟨m,s,h,u,R,S,e,N⟩:=q;simp only[aT]at e;obtain⟨r,j,e1,e2⟩:=c5 e;unfold BT.kFor at e2;cases o:(aR r j).bind (BT.gH sr)with
 |none=>rw[o]at e2;exact cU e2
 |some B =>
  rw[o]at e2;simp only at e2;split at e2
  ·rename_i d;refine ⟨m,s,h,r,j,B,R,S,e1,o,.inl d,λH1 t J p R1 f=>?_⟩;refine ⟨λi n σ H=>i<=B.length/\n=B.length - i/\∃ m s h,Ext t H1 m H/\RH X.K m H h/\RS X.prog X.w X.K m H σ s/\BT.gK (aT F G b) tg (B.drop i) s h=aa u/\lP X m H u D,
    ⟨B.length,Tu _,rfl,t,s,j,.refl _ _,R1,S.ext p,by rw[List.drop_zero];exact e2,N.ext p⟩,?_⟩
   rintro i n σ2 H2 ⟨hi,rfl,m2,s2,h2,x2,R2,S2,e3,post2⟩
   by_cases c:i<B.length
   ·refine .inr ⟨f.go m2 H2 h2 i x2 R2 (oK d) c,_,fun I H' z=>⟨B.length-(i+1),by lia,c,rfl,z⟩,λx C y=>?_⟩;obtain⟨M,T,Q⟩:=f.yld m2 H2 h2 i x C B[i] x2 R2 (oK d) (RY c) y;rw[XF c,BT.gK]at e3;cases l:bf tg.length B[i]with
    |none=>rw[l]at e3;exact cU e3
    |some dd =>
     rw[l]at e3;simp only at e3;have R3:=R2.ext M T;refine hg m2 C σ2 s2 x B[i] dd _ (S2.ext M) Q l fun E S4=>?_;cases k:aT F G b (BT.sets tg dd s2) h2 with
     |none=>rw[k]at e3;exact cU e3
     |some A =>
      rw[k]at e3;refine⟨m2,_,h2,A,R3,S4,k,?_⟩;cases A with
      |nx a W=>exact fun O Z U L V Y=>⟨U,a,W,(x2.trans M).trans L,V,Y,e3,(post2.ext M).ext L⟩
      |ct a W=>exact fun O Z U L V Y=>⟨U,a,W,(x2.trans M).trans L,V,Y,e3,(post2.ext M).ext L⟩
      |bk a W=>cases e3;exact fun O Z U L V Y=>post2 O Z U (M.trans L) V Y
      |rt z W=>cases e3;exact λv Z U L V P=>post2 v Z U (M.trans L) V P
   ·have ei:i=B.length:=by lia
    subst ei;refine .inl ⟨f.stop m2 H2 h2 x2 R2 (oK d),?_⟩;rw[List.drop_length,BT.gK]at e3;cases e3;exact post2 σ2 H2 m2 (.refl _ _) R2 S2
  exact cU e2
def M8{X:Cx}{sc:TV}{N:List ay}(O:Ok X F G sc N){x:ay}{B pos p:Pos}{q:Sd}{D:List Comprehension}{scope:TV}(h:swB sc scope x B pos=ah):VC (.ListComp q D scope pos) (aa (.Name x B)) p.line X.env=pure ah:=by have e:VC (.ListComp q D scope pos) (aa (.Name x B)) p.line X.env=pure (swB X.env.scope scope x B pos):=rfl;rw[e,O.hsc,h]
def FD(c:(sc.names.lookup x==aa .cell)=ah):oN sc x=ah:=by unfold oN;rw[bQ c]
def Cj(h:swB sc scope x np pos=ah):sc.names.lookup x=aa .local:=by unfold swB at h;simp only[RX]at h;exact bQ h.1.1.2
def M9{X:Cx}{sc:TV}{N:List ay}(O:Ok X F G sc N){x:ay}{B pos p:Pos}{q:Sd}{D:List Comprehension}{scope:TV}(c:(sc.names.lookup x==aa .cell)=ah):VC (.ListComp q D scope pos) (aa (.Name x B)) p.line X.env=pure ai:=by
 have e:VC (.ListComp q D scope pos) (aa (.Name x B)) p.line X.env=pure (swB X.env.scope scope x B pos):=rfl;have z:swB sc scope x B pos=ai:=by
  cases h:swB sc scope x B pos with
  |false=>rfl
  |true =>
   have:=Cj h;rw[bQ c]at this;cases this
 rw[e,O.hsc,z]
def Ck:PSs X [] (tDS X F G .nil):=PSs.weak DK λD B H q=>by obtain⟨m,s,h,L,R,S,e,J⟩:=q;simp only[aT]at e;cases e;exact J B H m (.refl _ _) R S
def sS(O:Ok X F G sc N)(u:∀x,X.fn x=ah)(hh:CS sc N s st):PS X st (tDS X F G s) :=
 CS.rec (motive_1:=λs st _=>PS X st (tDS X F G s)) (motive_2:=λs sts _=>PSs X sts (tDS X F G s))
  (@λi x mu sr sa n fv cond w te iter elt' ifs Y T np p Z M V E a A C P l B=>by
   have K:∀(D:Ends)(L:L2.St)(H:Hp),tDS X F G (.set i (.comp mu sr sa n fv cond w)) D L H->zP (tD X F G (.comp mu sr sa n fv cond w)) (vO i) D L H:=λD L H q =>
    mU (k:=λs=>BT.AW s i) (λs h=>rfl) q λm s h y W v U R S r e1 J=>by simp only[BT.AW]at e1;cases e1;exact J _ U m (.refl _ _) R (S.set r)
   by_cases c:(sc.names.lookup x==aa .cell)=ah
   exact PS.weak (zR (i:=i) O.nd (by rw[O.hN];exact M) (oO O (FD c)) (sE (CQ.comp Z E a A C P l B) O) (M9 O c) (.inl (u x))) K
   ·have Q:swB sc Y x np T=ah:=by rw[UK]at V;exact V.resolve_left c
    exact PS.weak (Fd O Z E a C (sCI P O A) (sCC l) (λX' O'=>sE B O') M (Cj Q) (M8 O Q)) K)
  (@λi x e v np p M j V B=>PS.weak (zR (i:=i) O.nd (by rw[O.hN];exact M) (oO O j) (sE B O) (nv V) (.inl (u x))) λD L H q =>
   mU (k:=λs=>BT.AW s i) (λs h=>by simp only[aT]) q λm s h y W v U R S r e1 J=>by simp only[BT.AW] at e1;cases e1;exact J _ U m (.refl _ _) R (S.set r))
  (@λn e es k fe args kw tp cp p Z a B=>by
   obtain⟨g,f,b⟩:=sCT O (O.calm Z) a λq _=>.inl (u q.2);exact PS.weak (zQ (sE B O) f rfl rfl) λD L H q=>mU (k:=λs=>BT.ID s n) (λs h=>by simp only[aT]) q λm s h y W v U R S r e1 J=>by
    cases r with
    |p r =>
     simp only[BT.ID]at e1;rename_i d;cases g1:BT.unpack n.length d with
     |none=>rw[g1]at e1;exact cU e1
     |some ds =>
      rw[g1]at e1;cases e1;refine b m U L s _ d ds _ S r ?_ fun σ' S'=>J _ U m (.refl _ _) R S';cases a with
      |aC hl _ =>
       unfold bf;rw[bK (by have:=Yo hl;lia)];exact g1
    | _=>exact cU e1)
  (λM j V Q h5 E B=>PS.weak (zQ (sE B O) (Hr (wF O M j V) (sE E O) set_list (vo h5)) (Fy Q) rfl) JC)
  (λM j V B=>PS.weak (Hs O.nd (by rw[O.hN];exact M) (oO O j) (sE B O) (wM V) (.inl (u _))) JB)
  (λM j ho B=>PS.weak (HD (sE ho O) (sE B O) (nv j)) (Fz M))
  (λM V ho B=>PS.weak (yo (sE ho O) (sE B O) (wM V)) (FA M))
  (λh B=>PS.weak (DL (sE B O) (nv h)) λD L H q =>
   mU (k:=λs=>BT.kEx s) (λs h=>by simp only[aT]) q λm s h y W v U R S r e1 J=>by simp only[BT.kEx] at e1;cases e1;exact J L U m (.refl _ _) R S)
  (λB=>PS.weak (Hl (sE B O)) λD L H q =>
   mU (k:=λs=>BT.IF) (λs h=>by simp only[aT]) q λm s h y W v U R S r e1 J=>by simp only[BT.IF] at e1;cases e1;exact J v U m (.refl _ _) R r)
  (λh l ha hb ia o=>PS.weak (Li (sT l O h).1 ia o) λD L H q=>by
   obtain⟨m,s,h,W,R,S,e,J⟩:=q;simp only[aT]at e;obtain⟨t,g,e1,e2⟩:=w9 e;refine⟨m,s,h,t,g,R,S,e1,λU m1 z R1=>?_⟩;simp only[BT.kIf]at e2;cases t with
   |true=>exact⟨m1,s,g,W,R1,S.ext z,e2,J.ext z⟩
   | false=>exact ⟨m1,s,g,W,R1,S.ext z,e2,J.ext z⟩)
  (λh l hb o=>PS.weak (zT O.own (sT l O h).1 o) JA)
  (λZ a P A C hb o=>by obtain⟨g,f,b⟩:=sCT O (O.calm Z) a (λq _=>.inl (u q.2));exact PS.weak (Hv O.own (O.calm Z) (sCI P O A) f o (wV C)) (JD b))
  (λzt s L H D I q=>by obtain⟨m,s,h,W,R,S,e,J⟩:=q;simp only[aT]at e;exact cU e)
  (λzt s L H D I q=>by obtain⟨m,s,h,W,R,S,e,J⟩:=q;simp only[aT]at e;exact cU e)
  Ck
  (λ_ ih=>vN ih)
  (λ_ _ ih ir=>PSs.weak (sA ih ir) Cg)
  hh
def sSs(O:Ok X F G sc N)(q:∀x,X.fn x=ah){sts:List Tw}(D:CSs sc N s sts):PSs X sts (tDS X F G s):=by refine CSs.rec (motive_1:=λ_ _ _=>True) (motive_2:=λs sts _=>PSs X sts (tDS X F G s)) ?_ ?_ ?_ ?_ ?_ ?_ ?_ ?_ ?_ ?_ ?_ ?_ ?_ ?_ Ck (λh _=>vN (sS O q h)) (λh _ _ B=>PSs.weak (sA (sS O q h) B) Cg) D<;>(intros;trivial)
end
section
variable{K:RQ}
mutual
theorem RD.shrink(x:∀a∈m,a∈m'):∀{v:V}{d:aM},RD K m' H v d->RD K m H v d
 |_,_,.aD=>.aD|_,_,.bl b=>.bl b|_,_,.int i=>.int i|_,_,.str y h=>.str y h|_,_,.aC h r=>.aC (h.elim (λq=>.inl ⟨q.1,λz=>q.2 (x _ z)⟩) .inr) (RDs.shrink x r)|_,_,.aB h r=>.aB (h.elim (λq=>.inl ⟨q.1,λz=>q.2 (x _ z)⟩) .inr) (RDs.shrink x r)
theorem RDs.shrink(x:∀a∈m,a∈m'):∀{vs:List V}{ds:List aM},RDs K m' H vs ds->RDs K m H vs ds
 |_,_,.nil=>.nil|_,_,.cons r t=>.cons (RD.shrink x r) (RDs.shrink x t)
end
end
theorem RFs.shrink{K:RQ}:∀{q vs:List (ay×V)}{fs:List (ay×aN)},RFs K m H q fs->RFs K (m++ex) H' vs fs->RFs K m H' vs fs
 |_,_,_,.nil,.nil=>.nil
 |_,_,_,.cons r0 t0,.cons r t=>by
  refine .cons ?_ (RFs.shrink t0 t);have back:∀{n:Nat}{a b:az},m[n]?=aa b->(m++ex)[n]?=aa a->m[n]?=aa a:=λ{n a b} h1 h2=>by rw[RU (getD_some h1)]at h2;exact h2
  cases r with
  |p r=>exact .p (r.shrink λa D=>Vl _ D)
  |r h=>cases r0 with|r B=>exact .r (back B h)
  |o h=>cases r0 with|o B=>exact .o (back B h)
def RKs.shrink{K:RQ}(sub:∀a∈m,a∈m')(r:RKs K m' H vs kvs):RKs K m H vs kvs:=by
 induction r with
 |nil=>exact .nil|cons B r t q=>exact .cons (B.shrink sub) (r.shrink sub) q
def RBs.shrink{m ex:List az}{q:List V}{ns:List Nat}(J:RBs m q ns):∀{vs:List V},RBs (m++ex) vs ns->RBs m vs ns:=by
 induction J with
 |nil=>intro vs r;cases r;exact .nil
 |cons h t L =>
  intro vs r;cases r with
  |cons B D =>
   rw[RU (getD_some h)]at B;exact .cons B (L D)
def qz(e:BT.fin h y g=aa (z,h'))(R:RH K m H h)(x:Ext m H m' H')(R':RH K m' H' g)(r:RW P w K m' H' v y):
 ∃m2,Ext m H m2 H'/\RH K m2 H' h'/\RW P w K m2 H' v z:=by
 unfold BT.fin at e;split at e;cases e;exact⟨m',x,R',r⟩
 ·split at e
  ·rename_i I E;obtain⟨ex,rfl,G⟩:=x.pre;have sub:∀a∈m,a∈m++ex:=λa f=>Vl _ f;have M:Ext m H m H':=⟨⟨[],by simp,by simp⟩,x.keep,x.live,x.frz⟩;have R2:RH K m H' h:=by
    refine⟨R.nd,R.len,λi a J e1 e2=>?_,R'.tb⟩;have Z:i<m.length:=getD_some e1;have W:i<h.length:=by rw[←R.len];exact Z
    have t:g[i]?=aa J:=by rw[←E,UZ W]at e2;exact e2
    have z:=R'.cl i a J (by rw[RU Z];exact e1) t;cases J with
    |o c fs =>
     obtain⟨N,u,U,_,_,V⟩:=R.cl i a _ e1 e2;obtain⟨C,A,D,B,q,d⟩:=z;exact⟨C,A,D,B,q,V.shrink d⟩
    |z=>exact z
    |b F =>
     obtain⟨U,_,V⟩:=R.cl i a _ e1 e2;obtain⟨D,B,q⟩:=z;exact⟨D,B,V.shrink q⟩
    |_=>obtain⟨D,B,q⟩:=z;exact⟨D,B,q.shrink sub⟩
   cases r with
   |p r=>cases e;exact⟨m,M,R2,.p (r.shrink sub)⟩
   |@o a n hn =>
    simp only at e;split at e
    ·rename_i O;cases e;refine⟨m,M,R2,.o ?_⟩;rw[RU (by rw[R.len];exact O)]at hn;exact hn
    cases e;exact⟨m++ex,x,R',.o hn⟩
   |@r a n hn =>
    simp only at e;split at e
    ·rename_i O;cases e;refine⟨m,M,R2,.r ?_⟩;rw[RU (by rw[R.len];exact O)]at hn;exact hn
    ·rename_i O;obtain⟨J,s,l⟩:=dh e;cases l;obtain⟨D,B,q⟩:=R'.cell n a J hn s;refine⟨m,M,R2,.p (.aB (.inl ⟨.inl B,λz=>?_⟩) (q.shrink sub))⟩;obtain⟨j,Y⟩:=Ur z;have L:=getD_some Y;have k:(m++ex)[j]?=aa a:=by rw[RU L];exact Y
     have:=qt R'.nd k hn;rw[R.len]at L;lia
   |_=>exact cU e
  cases e;exact⟨m',x,R',r⟩
def Cn(r:RWs P w K m H vs ws):RS P w K m H (L2.start N vs) (BT.ff N.length ws):=by
 have B:=r.length;refine⟨by simp[L2.start,BT.ff,B],λi y e=>?_⟩;simp only[BT.ff]at e
 by_cases c:i<ws.length
 ·rw[RU (by simpa using c),Sv]at e;obtain⟨z,e1,e2⟩:=dh e;cases e2;have:∀{vs:List V}{ws:List aN}{i:Nat},RWs P w K m H vs ws->ws[i]?=aa y->∃v,vs[i]?=aa v/\RW P w K m H v y:=by
   intro vs ws i r
   induction r generalizing i with
   |nil=>intro e;simp at e
   |cons r t q =>
    intro e;cases i with
    |zero=>simp at e;subst e;exact⟨_,rfl,r⟩|succ i=>simpa using q (by simpa using e)
  obtain⟨v,J,D⟩:=this r e1;refine⟨v,?_,D⟩;unfold L2.start;rw[RU (by simp;lia),Sv,J];rfl
 ·rw[SS (by simpa using c),U4]at e;split at e<;>cases e
def oU(K:RQ)(q:ay)(fd:Uv)(fn:bz):Prop:=∀y,fn.ns.contains (BT.jN y)=ah->q=y/\y∈BT.iR ∧
 (∃c P,Ud K y=aa (c,P)/\fd.code=.ref c/\Wx K c P=ah/\∀z∈BT.iR,∀D,Ud K z=aa (D,P)->z=y) ∧
 ∃B ob,Te K Ss "__builtins__"=aa (aa (.ref B))/\B≠U8/\K.lookup B=aa ob/\ob.cls=.type "module"/\ob.dict=aa U8/\ob.data=.plain
inductive Na(K:RQ)(mg:ay->Option aA)(x:ay)(fn:bz):Prop
 |mk(f:az)(fd:Uv)(st:Tw)(h1:mg x=aa (.ref f))(h2:Fun K x x st f fd)(B:fY fn.ns fn.ps (c6 st))(q:Binds K fd fn.ps [])(D:CSs (c6 st) fn.ns fn.body (dS st))(J:oU K x fd fn):Na K mg x fn
structure Def(K:RQ)(mg:ay->Option aA)(x:ay)(fn:bz):Prop where
 ex:Na K mg x fn
inductive GT(K:RQ)(mg:ay->Option aA)(c m:ay)(fn:bz):Prop
 |mk(C f:az)(fd:Uv)(x qual:ay)(st:Tw)(h1:oz K c C)(h2:mg c=aa (.ref C))(q:Ab K C m f)(J:(m="__init__"->Mk K C f))(D:Fun K x qual st f fd)(O:fY fn.ns fn.ps (c6 st))(M:Binds K fd fn.ps [])(B:CSs (c6 st) fn.ns fn.body (dS st))(L:oU K qual fd fn):GT K mg c m fn
structure Co(K:RQ)(mg:ay->Option aA)(c m:ay)(fn:bz):Prop where
 ex:GT K mg c m fn
structure Txt(P:So)(w:SQ)(K:RQ)(mg:ay->Option aA)(T:BT.FK->Option bz)(G:ay->Option aN):Prop where
 defs:∀x fn,T (.f x)=aa fn->Def K mg x fn
 meths:∀c m fn,T (.m c m)=aa fn->Co K mg c m fn
 lams:∀L fn,T (.l L)=aa fn->False
 glob:∀x z,G x=aa z->∃u v,mg x=aa u/\RelV v u/\∀m H,RW P w K m H v z
 blt:∀x∈MY,mg x=af
def xg(e:aU T G k x ws h=aa r):∃fn,T x=aa fn:=by
 cases k with
 |zero=>exact cU e
 |succ k =>
  rw[aU]at e;cases q:T x with
  |none=>rw[q]at e;exact cU e|some fn=>exact⟨fn,rfl⟩
def FE(F:Fun K x qual st f fd)(S:fY N ps (c6 st))(len:∀vs H Q E,sp vs H Q E->vs.length=ps.length)
(B:∀ (cdv:aA) (A:TF) (outer:List Env) (s:RV) (H:Hp) (vs:List V) (Q:VK) (E:XK),fd.code=cdv->fW k (A.deeper (X5 qual (c6 st) s.heap.objs.size f cdv))->Mod K mg base->sp vs H Q E →
  ∃ t,PSs (uM CX0 P w K mg base N qual (c6 st) f cdv A outer s H E).nox (dS st) t/\t { nx:=λ_ H'=>Q .aD H',rt:=Q } (L2.start N vs) H):jj P w K mg base CX0 (k+1) f fd ps sp:=by
 obtain⟨g,e,kV,O,Y,c,cdv,ct,osl,rfl,Z,M⟩:=F.ex;refine⟨len,λA outer s H D W vs Q E L U b r a=>?_⟩;have d:jj P w K mg base CX0 (k+1) f (Ue x qual (fX st) (dS st) (c6 st) .none kV O Y c cdv ct) ps sp:=LH Z M S len λA outer s H vs Q E L J=>by obtain⟨t,h,q⟩:=B cdv A outer s H vs Q E rfl L U.mod J;exact⟨t,h.nox,q⟩
 exact d.run A outer s H D W vs Q E L U b r a
def Nb(X:Txt P w K mg T G)
(j:∀(x:BT.FK)(fn:bz),T x=aa fn->∀(f:az)(fd:Uv)(nm qual:ay)(st:Tw),Fun K nm qual st f fd->fY fn.ns fn.ps (c6 st)->CSs (c6 st) fn.ns fn.body (dS st)->oU K qual fd fn->jj P w K mg base CX0 (2*k) f fd fn.ps (spF P w K (aU T G k x)))
(v:∀L,(∃fn,T (.l L)=aa fn)->Bw P w K mg base (2*k) L (aU T G k (.l L)))
(e1:Y.prog=P)(e2:Y.w=w)(F:Y.K=K)(E:Y.mg=mg)(z:Y.base=base)(m:Y.env.scope=sc)(y:Y.N=N)(t:Y.N.Nodup)(H:Y.calm=ah)(U:fW (2*k+1) Y.A)(own:PassesOwn (Su Y.prog Y.w) Y.A Y.env Y.xe)
(u:(∀x,Y.fn x=ah)->∀x,N.contains (BT.jN x)=ah->LX Y x):Ok Y (aU T G k) G sc N:=by
 subst e1 e2 F E z;refine⟨m,y,t,λ_=>H,?_,own,X.glob,λg d h r e=>?_,λc g d h r e=>?_,λc d h r e=>?_,X.blt,λL d h r e=>⟨2*k,U.mono (T3 _),v L (xg e)⟩,u⟩
 ·have:=U.un;lia
 ·obtain⟨q,B⟩:=xg e;obtain⟨M,D,J,I,O,a,Z,W,V⟩:=(X.defs g q B).ex;exact⟨M,D,q.ps,2*k,I,O.kp,Z,U.mono (T3 _),j _ q B M D g g J O a W V⟩
 ·obtain⟨q,B⟩:=xg e;obtain⟨C,M,D,b,i,J,n,s,p,o,O,a,Z,W,V⟩:=(X.meths c g q B).ex;exact⟨C,M,D,q.ps,2*k,n,p,Z,U.mono (T3 _),j _ q B M D b i J O a W V⟩
 ·obtain⟨q,B⟩:=xg e;obtain⟨C,M,D,b,i,J,n,s,p,o,O,a,Z,W,V⟩:=(X.meths c _ q B).ex;exact⟨C,M,D,q.ps,2*k,n,s,o rfl,Z,U,j _ q B M D b i J O a W V⟩
def FF(X:Txt P w K mg T G):
 ∀(k:Nat),(∀(x:BT.FK)(fn:bz),T x=aa fn->∀(f:az)(fd:Uv)(nm qual:ay)(st:Tw),Fun K nm qual st f fd->fY fn.ns fn.ps (c6 st)->CSs (c6 st) fn.ns fn.body (dS st)->oU K qual fd fn->jj P w K mg base CX0 (2*k) f fd fn.ps (spF P w K (aU T G k x))) ∧
  ∀L,(∃fn,T (.l L)=aa fn)->Bw P w K mg base (2*k) L (aU T G k (.l L)):=by
 intro k
 induction k with
 |zero =>
  refine⟨λx fn D f fd nm qual st h2 o h5 h6=>?_,λL S=>?_⟩
  ·have no:∀B H Q E,¬spF P w K (aU T G 0 x) B H Q E:=λB H Q E h=>by obtain⟨m,M,h,z,t,_,_,e,_⟩:=h;exact cU e
   exact⟨λB H Q E h=>bL h (no B H Q E),λA q s H args us B Q E _ _ _ _ h=>bL h (no B H Q E)⟩
  ·intro A q s H f us B cvs m M cs h z t Q E N e0 rv R rw nc la rc e J;exact cU e
 |succ k j =>
  obtain⟨ih,il⟩:=j;refine⟨λx fn D f fd nm qual st h2 o h5 h6=>?_,λL S=>?_⟩
  ·show jj P w K mg base CX0 (2*k+1+1) f fd fn.ps (spF P w K (aU T G (k+1) x));refine FE h2 o (λB H Q E h=>?_) λC A q s H B Q E n N U h=>?_
   ·obtain⟨m,M,h,z,t,R,r,e,J⟩:=h;rw[aU,D]at e;simp only at e;split at e;rename_i c;rw[r.length];exact c;exact cU e
   ·obtain⟨m,M,h,z,t,R,r,e,J⟩:=h;rw[aU,D]at e;simp only at e;split at e
    ·have O:Ok (uM CX0 P w K mg base fn.ns qual (c6 st) f C A q s H E).nox (aU T G k) G (c6 st) fn.ns:=by refine Nb X ih il rfl rfl rfl rfl rfl rfl rfl o.nd rfl N Ym λ_ y hy=>?_;obtain⟨t1,t2,⟨c,Pt,t3,t4,t5,t6⟩,bm,ob,t7,t8,t9,d,b,a⟩:=h6 y hy;exact⟨t2,⟨c,Pt,t3,n.symm.trans t4,X8 U.kin t5,t6⟩,by show qual++".<locals>."=_;rw[t1],bm,ob,UX U.kin U.glob t7,t8,U.kin _ _ t9,d,b,a⟩
     refine⟨_,sSs O (λ_=>rfl) h5,?_⟩;cases u:aT (aU T G k) G fn.body (BT.ff fn.ns.length M) h with
     |none=>rw[u]at e;exact cU e
     |some fl =>
      rw[u]at e;refine⟨m,_,h,fl,R,Cn r,u,?_⟩;cases fl with
      |rt y g =>
       intro v I m' Z F r';obtain⟨i,Y,W,V⟩:=qz e R Z F r';exact J v I i Y W V
      |nx s' g =>
       intro σ' I m' Z F _;obtain⟨i,Y,W,V⟩:=qz (v:=.aD) e R Z F (.p .aD);exact J .aD I i Y W V
      |_=>exact cU e
    exact cU e
  ·obtain⟨fn,D⟩:=S;exact(X.lams L fn D).elim
def JE(X:Txt P w K mg T G)(k:Nat)(x:BT.FK)(fn:bz)(q:T x=aa fn)(f:az)(fd:Uv)(nm qual:ay)(st:Tw)(h2:Fun K nm qual st f fd)(J:fY fn.ns fn.ps (c6 st))(D:CSs (c6 st) fn.ns fn.body (dS st))(B:oU K qual fd fn):
 jj P w K mg base CX0 (2*k) f fd fn.ps (spF P w K (aU T G k x)):=(FF X k).1 x fn q f fd nm qual st h2 J D B
end BS
end
section
namespace BT
open PySem
variable{aG:List Int}{g2:HH}{gv most rb ro:Nat}{rs:List Nat}
def fD:Fn:=⟨["part"],["part"], (.seq (.v (.z .eq (.y (.aE "INNER_COUNTS") (.y (.v 0) (.j (.int 0)))) (.j (.int 0))) (.ret (.aC .nil)) .nil) (.ret (.n (.v 0) (Z9 (.j (.int 1))) .nil)))⟩
def lQ:Fn:=⟨[],[], (.ret (.aC (Z4 (.j (.int 0)) (.bin .mul (.aC (Z9 (.j (.int 0)))) (.bi .len ai (Z9 (.aE "LETTERS")))) (.bin .mul (.aC (Z9 (.j (.int 0)))) (.aE "CELL_COUNT")) (.aC .nil) (.j (.int 0)) (.aC .nil))))⟩
def iT:Fn:=⟨["term"],["term","parts","waiting","part"], (.seq (.set 1 (.aB ah .nil)) (.seq (.set 2 (.aB ah (Z9 (.v 0)))) (.seq (.j (.z .gt (.bi .len ai (Z9 (.v 2))) (.j (.int 0))) (.seq (.set 3 (.me .pop (.v 2) .nil)) (.seq (.ex (.me .append (.v 1) (Z9 (.v 3)))) (.ex (.me .extend (.v 2) (Z9 (.call "inner_sums" (Z9 (.v 3))))))))) (.ret (.v 1)))))⟩
def kB:Fn:=⟨["word","one","other"],["word","one","other"], (.seq (.v (.z .eq (.v 0) (.j (.str "less"))) (.ret (.ite (.z .lt (.v 1) (.v 2)) (.j (.int 1)) (.j (.int 0)))) .nil) (.seq (.v (.z .eq (.v 0) (.j (.str "add"))) (.ret (.bin .mod (.bin .add (.v 1) (.v 2)) (.aE "WORTH_COUNT"))) .nil) (.seq (.v (.z .eq (.v 0) (.j (.str "sub"))) (.ret (.bin .mod (.bin .sub (.v 1) (.v 2)) (.aE "WORTH_COUNT"))) .nil) (.ret (.bin .mod (.bin .mul (.v 1) (.v 2)) (.aE "WORTH_COUNT"))))))⟩
def iI:Fn:=⟨["thing"],["thing"], (.ret (.z .mem (.v 0) (.aE "LETTERS")))⟩
def gO:Fn:=⟨["state","thing"],["state","thing"], (.seq (.v (.call "is_name" (Z9 (.v 1))) (.ret (.y (.y (.v 0) (.aE "NAMES")) (.me .tindex (.aE "LETTERS") (Z9 (.v 1))))) .nil) (.seq (.ex (.call "check_thing" (Z9 (.v 1)))) (.ret (.y (.y (.v 0) (.aE "CELLS")) (.v 1)))))⟩
def fj:Fn:=⟨["part","worths","state"],["part","worths","state","word","last"], (.seq (.set 3 (.y (.v 0) (.j (.int 0)))) (.seq (.v (.z .eq (.v 3) (.j (.str "num"))) (.ret (.y (.v 0) (.j (.int 1)))) .nil) (.seq (.v (.z .eq (.v 3) (.j (.str "name"))) (.ret (.call "worth_in" (Z8 (.v 2) (.y (.v 0) (.j (.int 1)))))) .nil) (.seq (.set 4 (.me .pop (.v 1) .nil)) (.seq (.v (.z .eq (.v 3) (.j (.str "cell"))) (.ret (.y (.y (.v 2) (.aE "CELLS")) (.bin .mod (.v 4) (.aE "CELL_COUNT")))) .nil) (.ret (.call "of_two" (Z7 (.v 3) (.me .pop (.v 1) .nil) (.v 4)))))))))⟩
def iU:Fn:=⟨["term","state"],["term","state","worths","part"], (.seq (.set 2 (.aB ah .nil)) (.seq (.for [(3,"part")] .rev (Z9 (.call "laid_out" (Z9 (.v 0)))) (.ex (.me .append (.v 2) (Z9 (.call "worth_of" (Z7 (.v 3) (.v 2) (.v 1))))))) (.ret (.y (.v 2) (.j (.int 0))))))⟩
def jw:Fn:=⟨["term","state"],["term","state"], (.ret (.bin .mod (.call "reckoned" (Z8 (.v 0) (.v 1))) (.aE "CELL_COUNT")))⟩
def iJ:Fn:=⟨["program","state"],["program","state","word"], (.seq (.v (.z .ge (.y (.v 1) (.aE "ROW")) (.bi .len ai (Z9 (.v 0)))) (.ret (.j (.bl ah))) .nil) (.seq (.set 2 (.y (.y (.v 0) (.y (.v 1) (.aE "ROW"))) (.j (.int 0)))) (.seq (.v (.z .eq (.v 2) (.j (.str "back"))) (.ret (.z .eq (.bi .len ai (Z9 (.y (.v 1) (.aE "CALLS")))) (.j (.int 0)))) .nil) (.seq (.v (.z .eq (.v 2) (.j (.str "call"))) (.ret (.z .ge (.bi .len ai (Z9 (.y (.v 1) (.aE "CALLS")))) (.aE "MOST_CALLS"))) .nil) (.ret (.z .eq (.v 2) (.j (.str "stop"))))))))⟩
def fL:Fn:=⟨["row","state"],["row","state","word"], (.seq (.set 2 (.y (.v 0) (.j (.int 0)))) (.seq (.v (.or (.z .eq (.v 2) (.j (.str "jump"))) (.z .eq (.v 2) (.j (.str "call")))) (.ret (.y (.v 0) (.j (.int 1)))) .nil) (.seq (.v (.z .eq (.v 2) (.j (.str "back"))) (.ret (.y (.y (.v 1) (.aE "CALLS")) (.neg (.j (.int 1))))) .nil) (.seq (.v (.and (.z .eq (.v 2) (.j (.str "unless"))) (.z .eq (.call "reckoned" (Z8 (.y (.v 0) (.j (.int 1))) (.v 1))) (.j (.int 0)))) (.ret (.y (.v 0) (.j (.int 2)))) .nil) (.ret (.bin .add (.y (.v 1) (.aE "ROW")) (.j (.int 1))))))))⟩
def gF:Fn:=⟨["worths","number","worth"],["worths","number","worth"], (.ret (.bin .add (.bin .add (.n (.v 0) .nil (Z9 (.v 1))) (.aC (Z9 (.v 2)))) (.n (.v 0) (Z9 (.bin .add (.v 1) (.j (.int 1)))) .nil)))⟩
def g7:Fn:=⟨["state","name","worth"],["state","name","worth"], (.ret (.call "with_worth" (Z7 (.y (.v 0) (.aE "NAMES")) (.me .tindex (.aE "LETTERS") (Z9 (.v 1))) (.v 2))))⟩
def iK:Fn:=⟨["asked","number"],["asked","number"], (.ret (.ite (.z .lt (.v 1) (.bi .len ai (Z9 (.v 0)))) (.y (.v 0) (.v 1)) (.j (.int 0))))⟩
def jx:Fn:=⟨["program","asked","state"],["program","asked","state","row","word","behind"], (.seq (.set 3 (.y (.v 0) (.y (.v 2) (.aE "ROW")))) (.seq (.set 4 (.y (.v 3) (.j (.int 0)))) (.seq (.set 5 (.bi .list ah (Z9 (.v 2)))) (.seq (.put 5 (.aE "ROW") (.call "place_behind" (Z8 (.v 3) (.v 2)))) (.seq (.v (.z .eq (.v 4) (.j (.str "set"))) (.put 5 (.aE "NAMES") (.call "with_name" (Z7 (.v 2) (.y (.v 3) (.j (.int 1))) (.call "reckoned" (Z8 (.y (.v 3) (.j (.int 2))) (.v 2)))))) (.v (.z .eq (.v 4) (.j (.str "put"))) (.put 5 (.aE "CELLS") (.call "with_worth" (Z7 (.y (.v 2) (.aE "CELLS")) (.call "cell_by" (Z8 (.y (.v 3) (.j (.int 1))) (.v 2))) (.call "reckoned" (Z8 (.y (.v 3) (.j (.int 2))) (.v 2)))))) (.v (.z .eq (.v 4) (.j (.str "ask"))) (.seq (.put 5 (.aE "NAMES") (.call "with_name" (Z7 (.v 2) (.y (.v 3) (.j (.int 1))) (.call "brought" (Z8 (.v 1) (.y (.v 2) (.aE "ASKED"))))))) (.put 5 (.aE "ASKED") (.bin .add (.y (.v 2) (.aE "ASKED")) (.j (.int 1))))) (.v (.z .eq (.v 4) (.j (.str "say"))) (.put 5 (.aE "SAID") (.bin .add (.y (.v 2) (.aE "SAID")) (.aC (Z9 (.call "reckoned" (Z8 (.y (.v 3) (.j (.int 1))) (.v 2))))))) (.v (.z .eq (.v 4) (.j (.str "call"))) (.put 5 (.aE "CALLS") (.bin .add (.y (.v 2) (.aE "CALLS")) (.aC (Z9 (.bin .add (.y (.v 2) (.aE "ROW")) (.j (.int 1))))))) (.v (.z .eq (.v 4) (.j (.str "back"))) (.put 5 (.aE "CALLS") (.n (.y (.v 2) (.aE "CALLS")) .nil (Z9 (.neg (.j (.int 1)))))) .nil)))))) (.ret (.bi .tuple ai (Z9 (.v 5)))))))))⟩
def xh:Sn s=Sn t↔s=t:=by
 constructor
 ·intro h;rw[Yd,Yd]at h;have J:(s.toList.map XN)=(t.toList.map XN):=by have:=bR (λx:ay=>x.cps.toList) h;simpa using this
  have inj:∀(a b:List Char),a.map XN=b.map XN->a=b:=by
   intro a
   induction a with
   |nil=>intro b h;cases b with
    |nil=>rfl|cons _ _=>simp at h
   |cons x L B=>intro b h;cases b with
    |nil=>simp at h
    |cons y q =>
     simp only[Sf,Vg]at h;have:x=y:=Char.toNat_inj.mp h.1;rw[this,B q h.2]
  have D:=inj _ _ J;exact String.toList_inj.mp D
 intro h;rw[h]
@[simp]theorem OG(s t:String):(Sn s==Sn t)=(s==t):=by
 by_cases h:s=t
 subst h;simp
 ·have q:¬Sn s=Sn t:=λe=>h (xh.mp e);rw[beq_eq_false_iff_ne.mpr q,beq_eq_false_iff_ne.mpr h]
@[simp]theorem Qk(s t:String):(Sn s=Sn t)=(s=t):=propext xh
@[simp]theorem RJ(h:List α)(a:α)(r:List α):(h++a::r)[h.length]?=aa a:=by simp
@[simp]theorem Nc(h:List α)(a b:α)(r:List α):(h++a::b::r)[h.length+1]?=aa b:=by rw[SS (by lia)];simp
@[simp]theorem RK(h:List α)(a x:α)(r:List α):(h++a::r).set h.length x=h++x::r:=by simp
@[simp]theorem RL(h:List α)(a b x:α)(r:List α):(h++a::b::r).set (h.length+1) x=h++a::x::r:=by rw[List.set_append_right _ _ (by lia)];simp
def cX(h:HH)(w:W):fin h w h=aa (w,h):=by simp[fin]
def lR(h g:HH)(d:D):fin h (.p d) (h++g)=aa (.p d,h):=by
 unfold fin;cases g with
 |_=>simp
@[simp]theorem Ql(h:HH)(a:Cl)(r:HH):lat (h++a::r) h.length=nN a:=by simp[lat]
@[simp]theorem RM(h:HH)(a b:Cl)(r:HH):lat (h++a::b::r) (h.length+1)=nN b:=by unfold lat;rw[Nc];rfl
@[simp]theorem RN(h:HH)(a:Cl)(r:HH):oat (h++a::r) h.length=pP a:=by simp[oat]
@[simp]theorem RO(h:HH)(a b:Cl)(r:HH):oat (h++a::b::r) (h.length+1)=pP b:=by unfold oat;rw[Nc];rfl
def FG(e:lat h n=aa ys)(c:Cl):lat (h.set n c) n=nN c:=by
 unfold lat at e⊢;cases g:h[n]? with
 |none=>rw[g]at e;exact fP e|some q=>rw[List.getElem?_set_self',g];rfl
def Nf(h:HH)(xs:List D)(g:HH):fin h (.r h.length) (h++.l xs::g)=aa (.p (.aB xs),h):=by unfold fin;simp
def xj(h h':HH)(w:W)(e:h'.length=h.length):fin h w h'=aa (w,h'):=by simp[fin,e]
structure Prg(T:FK->Option Fn)(G:ay->Option W):Prop where
 inner_sums:T "inner_sums"=aa fD
 begun:T "begun"=aa lQ
 laid_out:T "laid_out"=aa iT
 of_two:T "of_two"=aa kB
 worth_of:T "worth_of"=aa fj
 is_name:T "is_name"=aa iI
 worth_in:T "worth_in"=aa gO
 reckoned:T "reckoned"=aa iU
 cell_by:T "cell_by"=aa jw
 is_over:T "is_over"=aa iJ
 place_behind:T "place_behind"=aa fL
 with_worth:T "with_worth"=aa gF
 with_name:T "with_name"=aa g7
 brought:T "brought"=aa iK
 stepped:T "stepped"=aa jx
 LETTERS:G "LETTERS"=aa (.p (.aC [.str "a",.str "b",.str "c",.str "d",.str "e",.str "f"]))
 CELL_COUNT:G "CELL_COUNT"=aa (.p (.int 4))
 WORTH_COUNT:G "WORTH_COUNT"=aa (.p (.int 10007))
 INNER:G "INNER_COUNTS"=aa (.k (.t [("num",.int 0),("name",.int 0),("cell",.int 1),("add",.int 2),("sub",.int 2),("mul",.int 2),("less",.int 2)]))
 ROW:G "ROW"=aa (.p (.int 0))
 NAMES:G "NAMES"=aa (.p (.int 1))
 CELLS:G "CELLS"=aa (.p (.int 2))
 CALLS:G "CALLS"=aa (.p (.int 3))
 ASKED:G "ASKED"=aa (.p (.int 4))
 SAID:G "SAID"=aa (.p (.int 5))
 MOST_CALLS:G "MOST_CALLS"=aa (.p (.int 6))
inductive Op
 |add|sub|mul|less
noncomputable def Op.w:Op->String
 |.add=>"add" |.sub=>"sub" |.mul=>"mul" |.less=>"less"
inductive Nm
 |a|b|c|d|e|f
noncomputable def Nm.w:Nm->String
 |.a=>"a" |.b=>"b" |.c=>"c" |.d=>"d" |.e=>"e" |.f=>"f"
noncomputable def Nm.ix:Nm->Nat
 |.a=>0|.b=>1|.c=>2|.d=>3|.e=>4|.f=>5
def Nm.Cq(x:Nm):x.ix<6:=by cases x<;>decide
inductive Sm
 |num(n:Int)
 |nam(i:Nm)
 |cell(s:Sm)
 |two(o:Op)(s t:Sm)
def Sm.enc:Sm->D
 |.num n=>.aC [.str "num",.int n]|.nam i=>.aC [.str "name",.str i.w]|.cell s=>.aC [.str "cell",s.enc]|.two o s t=>.aC [.str o.w,s.enc,t.enc]
noncomputable def Sm.size:Sm->Nat
 |.num _=>1|.nam _=>1|.cell s=>s.size+1|.two _ s t=>s.size+t.size+1
noncomputable def Sm.lay:Sm->List Sm
 |.num n=>[.num n]|.nam i=>[.nam i]|.cell s=>.cell s::s.lay|.two o s t=>.two o s t::(t.lay++s.lay)
noncomputable def Sm.subs:Sm->List Sm
 |.num _=>[]|.nam _=>[]|.cell s=>[s]|.two _ s t=>[s,t]
def Wth(n:Int):Prop:=0<=n/\n<=10006
noncomputable def Sm.ok:Sm->Prop
 |.num n=>Wth n|.nam _=>True|.cell s=>s.ok|.two _ s t=>s.ok/\t.ok
def Sm.size_pos(s:Sm):1<=s.size:=by cases s<;>simp[Sm.size]
structure St where
 row:Nat
 names:List Int
 cells:List Int
 calls:List Nat
 aG:Nat
 said:List Int
noncomputable def cV(xs:List Int):List D:=xs.map D.int
noncomputable def cW(xs:List Nat):List D:=xs.map λ(n:Nat)=>D.int (n:Int)
def St.enc(s:St):D:=.aC [.int s.row,.aC (cV s.names),.aC (cV s.cells),.aC (cW s.calls),.int s.aG,.aC (cV s.said)]
structure St.ok(s:St):Prop where
 nlen:s.names.length=6
 clen:s.cells.length=4
 nw:∀x∈s.names,Wth x
 cw:∀x∈s.cells,Wth x
noncomputable def two(o:Op)(x y:Int):Int:=match o with
 |.add=>(x+y)%10007|.sub=>(x-y)%10007|.mul=>(x*y)%10007
 |.less=>if x<y then 1 else 0
def Sm.val(st:St):Sm->Int
 |.num n=>n|.nam i=>st.names.getD i.ix 0|.cell s=>st.cells.getD (s.val st%4).toNat 0|.two o s t=>BT.two o (s.val st) (t.val st)
def oV{xs:List Int}(h:∀x∈xs,Wth x)(i:Nat):Wth (xs.getD i 0):=by
 rw[Uh];cases e:xs[i]? with
 |none=>exact⟨by decide,by decide⟩|some x=>exact h x (Sg e)
def Ng(o:Op):Wth (BT.two o x y):=by cases o<;>simp only[BT.two,Wth];lia;lia;lia;split<;>decide
theorem Sm.oW{st:St}(q:st.ok):∀{s:Sm},s.ok->Wth (s.val st)
 |.num _,h=>h|.nam i,_=>oV q.nw _|.cell _,_=>oV q.cw _|.two _ _ _,_=>Ng _
section
def ze(P:Prg T G)(k:Nat)(s:Sm)(h:HH):runN T G (k+1) "inner_sums" [.p s.enc] h=aa (.p (.aC (s.subs.map Sm.enc)),h):=by
 rw[run_eq P.inner_sums rfl];cases s with
 |two o s t =>
  have g:=P.INNER;have q:fy (Sn o.w) [("num",.int 0),("name",.int 0),("cell",.int 1),("add",.int 2),("sub",.int 2),("mul",.int 2),("less",.int 2)]=aa (.int 2):=by cases o<;>simp[Op.w]
  generalize ([("num",.int 0),("name",.int 0),("cell",.int 1),("add",.int 2),("sub",.int 2),("mul",.int 2),("less",.int 2)]:List (ay×D))=I at *;simp[fD,g,q,Sm.enc,Sm.subs,cX]
 |_=>simp[fD,P.INNER,Sm.enc,Sm.subs,cX]
def vp(P:Prg T G)(k:Nat)(o:Op)(q:Wth x)(h:HH):
 runN T G (k+1) "of_two" [.p (.str o.w),.p (.int x),.p (.int y)] h=aa (.p (.int (two o x y)),h):=by
 rw[run_eq P.of_two rfl];have b:big x=ah:=by unfold big;exact bO (by have D:=q.1;have B:=q.2;lia)
 cases o<;>simp[kB,P.WORTH_COUNT,cX,Op.w,two,b]
 by_cases c:x<y<;>simp[c,cX]
noncomputable def pU:List D:=[.str "a",.str "b",.str "c",.str "d",.str "e",.str "f"]
def FH(x:Nm):gB .mem (.str x.w) (.aC pU)=aa ah:=by cases x<;>simp[pU,Nm.w]
def Cr(x:Nm):meD .tindex (.aC pU) [.str x.w]=aa (.int (x.ix:Int)):=by rw[AG];cases x<;>simp[pU,Nm.w,Nm.ix,jK]
def tY{i:Nat}(h:i<xs.length):dI (.aC (cV xs)) (.int (i:Int))=aa (.int (xs.getD i 0)):=by show atP _ _=_;unfold atP place cV;rw[bJ (Int.natCast_nonneg _),bJ (by rw[Se];lia)];show(xs.map D.int)[((i:Int)).toNat]?=_;rw[TQ,Sv,Uh,RY h];rfl
theorem qA(st:St):dI st.enc (.int 1)=aa (.aC (cV st.names)):=rfl
theorem zf(st:St):dI st.enc (.int 2)=aa (.aC (cV st.cells)):=rfl
def jV(P:Prg T G)(k:Nat)(x:Nm)(h:HH):runN T G (k+1) "is_name" [.p (.str x.w)] h=aa (.p (.bl ah),h):=by rw[run_eq P.is_name rfl];have g:G "LETTERS"=aa (.p (.aC pU)):=P.LETTERS;have m:=FH x;generalize pU=L at *;simp[-iF,iI,g,m,cX]
def lT(P:Prg T G)(k:Nat)(st:St)(M:st.ok)(x:Nm)(h:HH):runN T G (k+2) "worth_in" [.p st.enc,.p (.str x.w)] h=aa (.p (.int (st.names.getD x.ix 0)),h):=by rw[run_eq P.worth_in rfl];have r:=jV P k x;have q:=x.Cq;have J:=tY (xs:=st.names) (i:=x.ix) (by rw[M.nlen];exact q);have D:=Cr x;have B:=qA st;have g:G "LETTERS"=aa (.p (.aC pU)):=P.LETTERS;generalize pU=L at *;generalize st.enc=se at *;generalize cV st.names=sn at *;simp[-gW,gO,r,P.NAMES,g,J,D,B,cX]
def jW(P:Prg T G)(k:Nat)(st:St)(q:st.ok)(n:Nat)(h:HH):
 (∀i,runN T G (k+3) "worth_of" [.p (Sm.num i).enc,.r n,.p st.enc] h=aa (.p (.int i),h)) ∧
 (∀i,runN T G (k+3) "worth_of" [.p (Sm.nam i).enc,.r n,.p st.enc] h=aa (.p (.int (st.names.getD i.ix 0)),h)):=by
 refine⟨λi=>?_,λi=>?_⟩<;>rw[run_eq P.worth_of rfl];simp[fj,Sm.enc,cX]
 ·have r:=lT P k st q i;simp[fj,Sm.enc,cX,r]
def oX(P:Prg T G)(k:Nat)(st:St)(J:st.ok)(n:Nat)(h:HH)(s:Sm)(ws:List D)(v:Int)(e:lat h n=aa (ws++[.int v]))(L:0<=v):
 runN T G (k+1) "worth_of" [.p (Sm.cell s).enc,.r n,.p st.enc] h=aa (.p (.int (st.cells.getD (v%4).toNat 0)),h.set n (.l ws)):=by
 rw[run_eq P.worth_of rfl];have c:(((v%4).toNat:Nat):Int)=v%4:=by lia
 have q:=tY (xs:=st.cells) (i:=(v%4).toNat) (by rw[J.clen];lia);rw[c]at q;have B:=zf st;generalize st.enc=se at *;generalize cV st.cells=sn at *;generalize st.cells.getD (v%4).toNat 0=z at *;simp[fj,Sm.enc,P.CELLS,P.CELL_COUNT,e,q,B,xj]
def Op.other(o:Op):¬o.w="num"/\¬o.w="name"/\¬o.w="cell":=by cases o<;>decide
def pV(P:Prg T G)(k:Nat)(st:St)(n:Nat)(h:HH)(o:Op)(s t:Sm)(ws:List D)(x y:Int)(L:Wth x)(e:lat h n=aa (ws++[.int x,.int y])):
 runN T G (k+2) "worth_of" [.p (Sm.two o s t).enc,.r n,.p st.enc] h=aa (.p (.int (two o x y)),h.set n (.l ws)):=by
 rw[run_eq P.worth_of rfl];have O:lat (h.set n (.l (ws++[.int x]))) n=aa (ws++[.int x]):=FG e _;have e1:(ws++[D.int x,D.int y]).getLast?=aa (.int y):=by simp
 have e2:(ws++[D.int x,D.int y]).dropLast=ws++[.int x]:=by simp
 have r:=λM=>vp P k o (x:=x) (y:=y) L M;obtain⟨J,B,q⟩:=o.other;have en:(Sm.two o s t).enc=.aC [.str o.w,s.enc,t.enc]:=rfl;rw[en];generalize o.w=ow at *;generalize s.enc=se at *;generalize t.enc=te at *;simp[fj,e,e1,e2,O,J,B,q,r,xj,Yg]
def loC:E:=.z .gt (.bi .len ai (Z9 (.v 2))) (.j (.int 0))
def loB:S:=.seq (.set 3 (.me .pop (.v 2) .nil)) (.seq (.ex (.me .append (.v 1) (Z9 (.v 3)))) (.ex (.me .extend (.v 2) (Z9 (.call "inner_sums" (Z9 (.v 3)))))))
def sizes(l:List Sm):Nat:=(l.map Sm.size).sum
def vq(s:Sm)(l:List Sm):sizes (s.subs.reverse++l)+1=sizes (s::l):=by cases s<;>simp[sizes,Sm.subs,Sm.size]<;>lia
def Cs(s:Sm)(l:List Sm):(s::l).flatMap Sm.lay=s::(s.subs.reverse++l).flatMap Sm.lay:=by cases s<;>simp[Sm.lay,Sm.subs,List.flatMap_cons]
def FI(s:Sm):s.subs.length<=2:=by cases s<;>simp[Sm.subs]
def qB(l:List Sm):l.length<=sizes l:=by
 induction l with
 |nil=>simp[sizes]
 |cons s l q =>
  have B:=s.size_pos;simp only[sizes,Sf,Tn,Sh]at q⊢;lia
def FJ(P:Prg T G)(k:Nat)(h:HH)(J:W):∀(m:Nat)(B:List Sm)(ps:List D)(x:Option W),sizes B<=m->ps.length+sizes B<=50000 →
 ∃L,eX (ev (runN T G (k+1)) G loC) (evS (runN T G (k+1)) G loB) (m+1) [aa J,aa (.r h.length),aa (.r (h.length+1)),x] (h++[.l ps,.l (B.reverse.map Sm.enc)]) =
  aa (.nx [aa J,aa (.r h.length),aa (.r (h.length+1)),L] (h++[.l (ps++(B.flatMap Sm.lay).map Sm.enc),.l []])):=by
 intro m
 induction m with
 |zero =>
  intro B ps x V _;have:B=[]:=by have:=qB B;exact WW (by lia)
  subst this;exact⟨x,by simp[eX,loC,rd]⟩
 |succ m U =>
  intro B ps x V b;cases B with
  |nil=>exact⟨x,by simp[eX,loC,rd]⟩
  |cons s l =>
   have e:=vq s l;obtain⟨L,q⟩:=U (s.subs.reverse++l) (ps++[s.enc]) (aa (.p s.enc)) (by lia) (by simp only[Sz,UH];lia);refine⟨L,?_⟩;have r:=ze P k s;have O:l.length+s.subs.length<=100000:=by
    have f:=FI s;have d:=qB l;have c:sizes (s::l)=s.size+sizes l:=by simp[sizes]
    lia
   have a:(0:Int)<(l.length:Int)+1:=by lia
   have M:ps.length<100000:=by lia
   have Y:ev (runN T G (k+1)) G loC [aa J,aa (.r h.length),aa (.r (h.length+1)),x] (h++[.l ps,.l ((s::l).reverse.map Sm.enc)])=aa (.p (.bl ah),h++[.l ps,.l ((s::l).reverse.map Sm.enc)]):=by simp[loC,rd,a]
   have Z:evS (runN T G (k+1)) G loB [aa J,aa (.r h.length),aa (.r (h.length+1)),x] (h++[.l ps,.l ((s::l).reverse.map Sm.enc)]) =
    aa (.nx [aa J,aa (.r h.length),aa (.r (h.length+1)),aa (.p s.enc)] (h++[.l (ps++[s.enc]),.l ((s.subs.reverse++l).reverse.map Sm.enc)])):=by
    simp[loB,r,O,M]
   rw[eX,Y,jo,mj,Z,gJ,q,Cs,Sf,Tg,Um]
theorem oY:iT=⟨["term"],["term","parts","waiting","part"],.seq (.set 1 (.aB ah .nil))
 (.seq (.set 2 (.aB ah (.cons (.v 0) .nil))) (.seq (.j loC loB) (.ret (.v 1))))⟩:=rfl
def rK(P:Prg T G)(k:Nat)(s:Sm)(D:s.size<=40000)(h:HH):runN T G (k+2) "laid_out" [.p s.enc] h=aa (.p (.aB (s.lay.map Sm.enc)),h):=by rw[run_eq P.laid_out rfl];obtain⟨B,q⟩:=FJ P k h (.p s.enc) 99999 [s] [] af (by simp only[sizes,Sf,Tc,Tn,List.sum_nil];lia) (by simp only[sizes,Sf,Tc,Tn,List.sum_nil,SW];lia);simp only[List.flatMap_cons,List.flatMap_nil,TJ,UF,VV,Sf,Tc]at q;rw[oY];simp[turns,q,Nf]
def rkB:S:=.ex (.me .append (.v 2) (Z9 (.call "worth_of" (Z7 (.v 3) (.v 2) (.v 1)))))
def FL(P:Prg T G)(k:Nat)(h:HH)(q:W)(st:St)(M:st.ok):∀(s:Sm),s.ok->∀(ws:List D)(rest:List D)(x:Option W),ws.length+s.size<=50000 →
 ∃Z,gK (evS (runN T G (k+3)) G rkB) [(3,"part")] ((s.lay.map Sm.enc).reverse++rest) [aa q,aa (.p st.enc),aa (.r h.length),x] (h++[.l ws]) =
  gK (evS (runN T G (k+3)) G rkB) [(3,"part")] rest [aa q,aa (.p st.enc),aa (.r h.length),Z] (h++[.l (ws++[.int (s.val st)])]):=by
 intro s
 induction s with
 |num n =>
  intro _ ws rest x B;refine⟨aa (.p (Sm.num n).enc),?_⟩;have r:=(jW P k st M h.length (h++[.l ws])).1 n;have l:ws.length<100000:=by simp only[Sm.size]at B;lia
  have J:evS (runN T G (k+3)) G rkB [aa q,aa (.p st.enc),aa (.r h.length),aa (.p (Sm.num n).enc)] (h++[.l ws]) =
   aa (.nx [aa q,aa (.p st.enc),aa (.r h.length),aa (.p (Sm.num n).enc)] (h++[.l (ws++[.int n])])):=by
   simp[rkB,r,l]
  simp only[Sm.lay,Sf,Tc,VV,Um,Sm.val];simp[J]
 |nam i =>
  intro _ ws rest x B;refine⟨aa (.p (Sm.nam i).enc),?_⟩;have r:=(jW P k st M h.length (h++[.l ws])).2 i;have l:ws.length<100000:=by simp only[Sm.size]at B;lia
  have J:evS (runN T G (k+3)) G rkB [aa q,aa (.p st.enc),aa (.r h.length),aa (.p (Sm.nam i).enc)] (h++[.l ws]) =
   aa (.nx [aa q,aa (.p st.enc),aa (.r h.length),aa (.p (Sm.nam i).enc)] (h++[.l (ws++[.int (st.names.getD i.ix 0)])])):=by
   simp[rkB,r,l]
  simp only[Sm.lay,Sf,Tc,VV,Um,Sm.val];simp[J]
 |cell s a =>
  intro L ws rest x B;obtain⟨Y,e1⟩:=a L ws ((Sm.cell s).enc::rest) x (by simp only[Sm.size]at B;lia);refine⟨aa (.p (Sm.cell s).enc),?_⟩;have r:=oX P (k+2) st M h.length (h++[.l (ws++[.int (s.val st)])]) s ws (s.val st) (by simp) (Sm.oW (s:=s) M L).1;have l:ws.length<100000:=by simp only[Sm.size]at B;lia
  have J:evS (runN T G (k+3)) G rkB [aa q,aa (.p st.enc),aa (.r h.length),aa (.p (Sm.cell s).enc)] (h++[.l (ws++[.int (s.val st)])]) =
   aa (.nx [aa q,aa (.p st.enc),aa (.r h.length),aa (.p (Sm.cell s).enc)] (h++[.l (ws++[.int ((Sm.cell s).val st)])])):=by
   simp[rkB,r,l,Sm.val]
  simp only[Sm.lay,Sf,List.reverse_cons,Tg,Um];rw[e1];simp[J]
 |two o s t U O =>
  intro L ws rest x B;have V:=B;simp only[Sm.size]at V;obtain⟨Y,e1⟩:=U L.1 ws ((t.lay.map Sm.enc).reverse++((Sm.two o s t).enc::rest)) x (by lia);obtain⟨b,e2⟩:=O L.2 (ws++[.int (s.val st)]) ((Sm.two o s t).enc::rest) Y (by simp only[Sz,UH];have:=s.size_pos;lia);refine⟨aa (.p (Sm.two o s t).enc),?_⟩;have r:=pV P (k+1) st h.length (h++[.l (ws++[.int (s.val st),.int (t.val st)])]) o s t ws (s.val st) (t.val st) (Sm.oW M L.1) (by simp);have l:ws.length<100000:=by lia
  have J:evS (runN T G (k+3)) G rkB [aa q,aa (.p st.enc),aa (.r h.length),aa (.p (Sm.two o s t).enc)] (h++[.l (ws++[.int (s.val st),.int (t.val st)])]) =
   aa (.nx [aa q,aa (.p st.enc),aa (.r h.length),aa (.p (Sm.two o s t).enc)] (h++[.l (ws++[.int ((Sm.two o s t).val st)])])):=by
   simp[rkB,r,l,Sm.val]
  simp only[Sm.lay,Sf,Vv,List.reverse_cons,List.reverse_append,Tg,Um];rw[e1,e2];simp only[Tg,Um];simp[J]
theorem oZ:iU=⟨["term","state"],["term","state","worths","part"],.seq (.set 2 (.aB ah .nil))
 (.seq (.for [(3,"part")] .rev (.cons (.call "laid_out" (.cons (.v 0) .nil)) .nil) rkB) (.ret (.y (.v 2) (.j (.int 0)))))⟩:=rfl
def gh(P:Prg T G)(k:Nat)(s:Sm)(B:s.size<=40000)(J:s.ok)(st:St)(D:st.ok)(h:HH):
 runN T G (k+4) "reckoned" [.p s.enc,.p st.enc] h=aa (.p (.int (s.val st)),h):=by
 rw[run_eq P.reckoned rfl];obtain⟨L,q⟩:=FL P k h (.p s.enc) st D s J [] [] af (by simp only[SW];lia);rw[oZ];simp only[TJ,UF]at q;have r:=rK P (k+1) s B;simp[r,jM,q,lR,rd]
end
section
variable{T:FK->Option Fn}{F:FK->List W->HH->Option (W×HH)}{G:ay->Option W}{i:Nat}{e e' c:E}{a b:S}{s s':Sl}{h g:HH}{w:W}{d d' z:D}
def jX(h1:evS F G a s h=aa (.nx s' g)):evS F G (.seq a b) s h=evS F G b s' g:=by simp[h1]
def gi(h1:aL F G e s h=aa (w,g)):evS F G (.seq (.set i e) b) s h=evS F G b (s.set i (aa w)) g:=by simp[h1]
def Nh(h1:aL F G c s h=aa (.p (.bl ai),h)):evS F G (.seq (.v c a .nil) b) s h=evS F G b s h:=by simp[h1]
def JF(h1:aL F G c s h=aa (.p (.bl ah),h))(h2:aL F G e s h=aa (w,g)):evS F G (.seq (.v c (.ret e) .nil) b) s h=aa (.rt w g):=by simp[h1,h2]
def kU(h2:aL F G e s h=aa (w,g)):evS F G (.ret e) s h=aa (.rt w g):=by simp[h2]
def Ct(B:T f=aa fn)(q:ws.length=fn.ps.length)(h1:evS (runN T G k) G fn.body (ff fn.ns.length ws) h=aa (.rt (.p d) h)):runN T G (k+1) f ws h=aa (.p d,h):=by rw[run_eq B q,h1];exact cX h (.p d)
def Ni(h1:aL F G e s h=aa (.p d,g))(h2:aL F G e' s g=aa (.p d',g))(q:dI d d'=aa z):aL F G (.y e e') s h=aa (.p z,g):=by simp[h1,h2,q]
end
section
def g8(xs:List α)(i:Nat):atP xs (i:Int)=xs[i]?:=by
 unfold atP place
 by_cases h:i<xs.length
 ·have q:((i:Int)<(xs.length:Int)):=by lia
  simp[q,h]
 ·have q:¬((i:Int)<(xs.length:Int)):=by lia
  simp[q];lia
def iL(P:Prg T G)(k:Nat)(xs:List D)(i:Nat)(hi:i<xs.length)(Y:xs.length<=1000)(d:D)(h:HH):
 runN T G (k+1) "with_worth" [.p (.aC xs),.p (.int i),.p d] h=aa (.p (.aC (xs.set i d)),h):=by
 rw[run_eq P.with_worth rfl];have W:¬((i:Int)<0):=by lia
 have V:(i:Int)<=(xs.length:Int):=by lia
 have U:¬((i:Int)+1<0):=by lia
 have O:(i:Int)+1<=(xs.length:Int):=by lia
 have M:((i:Int)+1).toNat=i+1:=by lia
 have b:xs.length-(i+1)+(i+1)<=100000:=by lia
 have L:i+1+(xs.length-(i+1))<=100000:=by lia
 have J:min i xs.length=i:=by lia
 have B:i+1<=100000:=by lia
 have e:xs.take i++d::xs.drop (i+1)=xs.set i d:=by rw[List.set_eq_take_append_cons_drop,bJ hi]
 have a:(xs.take i).length=i:=by simp;lia
 have Z:(xs.drop (i+1)).length=xs.length-(i+1):=by simp
 have q:((xs.drop (i+1)).take (xs.length-(i+1)))=xs.drop (i+1):=by apply X9;simp
 simp[gF,W,V,U,O,M,L,J,B,q,e,cX]
@[simp]theorem Rv(st:St):dI st.enc (.int 0)=aa (.int st.row):=rfl
@[simp]theorem Rx(st:St):dI st.enc (.int 1)=aa (.aC (cV st.names)):=rfl
@[simp]theorem Ry(st:St):dI st.enc (.int 2)=aa (.aC (cV st.cells)):=rfl
@[simp]theorem Rz(st:St):dI st.enc (.int 3)=aa (.aC (cW st.calls)):=rfl
@[simp]theorem RB(st:St):dI st.enc (.int 4)=aa (.int st.aG):=rfl
@[simp]theorem RC(st:St):dI st.enc (.int 5)=aa (.aC (cV st.said)):=rfl
inductive Rw
 |set(x:Nm)(s:Sm)|put(s t:Sm)|ask(x:Nm)|say(s:Sm)|jump(p:Nat)|unless(s:Sm)(p:Nat)|call(p:Nat)|back|stop
def Rw.enc:Rw->D
 |.set x s=>.aC [.str "set",.str x.w,s.enc]|.put s t=>.aC [.str "put",s.enc,t.enc]|.ask x=>.aC [.str "ask",.str x.w]|.say s=>.aC [.str "say",s.enc]|.jump p=>.aC [.str "jump",.int p]|.unless s p=>.aC [.str "unless",s.enc,.int p]|.call p=>.aC [.str "call",.int p]|.back=>.aC [.str "back"]|.stop=>.aC [.str "stop"]
def rL(s:Sm):Prop:=s.ok/\s.size<=15
noncomputable def Rw.ok(n:Nat):Rw->Prop
 |.set _ s=>rL s|.put s t=>rL s/\rL t|.ask _=>True|.say s=>rL s|.jump p=>p<=n|.unless s p=>rL s/\p<=n|.call p=>p<=n|.back=>True|.stop=>True
noncomputable abbrev Pg:=List Rw
def dQ(p:Pg):D:=.aC (p.map Rw.enc)
def Pg.ok(p:Pg):Prop:=∀r∈p,r.ok p.length
def Rw.next(aG:List Int)(st:St):Rw->St
 |.set x s=>{st with row:=st.row+1,names:=st.names.set x.ix (s.val st)}|.put s t=>{st with row:=st.row+1,cells:=st.cells.set (s.val st%4).toNat (t.val st)}|.ask x=>{st with row:=st.row+1,names:=st.names.set x.ix (aG.getD st.aG 0),aG:=st.aG+1}|.say s=>{st with row:=st.row+1,said:=st.said++[s.val st]}|.jump p=>{st with row:=p}|.unless s p=>{st with row:=if s.val st=0 then p else st.row+1}|.call p=>{st with row:=p,calls:=st.calls++[st.row+1]}|.back=>{st with row:=st.calls.getLast?.getD 0,calls:=st.calls.dropLast}|.stop=>st
noncomputable def Rw.over(st:St):Rw->Bool
 |.back=>st.calls.length==0|.call _=>decide (6<=st.calls.length)|.stop=>ah|_=>ai
def over(p:Pg)(st:St):Bool:=match p[st.row]? with
 |some r=>r.over st|none=>ah
def step(p:Pg)(aG:List Int)(st:St):St:=match p[st.row]? with
 |some r=>r.next aG st
 |none=>st
noncomputable def St.zero:St:=⟨0,[0,0,0,0,0,0],[0,0,0,0],[],0,[]⟩
def FM:St.zero.ok:=⟨rfl,rfl,by simp[St.zero,Wth],by simp[St.zero,Wth]⟩
def sts(p:Pg)(aG:List Int):Nat->St->List St
 |0,st=>[st]
 |n+1,st=>if over p st then [st]else st::sts p aG n (step p aG st)
def mH(P:Prg T G)(k:Nat)(h:HH):runN T G (k+1) "begun" [] h=aa (.p St.zero.enc,h):=by rw[run_eq P.begun rfl];simp[lQ,P.LETTERS,P.CELL_COUNT,cX,St.zero,St.enc,cV,cW,rep,Sw,List.flatten]
def tZ(P:Prg T G)(k:Nat)(aG:List Int)(n:Nat)(h:HH):runN T G (k+1) "brought" [.p (.aB (cV aG)),.p (.int n)] h=aa (.p (.int (aG.getD n 0)),h):=by
 rw[run_eq P.brought rfl]
 by_cases c:n<aG.length
 ·have q:(n:Int)<(aG.length:Int):=by lia
  simp[iK,cV,c,q,cX]
 ·have q:¬(n:Int)<(aG.length:Int):=by lia
  have e:aG[n]?=af:=Si (by lia);simp[iK,cV,q,cX,e]
def i7(P:Prg T G)(k:Nat)(st:St)(J:st.ok)(x:Nm)(d:Int)(h:HH):
 runN T G (k+2) "with_name" [.p st.enc,.p (.str x.w),.p (.int d)] h=aa (.p (.aC (cV (st.names.set x.ix d))),h):=by
 rw[run_eq P.with_name rfl];have r:=λi=>iL P k (cV st.names) i;have l:(cV st.names).length=6:=by simp[cV,J.nlen]
 have e:(cV st.names).set x.ix (.int d)=cV (st.names.set x.ix d):=by simp[cV,V2]
 have q:=r x.ix (by rw[l];exact x.Cq) (by lia) (.int d);rw[e]at q;have g:G "LETTERS"=aa (.p (.aC pU)):=P.LETTERS;have D:=Cr x;have B:=qA st;generalize pU=L at *;generalize st.enc=se at *;generalize M:(x.ix:Int)=z at *;simp[g7,P.NAMES,g,D,B,cX,q]
def ua(P:Prg T G)(k:Nat)(s:Sm)(B:rL s)(st:St)(D:st.ok)(h:HH):runN T G (k+5) "cell_by" [.p s.enc,.p st.enc] h=aa (.p (.int (s.val st%4)),h):=by rw[run_eq P.cell_by rfl];have q:=gh P k s (by have:=B.2;lia) B.1 st D;simp[jw,q,P.CELL_COUNT,cX]
noncomputable def Rw.word:Rw->String
 |.set _ _=>"set" |.put _ _=>"put" |.ask _=>"ask" |.say _=>"say" |.jump _=>"jump" |.unless _ _=>"unless" |.call _=>"call" |.back=>"back" |.stop=>"stop"
def Rw.rM(r:Rw):dI r.enc (.int 0)=aa (.str r.word):=by cases r<;>rfl
def plT:S:=(.seq (.v (.or (.z .eq (.v 2) (.j (.str "jump"))) (.z .eq (.v 2) (.j (.str "call")))) (.ret (.y (.v 0) (.j (.int 1)))) .nil) (.seq (.v (.z .eq (.v 2) (.j (.str "back"))) (.ret (.y (.y (.v 1) (.aE "CALLS")) (.neg (.j (.int 1))))) .nil) (.seq (.v (.and (.z .eq (.v 2) (.j (.str "unless"))) (.z .eq (.call "reckoned" (Z8 (.y (.v 0) (.j (.int 1))) (.v 1))) (.j (.int 0)))) (.ret (.y (.v 0) (.j (.int 2)))) .nil) (.ret (.bin .add (.y (.v 1) (.aE "ROW")) (.j (.int 1)))))))
theorem uc:fL=⟨["row","state"],["row","state","word"],
 (.seq (.set 2 (.y (.v 0) (.j (.int 0)))) plT)⟩:=rfl
def FN(P:Prg T G)(F:FK->List W->HH->Option (W×HH))(q:W)(st:St)(h:HH)(v:String)(L:¬v="jump")(J:¬v="call")(D:¬v="back")(B:¬v="unless"):evS F G plT [aa q,aa (.p st.enc),aa (.p (.str v))] h=aa (.rt (.p (.int ((st.row:Int)+1))) h):=by have M:dI st.enc (.int 0)=aa (.int (st.row:Int)):=rfl;generalize st.enc=se at *;simp[plT,L,J,D,B,P.ROW,M]
def GU(F:FK->List W->HH->Option (W×HH))(d:D)(B:W)(h:HH)(v:String)(q:Int)(J:v="jump"\/v="call")(i1:dI d (.int 1)=aa (.int q)):evS F G plT [aa (.p d),aa B,aa (.p (.str v))] h=aa (.rt (.p (.int q)) h):=by rcases J with rfl|rfl<;>simp[plT,i1]
def zh(P:Prg T G)(k:Nat)(n:Nat)(r:Rw)(J:r.ok n)(st:St)(Y:st.ok)(aG:List Int)(L:r.over st=ai)(h:HH):
 runN T G (k+5) "place_behind" [.p r.enc,.p st.enc] h=aa (.p (.int (r.next aG st).row),h):=by
 have M:=r.rM;have B:runN T G (k+5) "place_behind" [.p r.enc,.p st.enc] h=kI (evS (runN T G (k+4)) G plT [aa (.p r.enc),aa (.p st.enc),aa (.p (.str r.word))] h) (fin h):=by rw[run_eq P.place_behind rfl,uc];generalize r.enc=re at *;simp[M]
 have D:∀q:Int,kI (aa (.rt (.p (.int q)) h)) (fin h)=aa (.p (.int q),h):=λq=>by simp[cX]
 rw[B];cases r with
 |«unless» s p =>
  have q:=gh P k s (by have:=J.1.2;lia) J.1.1 st Y;have V:dI (Rw.unless s p).enc (.int 1)=aa s.enc:=rfl;have U:dI (Rw.unless s p).enc (.int 2)=aa (.int (p:Int)):=rfl;have W:dI st.enc (.int 0)=aa (.int (st.row:Int)):=rfl;generalize (Rw.unless s p).enc=re at *;generalize st.enc=se at *;generalize s.enc=sn at *
  by_cases c:s.val st=0<;>simp[plT,Rw.word,Rw.next,q,c,W,V,U,cX,P.ROW]
 |back =>
  have c:st.calls≠[]:=by intro e;simp[Rw.over,e]at L
  have:∃l x,st.calls=l++[x]:=⟨st.calls.dropLast,st.calls.getLast c,(List.dropLast_concat_getLast c).symm⟩;obtain⟨l,x,e⟩:=this;have O:dI st.enc (.int 3)=aa (.aC (cW st.calls)):=rfl;have ix:dI (.aC (cW st.calls)) (.int (-1))=aa (.int (x:Int)):=by
   have e2:-((l.length:Int)+1)<=-1:=by lia
   have Z:(-1+((l.length:Int)+1)).toNat=l.length:=by lia
   simp[cW,e,e2,Z]
  have nx:((Rw.back).next aG st).row=x:=by simp[Rw.next,e]
  rw[nx];generalize st.enc=se at *;generalize cW st.calls=nl at *;simp[-gW,plT,Rw.word,P.CALLS,O,ix,cX]
 |stop=>simp[Rw.over]at L|jump p=>rw[Rw.word,GU _ _ _ _ _ (p:Int) (.inl rfl) rfl,D];rfl|call p=>rw[Rw.word,GU _ _ _ _ _ (p:Int) (.inr rfl) rfl,D];rfl|_=>rw[Rw.word,FN P _ _ _ _ _ (by decide) (by decide) (by decide) (by decide),D];rfl
def ovT:S:=(.seq (.v (.z .eq (.v 2) (.j (.str "back"))) (.ret (.z .eq (.bi .len ai (Z9 (.y (.v 1) (.aE "CALLS")))) (.j (.int 0)))) .nil) (.seq (.v (.z .eq (.v 2) (.j (.str "call"))) (.ret (.z .ge (.bi .len ai (Z9 (.y (.v 1) (.aE "CALLS")))) (.aE "MOST_CALLS"))) .nil) (.ret (.z .eq (.v 2) (.j (.str "stop"))))))
theorem pW:iJ=⟨["program","state"],["program","state","word"],
 (.seq (.v (.z .ge (.y (.v 1) (.aE "ROW")) (.bi .len ai (.cons (.v 0) .nil))) (.ret (.j (.bl ah))) .nil)
 (.seq (.set 2 (.y (.y (.v 0) (.y (.v 1) (.aE "ROW"))) (.j (.int 0))))
 ovT))⟩:=rfl
def FO(F:FK->List W->HH->Option (W×HH))(B q:W)(h:HH)(v:String)(J:¬v="back")(D:¬v="call"):evS F G ovT [aa B,aa q,aa (.p (.str v))] h=aa (.rt (.p (.bl (decide (v="stop")))) h):=by
 by_cases c:v="stop"
 ·subst c;simp[ovT]
 ·skip
  simp[ovT,J,D,c]
def ud(P:Prg T G)(k:Nat)(p:Pg)(st:St)(h:HH):runN T G (k+1) "is_over" [.p (dQ p),.p st.enc] h=aa (.p (.bl (over p st)),h):=by
 have M:biD .len [dQ p]=aa (.int p.length):=by simp[dQ]
 by_cases c:st.row<p.length
 ·have J:¬(p.length:Int)<=(st.row:Int):=by lia
  have W:(st.row:Int)<(p.length:Int):=by lia
  have e:p[st.row]?=aa p[st.row]:=RY c;have row:dI (dQ p) (.int st.row)=aa (p[st.row]).enc:=by simp[dQ,W,e]
  have V:over p st=(p[st.row]).over st:=by rw[over,e]
  rw[V];generalize p[st.row]=r at row⊢;have L:=r.rM;have B:runN T G (k+1) "is_over" [.p (dQ p),.p st.enc] h=kI (evS (runN T G k) G ovT [aa (.p (dQ p)),aa (.p st.enc),aa (.p (.str r.word))] h) (fin h):=by rw[run_eq P.is_over rfl,pW];generalize r.enc=re at row L;simp[M,row,L,P.ROW,J]
  rw[B];have O:biD .len [.aC (cW st.calls)]=aa (.int (st.calls.length:Int)):=by simp[cW]
  have U:dI st.enc (.int 3)=aa (.aC (cW st.calls)):=rfl;cases r with
  |back =>
   have D:(((st.calls.length:Nat):Int)==0)=(st.calls.length==0):=by
    cases st.calls with
    |nil=>rfl|cons a l=>rw[beq_eq_false_iff_ne.mpr (by simp only[Sh];lia)];rfl
   simp[-qo,ovT,Rw.word,P.CALLS,U,O,D,cX,Rw.over]
  |call q =>
   have D:decide ((6:Int)<=(st.calls.length:Int))=decide (6<=st.calls.length):=decide_eq_decide.mpr (by lia);simp[-qo,ovT,Rw.word,P.CALLS,P.MOST_CALLS,U,O,D,cX,Rw.over]
  |_ =>
   rw[Rw.word,FO _ _ _ _ _ (by decide) (by decide)];simp[cX,Rw.over]
 ·have J:(p.length:Int)<=(st.row:Int):=by lia
  have e:p[st.row]?=af:=Si (by lia);rw[run_eq P.is_over rfl];simp[iJ,M,P.ROW,J,cX,over,e]
def ints_set(xs:List Int)(i:Nat)(v:Int):(cV xs).set i (.int v)=cV (xs.set i v):=by simp[cV,V2]
def iM(xs:List Int):(cV xs).length=xs.length:=by simp[cV]
def ints_snoc(xs:List Int)(v:Int):cV xs++[.int v]=cV (xs++[v]):=by simp[cV]
def zj(xs:List Nat)(v:Nat):cW xs++[.int (v:Int)]=cW (xs++[v]):=by simp[cW]
def Cu(xs:List Nat):cut (cW xs) af (aa (-1))=cW xs.dropLast:=by
 have e:(-1+(xs.length:Int)).toNat=xs.length-1:=by lia
 simp[cut,clip,cW,e,List.dropLast_eq_take]
structure St.small(st:St):Prop where
 sl:st.said.length<=5000
 cl:st.calls.length<=5000
def encL(st:St):List D:=[.int st.row,.aC (cV st.names),.aC (cV st.cells),.aC (cW st.calls),.int st.aG,.aC (cV st.said)]
theorem Cv(st:St):biD .list [st.enc]=aa (.aB (encL st)):=rfl
def JG:S:=(.put 5 (.aE "CALLS") (.n (.y (.v 2) (.aE "CALLS")) .nil (Z9 (.neg (.j (.int 1))))))
def JH:S:=(.v (.z .eq (.v 4) (.j (.str "back"))) JG .nil)
def JI:S:=(.put 5 (.aE "CALLS") (.bin .add (.y (.v 2) (.aE "CALLS")) (.aC (Z9 (.bin .add (.y (.v 2) (.aE "ROW")) (.j (.int 1)))))))
def FP:S:=(.v (.z .eq (.v 4) (.j (.str "call"))) JI JH)
def JJ:S:=(.put 5 (.aE "SAID") (.bin .add (.y (.v 2) (.aE "SAID")) (.aC (Z9 (.call "reckoned" (Z8 (.y (.v 3) (.j (.int 1))) (.v 2)))))))
def Cw:S:=(.v (.z .eq (.v 4) (.j (.str "say"))) JJ FP)
def JK:S:=(.seq (.put 5 (.aE "NAMES") (.call "with_name" (Z7 (.v 2) (.y (.v 3) (.j (.int 1))) (.call "brought" (Z8 (.v 1) (.y (.v 2) (.aE "ASKED"))))))) (.put 5 (.aE "ASKED") (.bin .add (.y (.v 2) (.aE "ASKED")) (.j (.int 1)))))
def zk:S:=(.v (.z .eq (.v 4) (.j (.str "ask"))) JK Cw)
def JL:S:=(.put 5 (.aE "CELLS") (.call "with_worth" (Z7 (.y (.v 2) (.aE "CELLS")) (.call "cell_by" (Z8 (.y (.v 3) (.j (.int 1))) (.v 2))) (.call "reckoned" (Z8 (.y (.v 3) (.j (.int 2))) (.v 2))))))
def vv:S:=(.v (.z .eq (.v 4) (.j (.str "put"))) JL zk)
def JM:S:=(.put 5 (.aE "NAMES") (.call "with_name" (Z7 (.v 2) (.y (.v 3) (.j (.int 1))) (.call "reckoned" (Z8 (.y (.v 3) (.j (.int 2))) (.v 2))))))
def kW:S:=(.v (.z .eq (.v 4) (.j (.str "set"))) JM vv)
def JN:S:=(.seq kW (.ret (.bi .tuple ai (Z9 (.v 5)))))
theorem pX:jx=⟨["program","asked","state"],["program","asked","state","row","word","behind"],
 (.seq (.set 3 (.y (.v 0) (.y (.v 2) (.aE "ROW"))))
 (.seq (.set 4 (.y (.v 3) (.j (.int 0))))
 (.seq (.set 5 (.bi .list ah (.cons (.v 2) .nil)))
 (.seq (.put 5 (.aE "ROW") (.call "place_behind" (.cons (.v 3) (.cons (.v 2) .nil))))
 JN))))⟩:=rfl
theorem JO(F:FK->List W->HH->Option (W×HH))(A B:S)(s:Sl)(h:HH):evS F G (.seq A B) s h=oj (evS F G A s h) (evS F G B):=rfl
def pick(F:FK->List W->HH->Option (W×HH))(L J D q:W)(v w:String)(rest:Sl)(h:HH)(A B:S):evS F G (.v (.z .eq (.v 4) (.j (.str w))) A B) (aa L::aa J::aa D::aa q::aa (.p (.str v))::rest) h=if v=w then evS F G A (aa L::aa J::aa D::aa q::aa (.p (.str v))::rest) h else evS F G B (aa L::aa J::aa D::aa q::aa (.p (.str v))::rest) h:=by
 have e:eqv (.str v) (.str w)=decide (v=w):=by
  by_cases c:v=w
  rw[bO c,c];simp
  ·rw[bN c];have:¬Sn v=Sn w:=λz=>c (by simpa using z);simp[this,c]
 by_cases c:v=w
 ·rw[bO c]at e;rw[bJ c];simp[-eqv,e]
 ·rw[bN c]at e;rw[bK c];simp[-eqv,e]
def to0(F:FK->List W->HH->Option (W×HH))(J D B q:W)(rest:Sl)(h:HH):evS F G kW (aa J::aa D::aa B::aa q::aa (.p (.str "set"))::rest) h=evS F G JM (aa J::aa D::aa B::aa q::aa (.p (.str "set"))::rest) h:=by rw[kW,pick,bJ rfl]
def to1(F:FK->List W->HH->Option (W×HH))(J D B q:W)(rest:Sl)(h:HH):evS F G kW (aa J::aa D::aa B::aa q::aa (.p (.str "put"))::rest) h=evS F G JL (aa J::aa D::aa B::aa q::aa (.p (.str "put"))::rest) h:=by rw[kW,pick,bK (by decide),vv,pick,bJ rfl]
def to2(F:FK->List W->HH->Option (W×HH))(J D B q:W)(rest:Sl)(h:HH):evS F G kW (aa J::aa D::aa B::aa q::aa (.p (.str "ask"))::rest) h=evS F G JK (aa J::aa D::aa B::aa q::aa (.p (.str "ask"))::rest) h:=by rw[kW,pick,bK (by decide),vv,pick,bK (by decide),zk,pick,bJ rfl]
def to3(F:FK->List W->HH->Option (W×HH))(J D B q:W)(rest:Sl)(h:HH):evS F G kW (aa J::aa D::aa B::aa q::aa (.p (.str "say"))::rest) h=evS F G JJ (aa J::aa D::aa B::aa q::aa (.p (.str "say"))::rest) h:=by rw[kW,pick,bK (by decide),vv,pick,bK (by decide),zk,pick,bK (by decide),Cw,pick,bJ rfl]
def to4(F:FK->List W->HH->Option (W×HH))(J D B q:W)(rest:Sl)(h:HH):evS F G kW (aa J::aa D::aa B::aa q::aa (.p (.str "call"))::rest) h=evS F G JI (aa J::aa D::aa B::aa q::aa (.p (.str "call"))::rest) h:=by rw[kW,pick,bK (by decide),vv,pick,bK (by decide),zk,pick,bK (by decide),Cw,pick,bK (by decide),FP,pick,bJ rfl]
def to5(F:FK->List W->HH->Option (W×HH))(J D B q:W)(rest:Sl)(h:HH):evS F G kW (aa J::aa D::aa B::aa q::aa (.p (.str "back"))::rest) h=evS F G JG (aa J::aa D::aa B::aa q::aa (.p (.str "back"))::rest) h:=by rw[kW,pick,bK (by decide),vv,pick,bK (by decide),zk,pick,bK (by decide),Cw,pick,bK (by decide),FP,pick,bK (by decide),JH,pick,bJ rfl]
def toN(F:FK->List W->HH->Option (W×HH))(J D B q:W)(rest:Sl)(h:HH)(v:String)(L:v∉["set","put","ask","say","call","back"]):evS F G kW (aa J::aa D::aa B::aa q::aa (.p (.str v))::rest) h=aa (.nx (aa J::aa D::aa B::aa q::aa (.p (.str v))::rest) h):=by simp only[XR,VR,or_false,not_or]at L;obtain⟨Z,Y,V,U,O,M⟩:=L;rw[kW,pick,bK Z,vv,pick,bK Y,zk,pick,bK V,Cw,pick,bK U,FP,pick,bK O,JH,pick,bK M];rfl
def ue(P:Prg T G)(k:Nat)(p:Pg)(Z:Pg.ok p)(aG:List Int)(st:St)(D:st.ok)(W:st.small)(L:over p st=ai)(h:HH):
 runN T G (k+6) "stepped" [.p (dQ p),.p (.aB (cV aG)),.p st.enc] h=aa (.p (step p aG st).enc,h):=by
 have c:st.row<p.length:=by
  rcases Sq st.row p.length with q|q
  exact q;rw[over,Si q]at L;exact LR L
 have e:p[st.row]?=aa p[st.row]:=RY c;have g:(st.row:Int)<(p.length:Int):=by lia
 have B:=Z _ (VT c);have J:(p[st.row]).over st=ai:=by rw[over,e]at L;exact L
 have O:=zh P k p.length p[st.row] B st D aG J;rw[step,e];have j:=W.sl;have i:=W.cl
 revert O B J
 generalize p[st.row]=r at *;intro B J O;have row:dI (dQ p) (.int st.row)=aa r.enc:=by simp[dQ,g,e]
 have M:runN T G (k+6) "stepped" [.p (dQ p),.p (.aB (cV aG)),.p st.enc] h =
  kI (evS (runN T G (k+5)) G JN [aa (.p (dQ p)),aa (.p (.aB (cV aG))),aa (.p st.enc),aa (.p r.enc),aa (.p (.str r.word)),aa (.r h.length)] (h++[.l [.int (r.next aG st).row,.aC (cV st.names),.aC (cV st.cells),.aC (cW st.calls),.int st.aG,.aC (cV st.said)]])) (fin h):=by
  rw[run_eq P.stepped rfl,pX];simp[row,r.rM,P.ROW,Cv,encL,O]
 rw[M,JN,JO];cases r with
 |set x s =>
  have q:=gh P (k+1) s (by have:=B.2;lia) B.1 st D;have w:=i7 P (k+3) st D x (s.val st);simp only[Rw.enc,Rw.next,Rw.word,to0];simp[JM,P.ROW,P.NAMES,q,w,rd,lR,Rw.next];simp[St.enc]
 |put s t =>
  have q:=ua P k s B.1 st D;have Y:=gh P (k+1) t (by have:=B.2.2;lia) B.2.1 st D;have v:=Sm.oW (s:=s) D B.1.1;have a:(s.val st%4).toNat<(cV st.cells).length:=by rw[iM,D.clen];lia
  have w:=iL P (k+4) (cV st.cells) (s.val st%4).toNat a (by rw[iM,D.clen];lia) (.int (t.val st));have f:(((s.val st%4).toNat:Nat):Int)=s.val st%4:=by lia
  rw[f,ints_set]at w;simp only[Rw.enc,Rw.next,Rw.word,to1];simp[JL,P.ROW,P.CELLS,q,Y,w,rd,lR,Rw.next];simp[St.enc]
 |ask x =>
  have b:=tZ P (k+4) aG st.aG;have w:=i7 P (k+3) st D x (aG.getD st.aG 0);simp only[Rw.enc,Rw.next,Rw.word,to2];simp only[Uh]at b w⊢;simp[JK,P.ROW,P.NAMES,P.ASKED,b,w,rd,lR,Rw.next];simp[St.enc]
 |say s =>
  have q:=gh P (k+1) s (by have:=B.2;lia) B.1 st D;simp only[Rw.enc,Rw.next,Rw.word,to3];have U:(cV st.said).length+1<=100000:=by rw[iM];lia
  simp[JJ,P.ROW,P.SAID,q,rd,lR,Rw.next,U,ints_snoc];simp[St.enc]
 |call q =>
  simp only[Rw.enc,Rw.next,Rw.word,to4];have U:(cW st.calls).length+1<=100000:=by simp[cW];lia
  have V:cW st.calls++[.int ((st.row:Int)+1)]=cW (st.calls++[st.row+1]):=by rw[←zj];simp
  simp[JI,P.ROW,P.CALLS,rd,lR,Rw.next,U,V];simp[St.enc]
 |back =>
  simp only[Rw.enc,Rw.next,Rw.word,to5];have V:=Cu st.calls;have d:uS (.aC (cW st.calls)) af (aa (-1))=aa (.aC (cW st.calls.dropLast)):=by rw[AI,V]
  simp[-AI,JG,P.ROW,P.CALLS,rd,lR,Rw.next,d];simp[St.enc]
 |stop=>simp[Rw.over]at J
 |_ =>
  simp only[Rw.enc,Rw.next,Rw.word];rw[toN _ _ _ _ _ _ _ _ (by decide)];simp[P.ROW,rd,lR,Rw.next];simp[St.enc]
end
def Ask(aG:List Int):Prop:=∀x∈aG,Wth x
def Cy{xs:List Int}{i:Nat}{v:Int}(h:∀x∈xs,Wth x)(D:Wth v):∀x∈xs.set i v,Wth x:=λx B=>by
 rcases US B with q|q
 exact h x q;rw[q];exact D
structure At(n:Nat)(st:St):Prop where
 ok:st.ok
 said:st.said.length<=n
 calls:st.calls.length<=6
def At.small{st:St}(a:At n st)(h:n<=5000):st.small:=⟨by have:=a.said;lia,by have:=a.calls;lia⟩
def rN:At 0 St.zero:=⟨FM,R0 _,by decide⟩
def xm{n:Nat}{p:Pg}{st:St}(L:Pg.ok p)(M:Ask aG)(a:At n st)(J:over p st=ai):At (n+1) (step p aG st):=by
 have c:st.row<p.length:=by
  rcases Sq st.row p.length with q|q
  exact q;rw[over,Si q]at J;cases J
 have e:p[st.row]?=aa p[st.row]:=RY c;have D:=L _ (VT c);have B:(p[st.row]).over st=ai:=by rw[over,e]at J;exact J
 rw[step,e];dsimp only
 revert D B
 generalize p[st.row]=r;intro D B;obtain⟨ok,O,cl⟩:=a;cases r with
 |set x s=>exact⟨⟨by simp[Rw.next,ok.nlen],ok.clen,Cy ok.nw (Sm.oW ok D.1),ok.cw⟩,by simp[Rw.next];lia,cl⟩|put s t=>exact⟨⟨ok.nlen,by simp[Rw.next,ok.clen],ok.nw,Cy ok.cw (Sm.oW ok D.2.1)⟩,by simp[Rw.next];lia,cl⟩|ask x=>exact⟨⟨by simp[Rw.next,ok.nlen],ok.clen,Cy ok.nw (oV M _),ok.cw⟩,by simp[Rw.next];lia,cl⟩|say s=>exact⟨⟨ok.nlen,ok.clen,ok.nw,ok.cw⟩,by simp[Rw.next];lia,cl⟩
 |call q =>
  simp[Rw.over]at B;exact⟨⟨ok.nlen,ok.clen,ok.nw,ok.cw⟩,by simp[Rw.next];lia,by simp[Rw.next];lia⟩
 |back=>exact⟨⟨ok.nlen,ok.clen,ok.nw,ok.cw⟩,by simp[Rw.next];lia,by simp[Rw.next];lia⟩|stop=>simp[Rw.over]at B|_=>exact⟨⟨ok.nlen,ok.clen,ok.nw,ok.cw⟩,by simp[Rw.next];lia,cl⟩
section
end
def gP:Fn:=⟨["_law_script","_law_k"],["_law_script","_law_k"], (.seq (.v (.z .eq (.v 0) (.aB ai .nil)) (.ret (.bin .mul (.j (.int 7)) (.v 1))) .nil) (.ret (.bin .add (.y (.v 0) (.bin .mod (.v 1) (.bi .len ai (Z9 (.v 0))))) (.bin .mul (.j (.int 6553)) (.bin .fdiv (.v 1) (.bi .len ai (Z9 (.v 0))))))))⟩
def g9:Fn:=⟨["_law_script","_law_k","_law_many"],["_law_script","_law_k","_law_many","_law_cell_here"], (.seq (.set 3 (.bin .mod (.bin .add (.bin .mul (.bin .mod (.call "_law_cell" (Z8 (.v 0) (.v 1))) (.j (.int 2147483563))) (.j (.int 69069))) (.bin .mul (.j (.int 104723)) (.bin .add (.v 1) (.j (.int 1))))) (.j (.int 2147483563)))) (.seq (.set 3 (.bin .mod (.bin .add (.bin .mul (.v 3) (.v 3)) (.bin .fdiv (.v 3) (.j (.int 3)))) (.j (.int 2147483399)))) (.ret (.bin .mod (.bin .fdiv (.bin .mod (.bin .add (.bin .mul (.v 3) (.v 3)) (.bin .fdiv (.v 3) (.j (.int 7)))) (.j (.int 2147483647))) (.j (.int 11))) (.v 2)))))⟩
def smL:S:=(.seq (.v (.z .eq (.call "_law_drawn" (Z7 (.v 0) (.bin .add (.v 1) (.j (.int 1))) (.j (.int 2)))) (.j (.int 0))) (.ret (.aC (Z8 (.j (.str "num")) (.y (.aB ai (Z4 (.j (.int 0)) (.j (.int 1)) (.j (.int 2)) (.j (.int 3)) (.j (.int 10)) (.j (.int 10006)))) (.call "_law_drawn" (Z7 (.v 0) (.bin .add (.v 1) (.j (.int 2))) (.j (.int 6)))))))) .nil) (.ret (.aC (Z8 (.j (.str "name")) (.y (.j (.str "abcf")) (.call "_law_drawn" (Z7 (.v 0) (.bin .add (.v 1) (.j (.int 2))) (.j (.int 4)))))))))
def smR:S:=(.seq (.set 4 (.call "_law_sum" (Z7 (.v 0) (.bin .add (.bin .mul (.v 1) (.j (.int 2))) (.j (.int 5))) (.bin .sub (.v 2) (.j (.int 1)))))) (.seq (.v (.z .lt (.v 3) (.j (.int 6))) (.ret (.aC (Z8 (.j (.str "cell")) (.v 4)))) .nil) (.ret (.aC (Z7 (.y (.aB ai (Z6 (.j (.str "add")) (.j (.str "sub")) (.j (.str "mul")) (.j (.str "less")))) (.bin .sub (.v 3) (.j (.int 6)))) (.v 4) (.call "_law_sum" (Z7 (.v 0) (.bin .add (.bin .mul (.v 1) (.j (.int 2))) (.j (.int 19))) (.bin .sub (.v 2) (.j (.int 1))))))))))
def fR:Fn:=⟨["_law_script","_law_at","_law_deep"],["_law_script","_law_at","_law_deep","_law_way","_law_one"], (.seq (.set 3 (.call "_law_drawn" (Z7 (.v 0) (.v 1) (.j (.int 10))))) (.seq (.v (.or (.z .eq (.v 2) (.j (.int 0))) (.z .lt (.v 3) (.j (.int 4)))) smL .nil) smR))⟩
def jy:Fn:=⟨["_law_script","_law_at","_law_size"],["_law_script","_law_at","_law_size","_law_way","_law_place","_law_name","_law_one"], (.seq (.set 3 (.call "_law_drawn" (Z7 (.v 0) (.v 1) (.j (.int 16))))) (.seq (.set 4 (.call "_law_drawn" (Z7 (.v 0) (.bin .add (.v 1) (.j (.int 1))) (.bin .add (.v 2) (.j (.int 1)))))) (.seq (.set 5 (.y (.j (.str "abc")) (.call "_law_drawn" (Z7 (.v 0) (.bin .add (.v 1) (.j (.int 2))) (.j (.int 3)))))) (.seq (.set 6 (.call "_law_sum" (Z7 (.v 0) (.bin .add (.v 1) (.j (.int 3))) (.j (.int 2))))) (.seq (.v (.z .lt (.v 3) (.j (.int 5))) (.ret (.aC (Z7 (.j (.str "set")) (.v 5) (.v 6)))) .nil) (.seq (.v (.z .lt (.v 3) (.j (.int 7))) (.ret (.aC (Z7 (.j (.str "put")) (.call "_law_sum" (Z7 (.v 0) (.bin .add (.v 1) (.j (.int 9))) (.j (.int 1)))) (.v 6)))) .nil) (.seq (.v (.z .lt (.v 3) (.j (.int 9))) (.ret (.y (.aB ai (Z8 (.aC (Z8 (.j (.str "ask")) (.v 5))) (.aC (Z8 (.j (.str "say")) (.v 6))))) (.bin .sub (.v 3) (.j (.int 7))))) .nil) (.seq (.v (.z .lt (.v 3) (.j (.int 12))) (.ret (.y (.aB ai (Z7 (.aC (Z8 (.j (.str "jump")) (.v 4))) (.aC (Z7 (.j (.str "unless")) (.v 6) (.v 4))) (.aC (Z7 (.j (.str "unless")) (.aC (Z8 (.j (.str "name")) (.v 5))) (.v 4))))) (.bin .sub (.v 3) (.j (.int 9))))) .nil) (.ret (.y (.aB ai (Z6 (.aC (Z8 (.j (.str "call")) (.v 4))) (.aC (Z8 (.j (.str "call")) (.v 4))) (.aC (Z9 (.j (.str "back")))) (.y (.aB ai (Z8 (.aC (Z9 (.j (.str "stop")))) (.aC (Z9 (.j (.str "back")))))) (.bin .mod (.v 4) (.j (.int 2)))))) (.bin .sub (.v 3) (.j (.int 12)))))))))))))⟩
def fk:Fn:=⟨["_law_script","_law_at"],["_law_script","_law_at","_law_size","_law_put","_law_sign","_law_rows"], (.seq (.set 2 (.bin .add (.j (.int 1)) (.call "_law_drawn" (Z7 (.v 0) (.v 1) (.j (.int 9)))))) (.seq (.v (.z .eq (.call "_law_drawn" (Z7 (.v 0) (.bin .add (.v 1) (.j (.int 1))) (.j (.int 4)))) (.j (.int 0))) (.seq (.set 3 (.aC (Z7 (.j (.str "put")) (.aC (Z8 (.j (.str "name")) (.j (.str "a")))) (.aC (Z8 (.j (.str "num")) (.call "_law_drawn" (Z7 (.v 0) (.bin .add (.v 1) (.j (.int 2))) (.j (.int 9))))))))) (.seq (.set 4 (.y (.aB ai (Z8 (.j (.str "add")) (.j (.str "sub")))) (.call "_law_drawn" (Z7 (.v 0) (.bin .add (.v 1) (.j (.int 3))) (.j (.int 2)))))) (.seq (.set 5 (.aC (Z5 (.aC (Z8 (.j (.str "ask")) (.j (.str "a")))) (.aC (Z8 (.j (.str "call")) (.j (.int 4)))) (.aC (Z8 (.j (.str "say")) (.aC (Z8 (.j (.str "name")) (.j (.str "a")))))) (.aC (Z8 (.j (.str "jump")) (.j (.int 0)))) (.v 3)))) (.ret (.bin .add (.v 5) (.aC (Z6 (.aC (Z8 (.j (.str "call")) (.j (.int 7)))) (.aC (Z9 (.j (.str "back")))) (.aC (Z7 (.j (.str "set")) (.j (.str "b")) (.aC (Z7 (.v 4) (.aC (Z8 (.j (.str "name")) (.j (.str "b")))) (.aC (Z8 (.j (.str "name")) (.j (.str "a")))))))) (.aC (Z9 (.j (.str "back"))))))))))) .nil) (.ret (.bi .tuple ai (Z9 (.comp ai .rng1 (Z9 (.v 2)) ["_law_k"] [(0,"_law_script"),(1,"_law_at"),(2,"_law_size")] .nil (.call "_law_row" (Z7 (.v 1) (.bin .add (.bin .add (.v 2) (.j (.int 10))) (.bin .mul (.j (.int 40)) (.v 0))) (.v 3)))))))))⟩
def ig:Fn:=⟨["_law_script","_law_at"],["_law_script","_law_at"], (.ret (.comp ai .rng1 (Z9 (.call "_law_drawn" (Z7 (.v 0) (.v 1) (.j (.int 4))))) ["_law_k"] [(0,"_law_script"),(1,"_law_at")] .nil (.y (.aB ai (Z6 (.j (.int 0)) (.j (.int 1)) (.j (.int 5)) (.j (.int 10006)))) (.call "_law_drawn" (Z7 (.v 1) (.bin .add (.bin .add (.v 2) (.j (.int 1))) (.v 0)) (.j (.int 4)))))))⟩
structure Lw(T:FK->Option Fn):Prop where
 cell:T "_law_cell"=aa gP
 drawn:T "_law_drawn"=aa g9
 sum:T "_law_sum"=aa fR
 row:T "_law_row"=aa jy
 aG:T "_law_asked"=aa ig
noncomputable def xo(ns:List Int)(k:Int):Int:=if ns=[]then 7*k else ns.getD (k%ns.length).toNat 0+6553*(k/ns.length)
def drw(ns:List Int)(k many:Int):Int :=
 let a:=(xo ns k%2147483563*69069+104723*(k+1))%2147483563
 let b:=(a*a+a/3)%2147483399
 (b*b+b/7)%2147483647/11%many
def fS(ns:List Int)(k:Int)(h:0<many):0<=drw ns k many:=Int.emod_nonneg _ (by lia)
def fT(ns:List Int)(k:Int)(h:0<many):drw ns k many<many:=Int.emod_lt_of_pos _ h
def qC(q:0<=i)(h1:i<18446744073709551616):big i=ah:=by unfold big;exact bO (by lia)
section
def FQ(ns:List Int):eqv (.aB (cV ns)) (.aB [])=decide (ns=[]):=by cases ns<;>simp[cV]
def Cz(L:Lw T)(m:Nat)(ns:List Int)(W:ns.length<=1000)(k:Int)(h:HH):runN T G (m+1) "_law_cell" [.p (.aB (cV ns)),.p (.int k)] h=aa (.p (.int (xo ns k)),h):=by
 rw[run_eq L.cell rfl]
 by_cases c:ns=[]
 ·subst c;simp[gP,cV,xo,big,cX]
 ·have M:0<ns.length:=List.length_pos_iff.mpr c;have q:eqv (.aB (cV ns)) (.aB [])=ai:=by rw[FQ];exact bN c
  have B:(0:Int)<(ns.length:Int):=by lia
  have D:(ns.length:Int)<1073741824:=by lia
  have U:=Int.emod_nonneg k (b:=(ns.length:Int)) (by lia);have O:=Int.emod_lt_of_pos k B;have V:(k%(ns.length:Int)).toNat<ns.length:=by lia
  have J:ns.length<1073741824:=by lia
  simp[gP,-eqv,q,iM,B,D,M,J,U,O,big,cX,xo,c];simp[cV,V,cX,M,J,U,O,big,B,D]
def fV(L:Lw T)(m:Nat)(ns:List Int)(B:ns.length<=1000)(k many:Int)(q:0<many)(h:HH):
 runN T G (m+2) "_law_drawn" [.p (.aB (cV ns)),.p (.int k),.p (.int many)] h=aa (.p (.int (drw ns k many)),h):=by
 rw[run_eq L.drawn rfl];have r:=Cz (G:=G) L m ns B k;have O:big 69069=ah:=by decide
 have M:big 104723=ah:=by decide
 have J:∀x:Int,big (x%2147483563)=ah:=λx=>qC (by lia) (by lia);have D:∀x:Int,big (x%2147483399)=ah:=λx=>qC (by lia) (by lia);simp[g9,r,O,M,J,D,cX,q,drw]
def rO:Sn "abcf"=⟨#[97,98,99,102]⟩:=by decide +kernel
def CA:Sn "abc"=⟨#[97,98,99]⟩:=by decide +kernel
def o_a:Sn "a"=⟨#[97]⟩:=by decide +kernel
def o_b:Sn "b"=⟨#[98]⟩:=by decide +kernel
def o_c:Sn "c"=⟨#[99]⟩:=by decide +kernel
def o_f:Sn "f"=⟨#[102]⟩:=by decide +kernel
def xq(i:Int)(q:0<=i)(h1:i<4):∃x:Nm,dI (.str "abcf") (.int i)=aa (.str x.w):=by
 have:i=0\/i=1\/i=2\/i=3:=by lia
 rcases this with rfl|rfl|rfl|rfl
 exact⟨.a,by rw[Nm.w,rO,o_a];rfl⟩;exact⟨.b,by rw[Nm.w,rO,o_b];rfl⟩;exact⟨.c,by rw[Nm.w,rO,o_c];rfl⟩;exact⟨.f,by rw[Nm.w,rO,o_f];rfl⟩
def JP(i:Int)(q:0<=i)(h1:i<3):∃x:Nm,dI (.str "abc") (.int i)=aa (.str x.w):=by
 have:i=0\/i=1\/i=2:=by lia
 rcases this with rfl|rfl|rfl
 exact⟨.a,by rw[Nm.w,CA,o_a];rfl⟩;exact⟨.b,by rw[Nm.w,CA,o_b];rfl⟩;exact⟨.c,by rw[Nm.w,CA,o_c];rfl⟩
def xr(i:Int)(q:0<=i)(h1:i<6):∃n:Int,Wth n/\dI (.aB [.int 0,.int 1,.int 2,.int 3,.int 10,.int 10006]) (.int i)=aa (.int n):=by
 have:i=0\/i=1\/i=2\/i=3\/i=4\/i=5:=by lia
 rcases this with rfl|rfl|rfl|rfl|rfl|rfl
 exact⟨0,⟨by decide,by decide⟩,rfl⟩;exact⟨1,⟨by decide,by decide⟩,rfl⟩;exact⟨2,⟨by decide,by decide⟩,rfl⟩;exact⟨3,⟨by decide,by decide⟩,rfl⟩;exact⟨10,⟨by decide,by decide⟩,rfl⟩;exact⟨10006,⟨by decide,by decide⟩,rfl⟩
def JQ(i:Int)(q:0<=i)(h1:i<4):∃o:Op,dI (.aB [.str "add",.str "sub",.str "mul",.str "less"]) (.int i)=aa (.str o.w):=by
 have:i=0\/i=1\/i=2\/i=3:=by lia
 rcases this with rfl|rfl|rfl|rfl
 exact⟨.add,rfl⟩;exact⟨.sub,rfl⟩;exact⟨.mul,rfl⟩;exact⟨.less,rfl⟩
def CB(L:Lw T)(ns:List Int)(J:ns.length<=1000)(p n:Int)(k:Nat)(rest:Sl)(h:HH)(c:drw ns (p+1) 2=0)(en:dI (.aB [.int 0,.int 1,.int 2,.int 3,.int 10,.int 10006]) (.int (drw ns (p+2) 6))=aa (.int n)):
 evS (runN T G (k+2)) G smL (aa (.p (.aB (cV ns)))::aa (.p (.int p))::rest) h=aa (.rt (.p (Sm.num n).enc) h):=by
 have M:=λq B (D:0<B)=>fV (G:=G) L k ns J q B D;simp[-dJ,-jL,smL,M,c,en,Sm.enc]
def CD(L:Lw T)(ns:List Int)(J:ns.length<=1000)(p:Int)(x:Nm)(k:Nat)(rest:Sl)(h:HH)(c:¬drw ns (p+1) 2=0)(ex:dI (.str "abcf") (.int (drw ns (p+2) 4))=aa (.str x.w)):
 evS (runN T G (k+2)) G smL (aa (.p (.aB (cV ns)))::aa (.p (.int p))::rest) h=aa (.rt (.p (Sm.nam x).enc) h):=by
 have M:=λq B (D:0<B)=>fV (G:=G) L k ns J q B D;simp[-dJ,-jL,smL,M,c,ex,Sm.enc]
def xu(L:Lw T)(ns:List Int)(J:ns.length<=1000):∀(B:Nat)(p:Int),∃s:Sm,s.ok/\s.size+1<=2^(B+1)/\∀(m:Nat)(h:HH),
 runN T G (m+B+3) "_law_sum" [.p (.aB (cV ns)),.p (.int p),.p (.int B)] h=aa (.p s.enc,h):=by
 intro B
 induction B with
 |zero =>
  intro p;have M:=λm q many (V:0<many)=>fV (G:=G) L m ns J q many V;obtain⟨x,ex⟩:=xq (drw ns (p+2) 4) (fS _ _ (by decide)) (fT _ _ (by decide));obtain⟨n,hn,en⟩:=xr (drw ns (p+2) 6) (fS _ _ (by decide)) (fT _ _ (by decide));have D:∀(s:Sm)(m:Nat)(h:HH),(∀rest,evS (runN T G (m+2)) G smL (aa (.p (.aB (cV ns)))::aa (.p (.int p))::rest) h=aa (.rt (.p s.enc) h))->runN T G (m+0+3) "_law_sum" [.p (.aB (cV ns)),.p (.int p),.p (.int ((0:Nat):Int))] h=aa (.p s.enc,h):=λs m h q=>by rw[run_eq L.sum rfl];simp[fR,M,q,cX]
  by_cases c:drw ns (p+1) 2=0
  exact⟨.num n,hn,by simp[Sm.size],λm h=>D _ m h λrest=>CB L ns J p n m rest h c en⟩;exact⟨.nam x,trivial,by simp[Sm.size],λm h=>D _ m h λrest=>CD L ns J p x m rest h c ex⟩
 |succ B b =>
  intro p;have M:=λm q many (V:0<many)=>fV (G:=G) L m ns J q many V;obtain⟨x,ex⟩:=xq (drw ns (p+2) 4) (fS _ _ (by decide)) (fT _ _ (by decide));obtain⟨n,hn,en⟩:=xr (drw ns (p+2) 6) (fS _ _ (by decide)) (fT _ _ (by decide));obtain⟨s,a,v,U⟩:=b (p*2+5);obtain⟨t,i,u,O⟩:=b (p*2+19);have d:∀m,m+(B+1)+2=m+B+3:=λm=>by lia
  have Z:=λm h=>(d m).symm ▸ U m h;have tr:=λm h=>(d m).symm ▸ O m h;have W:¬((B:Int)+1=0):=by lia
  have e:((B:Int)+1-1)=B:=by lia
  have g:big 2=ah:=by decide
  have r:=fS ns p (many:=10) (by decide);have l:=fT ns p (many:=10) (by decide);have w:2^(B+1+1)=2^(B+1)+2^(B+1):=by lia
  by_cases Y:drw ns p 10<4
  ·have D:∀(s:Sm)(m:Nat)(h:HH),(∀rest,evS (runN T G (m+B+1+2)) G smL (aa (.p (.aB (cV ns)))::aa (.p (.int p))::rest) h=aa (.rt (.p s.enc) h))->runN T G (m+(B+1)+3) "_law_sum" [.p (.aB (cV ns)),.p (.int p),.p (.int ((B+1:Nat):Int))] h=aa (.p s.enc,h):=λs m h q=>by rw[run_eq L.sum rfl];have k:=M (m+(B+1));have q:∀rest,evS (runN T G (m+(B+1)+2)) G smL (aa (.p (.aB (cV ns)))::aa (.p (.int p))::rest) h=aa (.rt (.p s.enc) h):=q;simp[fR,k,Y,W,q,cX]
   by_cases c:drw ns (p+1) 2=0
   exact⟨.num n,hn,by simp only[Sm.size];lia,λm h=>D _ m h λrest=>CB L ns J p n (m+B+1) rest h c en⟩;exact⟨.nam x,trivial,by simp only[Sm.size];lia,λm h=>D _ m h λrest=>CD L ns J p x (m+B+1) rest h c ex⟩
  ·by_cases f:drw ns p 10<6
   ·refine⟨.cell s,a,by simp only[Sm.size];lia,λm h=>?_⟩;rw[run_eq L.sum rfl];simp[-dJ,-jL,fR,smR,M,Y,f,W,e,g,Z,cX,Sm.enc]
   ·obtain⟨o,j⟩:=JQ (drw ns p 10-6) (by lia) (by lia);refine⟨.two o s t,⟨a,i⟩,by simp only[Sm.size];lia,λm h=>?_⟩;rw[run_eq L.sum rfl];simp[-dJ,-jL,fR,smR,M,Y,f,W,e,g,Z,tr,j,cX,Sm.enc]
end
def GV:S:=(.ret (.y (.aB ai (Z6 (.aC (Z8 (.j (.str "call")) (.v 4))) (.aC (Z8 (.j (.str "call")) (.v 4))) (.aC (Z9 (.j (.str "back")))) (.y (.aB ai (Z8 (.aC (Z9 (.j (.str "stop")))) (.aC (Z9 (.j (.str "back")))))) (.bin .mod (.v 4) (.j (.int 2)))))) (.bin .sub (.v 3) (.j (.int 12)))))
def rA3:S:=(.ret (.y (.aB ai (Z7 (.aC (Z8 (.j (.str "jump")) (.v 4))) (.aC (Z7 (.j (.str "unless")) (.v 6) (.v 4))) (.aC (Z7 (.j (.str "unless")) (.aC (Z8 (.j (.str "name")) (.v 5))) (.v 4))))) (.bin .sub (.v 3) (.j (.int 9)))))
def CF:S:=(.seq (.v (.z .lt (.v 3) (.j (.int 12))) rA3 .nil) GV)
def rA2:S:=(.ret (.y (.aB ai (Z8 (.aC (Z8 (.j (.str "ask")) (.v 5))) (.aC (Z8 (.j (.str "say")) (.v 6))))) (.bin .sub (.v 3) (.j (.int 7)))))
def xw:S:=(.seq (.v (.z .lt (.v 3) (.j (.int 9))) rA2 .nil) CF)
def rA1:S:=(.ret (.aC (Z7 (.j (.str "put")) (.call "_law_sum" (Z7 (.v 0) (.bin .add (.v 1) (.j (.int 9))) (.j (.int 1)))) (.v 6))))
def uf:S:=(.seq (.v (.z .lt (.v 3) (.j (.int 7))) rA1 .nil) xw)
def rA0:S:=(.ret (.aC (Z7 (.j (.str "set")) (.v 5) (.v 6))))
def vz:S:=(.seq (.v (.z .lt (.v 3) (.j (.int 5))) rA0 .nil) uf)
theorem pY:jy=⟨["_law_script","_law_at","_law_size"],["_law_script","_law_at","_law_size","_law_way","_law_place","_law_name","_law_one"],
 (.seq (.set 3 (.call "_law_drawn" (.cons (.v 0) (.cons (.v 1) (.cons (.j (.int 16)) .nil)))))
 (.seq (.set 4 (.call "_law_drawn" (.cons (.v 0) (.cons (.bin .add (.v 1) (.j (.int 1))) (.cons (.bin .add (.v 2) (.j (.int 1))) .nil)))))
 (.seq (.set 5 (.y (.j (.str "abc")) (.call "_law_drawn" (.cons (.v 0) (.cons (.bin .add (.v 1) (.j (.int 2))) (.cons (.j (.int 3)) .nil))))))
 (.seq (.set 6 (.call "_law_sum" (.cons (.v 0) (.cons (.bin .add (.v 1) (.j (.int 3))) (.cons (.j (.int 2)) .nil)))))
 vz))))⟩:=rfl
section
def FU(L:Lw T)(ns:List Int)(Y:ns.length<=1000)(p:Int)(size:Nat):∃r:Rw,r.ok size/\∀(m:Nat)(h:HH),
 runN T G (m+6) "_law_row" [.p (.aB (cV ns)),.p (.int p),.p (.int size)] h=aa (.p r.enc,h):=by
 have a:=λm q many (i:0<many)=>fV (G:=G) L m ns Y q many i;obtain⟨x,ex⟩:=JP (drw ns (p+2) 3) (fS _ _ (by decide)) (fT _ _ (by decide));obtain⟨s,g,n,f⟩:=xu (G:=G) L ns Y 2 (p+3);obtain⟨t,e,l,tr⟩:=xu (G:=G) L ns Y 1 (p+9);have k:=fS ns p (many:=16) (by decide);have j:=fT ns p (many:=16) (by decide);have sz:(0:Int)<(size:Int)+1:=by lia
 have v:=fS ns (p+1) sz;have o:=fT ns (p+1) sz;obtain⟨B,hpl⟩:∃B:Nat,drw ns (p+1) ((size:Int)+1)=(B:Int):=⟨(drw ns (p+1) ((size:Int)+1)).toNat,by lia⟩;have J:B<=size:=by lia
 have M:rL s:=⟨g,by lia⟩;have tok:rL t:=⟨e,by lia⟩;have U:=λm h=>f (m+0) h;have O:=λm h=>tr (m+1) h;simp at U O;have b:=λm h=>a m (p+1) ((size:Int)+1) sz h;rw[hpl]at b;have D:∀(m:Nat)(h:HH),runN T G (m+6) "_law_row" [.p (.aB (cV ns)),.p (.int p),.p (.int size)] h =
  kI (evS (runN T G (m+5)) G vz [aa (.p (.aB (cV ns))),aa (.p (.int p)),aa (.p (.int size)),aa (.p (.int (drw ns p 16))),aa (.p (.int (B:Int))),aa (.p (.str x.w)),aa (.p s.enc)] h) (fin h):=λm h=>by
  rw[run_eq L.row rfl,pY];simp[-jL,b,a,ex,U]
 by_cases V:drw ns p 16<5
 ·refine⟨.set x s,M,λm h=>?_⟩;rw[D];simp[-dJ,-jL,vz,rA0,V,cX,Rw.enc]
 ·by_cases W:drw ns p 16<7
  ·refine⟨.put t s,⟨tok,M⟩,λm h=>?_⟩;rw[D];simp[-dJ,-jL,vz,uf,rA1,O,V,W,cX,Rw.enc]
  ·by_cases Z:drw ns p 16<9
   ·obtain⟨r,ro,ix⟩:∃r:Rw,r.ok size/\dI (.aB [.aC [.str "ask",.str x.w],.aC [.str "say",s.enc]]) (.int (drw ns p 16-7))=aa r.enc:=by
     have c:drw ns p 16=7\/drw ns p 16=8:=by lia
     rcases c with c|c<;>rw[c]
     exact⟨.ask x,trivial,rfl⟩;exact⟨.say s,M,rfl⟩
    refine⟨r,ro,λm h=>?_⟩;rw[D];simp[-dJ,vz,uf,xw,rA2,V,W,Z,ix,cX]
   ·by_cases d:drw ns p 16<12
    ·obtain⟨r,ro,ix⟩:∃r:Rw,r.ok size/\dI (.aB [.aC [.str "jump",.int B],.aC [.str "unless",s.enc,.int B],.aC [.str "unless",.aC [.str "name",.str x.w],.int B]]) (.int (drw ns p 16-9))=aa r.enc:=by
      have c:drw ns p 16=9\/drw ns p 16=10\/drw ns p 16=11:=by lia
      rcases c with c|c|c<;>rw[c]
      exact⟨.jump B,J,rfl⟩;exact⟨.unless s B,⟨M,J⟩,rfl⟩;exact⟨.unless (.nam x) B,⟨⟨trivial,by simp[Sm.size]⟩,J⟩,rfl⟩
     refine⟨r,ro,λm h=>?_⟩;rw[D];simp[-dJ,vz,uf,xw,CF,rA3,V,W,Z,d,ix,cX]
    ·obtain⟨u,uo,iu⟩:∃u:Rw,u.ok size/\dI (.aB [.aC [.str "stop"],.aC [.str "back"]]) (.int ((B:Int)%2))=aa u.enc:=by
      have z:(B:Int)%2=0\/(B:Int)%2=1:=by lia
      rcases z with z|z<;>rw[z]
      exact⟨.stop,trivial,rfl⟩;exact⟨.back,trivial,rfl⟩
     obtain⟨r,ro,ix⟩:∃r:Rw,r.ok size/\dI (.aB [.aC [.str "call",.int B],.aC [.str "call",.int B],.aC [.str "back"],u.enc]) (.int (drw ns p 16-12))=aa r.enc:=by
      have c:drw ns p 16=12\/drw ns p 16=13\/drw ns p 16=14\/drw ns p 16=15:=by lia
      rcases c with c|c|c|c<;>rw[c]
      exact⟨.call B,J,rfl⟩;exact⟨.call B,J,rfl⟩;exact⟨.back,trivial,rfl⟩;exact⟨u,uo,rfl⟩
     refine⟨r,ro,λm h=>?_⟩;rw[D];simp[-dJ,vz,uf,xw,CF,GV,V,W,Z,d,iu,ix,cX]
def comp_map(f:List D->HH->Option (Option D×HH))(g:D->D):∀(ds:List D)(h:HH),(∀d∈ds,∀h,f [d] h=aa (aa (g d),h))->d7 f 1 ds h=aa (ds.map g,h):=by
 intro ds
 induction ds with
 |nil=>intro h _;rfl
 |cons d r B =>
  intro h q;have e1:=q d Sj h;have e2:=B h λx J=>q x (Sb _ J);rw[d7,lE];simp[e1,e2]
def ug(h:d∈upto 0 n):∃k:Nat,k<n/\d=.int k:=by simp[upto]at h;obtain⟨k,q,e⟩:=h;exact⟨k,q,e.symm⟩
def uh(n:Nat)(g:D->D):(upto 0 n).map g=(Sk n).map λ(k:Nat)=>g (.int k):=by simp[upto,Function.comp_def]
def FW:E:=.y (.aB ai (Z6 (.j (.int 0)) (.j (.int 1)) (.j (.int 5)) (.j (.int 10006)))) (.call "_law_drawn" (Z7 (.v 1) (.bin .add (.bin .add (.v 2) (.j (.int 1))) (.v 0)) (.j (.int 4))))
theorem mY:ig=⟨["_law_script","_law_at"],["_law_script","_law_at"],.ret (.comp ai .rng1 (.cons (.call "_law_drawn" (.cons (.v 0) (.cons (.v 1) (.cons (.j (.int 4)) .nil)))) .nil) ["_law_k"] [(0,"_law_script"),(1,"_law_at")] .nil FW)⟩:=rfl
def zl(L:Lw T)(ns:List Int)(Z:ns.length<=1000)(p:Int):∃aG:List Int,Ask aG/\aG.length<=3/\∀(m:Nat)(h:HH),
 runN T G (m+3) "_law_asked" [.p (.aB (cV ns)),.p (.int p)] h=aa (.p (.aB (cV aG)),h):=by
 have V:=λm q many (Y:0<many)=>fV (G:=G) L m ns Z q many Y;have M:∀i:Int,0<=i->i<4->∃n:Int,Wth n/\dI (.aB [.int 0,.int 1,.int 5,.int 10006]) (.int i)=aa (.int n):=by
  intro i t s;have:i=0\/i=1\/i=2\/i=3:=by lia
  rcases this with rfl|rfl|rfl|rfl
  exact⟨0,⟨by decide,by decide⟩,rfl⟩;exact⟨1,⟨by decide,by decide⟩,rfl⟩;exact⟨5,⟨by decide,by decide⟩,rfl⟩;exact⟨10006,⟨by decide,by decide⟩,rfl⟩
 have c:∀k:Nat,∃n:Int,Wth n/\dI (.aB [.int 0,.int 1,.int 5,.int 10006]) (.int (drw ns (p+1+k) 4))=aa (.int n):=λk =>
  M _ (fS _ _ (by decide)) (fT _ _ (by decide))
 obtain⟨g,U⟩:=W8 c;have o:=fS ns p (many:=4) (by decide);have l:=fT ns p (many:=4) (by decide);refine⟨(Sk (drw ns p 4).toNat).map g,?_,by simp;lia,λm h=>?_⟩
 ·intro x O;simp at O;obtain⟨k,_,rfl⟩:=O;exact(U k).1
 ·rw[run_eq L.aG rfl,mY];have f:drw ns p 4<=100000:=by lia
  have j:-100000<=drw ns p 4:=by lia
  have a:∀(k:Nat)(h:HH),ev (runN T G (m+2)) G FW [aa (.p (.int k)),aa (.p (.aB (cV ns))),aa (.p (.int p))] h=aa (.p (.int (g k)),h):=λk h=>by have e:=(U k).2;simp[-dJ,FW,V,e]
  have J:=comp_map (fz (λ_ h=>aa ([],h)) (ev (runN T G (m+2)) G FW) [aa (.p (.aB (cV ns))),aa (.p (.int p))]) (λd=>match d with | .int k=>.int (g k.toNat)|_=>.aD) (upto 0 (drw ns p 4).toNat) h (by
   intro d b h;obtain ⟨k,r,rfl⟩:=ug b;simp[fc,a])
  have W:(drw ns p 4).toNat<=100000:=by lia
  rw[uh]at J;have B:(Sk (drw ns p 4).toNat).map (λ(k:Nat)=>match D.int (k:Int)with|.int k=>D.int (g k.toNat)|_=>.aD)=cV ((Sk (drw ns p 4).toNat).map g):=by simp[cV,Function.comp_def]
  rw[B]at J;simp[V,j,f,J,iM,W,cX,jM]
def CG:E:=.call "_law_row" (Z7 (.v 1) (.bin .add (.bin .add (.v 2) (.j (.int 10))) (.bin .mul (.j (.int 40)) (.v 0))) (.v 3))
structure Drawn(p:Pg):Prop where
 ok:Pg.ok p
 lo:1<=p.length
 hi:p.length<=9
def jY(n:Int)(o:Op):Pg:=[.ask .a,.call 4,.say (.nam .a),.jump 0,.put (.nam .a) (.num n),.call 7,.back,.set .b (.two o (.nam .b) (.nam .a)),.back]
def rP(n:Int)(o:Op)(h:Wth n):Drawn (jY n o):=by refine⟨?_,by simp[jY],by simp[jY]⟩;intro r q;simp only[jY,XR,VR,or_false]at q;rcases q with rfl|rfl|rfl|rfl|rfl|rfl|rfl|rfl|rfl<;>simp[Rw.ok,jY,rL,Sm.ok,Sm.size,h]
def o7(L:Lw T)
(ns:List Int)(M:ns.length<=1000)(p:Int)
(D:∀ (m:Nat) (h:HH) (n:Int) (o:Op),drw ns (p+1) 4=0->n=drw ns (p+2) 9->dI (.aB [.str "add",.str "sub"]) (.int (drw ns (p+3) 2))=aa (.str o.w) →
  (∀m q many,0<many->∀h,runN T G (m+2) "_law_drawn" [.p (.aB (cV ns)),.p (.int q),.p (.int many)] h=aa (.p (.int (drw ns q many)),h)) →
  runN T G (m+7) "_law_program" [.p (.aB (cV ns)),.p (.int p)] h=aa (.p (dQ (jY n o)),h))
(B:∀ (m:Nat) (h:HH) (pg:Pg),drw ns (p+1) 4≠0->pg.length=(1+drw ns p 9).toNat →
  (∀m q many,0<many->∀h,runN T G (m+2) "_law_drawn" [.p (.aB (cV ns)),.p (.int q),.p (.int many)] h=aa (.p (.int (drw ns q many)),h)) →
  (∀h,d7 (fz (λ_ h=>aa ([],h)) (ev (runN T G (m+6)) G CG) [aa (.p (.aB (cV ns))),aa (.p (.int p)),aa (.p (.int (1+drw ns p 9)))]) 1 (upto 0 (1+drw ns p 9).toNat) h=aa (pg.map Rw.enc,h)) →
  runN T G (m+7) "_law_program" [.p (.aB (cV ns)),.p (.int p)] h=aa (.p (dQ pg),h)):
 ∃pg:Pg,Drawn pg/\∀(m:Nat)(h:HH),runN T G (m+7) "_law_program" [.p (.aB (cV ns)),.p (.int p)] h=aa (.p (dQ pg),h):=by
 have U:=λm q many (W:0<many)=>fV (G:=G) L m ns M q many W
 by_cases c:drw ns (p+1) 4=0
 ·have i:=fS ns (p+3) (many:=2) (by decide);have f:=fT ns (p+3) (many:=2) (by decide);have s:=fS ns (p+2) (many:=9) (by decide);have e1:=fT ns (p+2) (many:=9) (by decide);have z:drw ns (p+3) 2=0\/drw ns (p+3) 2=1:=by lia
  have:∃o:Op,dI (.aB [.str "add",.str "sub"]) (.int (drw ns (p+3) 2))=aa (.str o.w):=by
   rcases z with z|z<;>rw[z]
   exact⟨.add,rfl⟩;exact⟨.sub,rfl⟩
  obtain⟨o,a⟩:=this;exact⟨jY (drw ns (p+2) 9) o,rP _ _ ⟨by lia,by lia⟩,λm h=>D m h _ o c rfl a U⟩
 ·have i:=fS ns p (many:=9) (by decide);have f:=fT ns p (many:=9) (by decide);obtain⟨sz,hsz⟩:∃sz:Nat,1+drw ns p 9=(sz:Int):=⟨(1+drw ns p 9).toNat,by lia⟩;have j:∀k:Nat,∃r:Rw,r.ok sz/\∀(m:Nat)(h:HH),runN T G (m+6) "_law_row" [.p (.aB (cV ns)),.p (.int (p+10+40*(k:Int))),.p (.int sz)] h=aa (.p r.enc,h) :=
   λk=>FU L ns M _ sz
  obtain⟨g,O⟩:=W8 j;refine⟨(Sk sz).map g,⟨?_,by simp;lia,by simp;lia⟩,λm h=>B m h _ c (by simp;lia) U λh=>?_⟩
  ·intro r J;simp at J;obtain⟨k,_,rfl⟩:=J;simpa using (O k).1
  ·rw[hsz];have b:big 40=ah:=by decide
   have Y:∀(k:Nat)(h:HH),ev (runN T G (m+6)) G CG [aa (.p (.int k)),aa (.p (.aB (cV ns))),aa (.p (.int p)),aa (.p (.int sz))] h=aa (.p (g k).enc,h):=λk h=>by have e:=(O k).2;simp[CG,e,b]
   have V:=comp_map (fz (λ_ h=>aa ([],h)) (ev (runN T G (m+6)) G CG) [aa (.p (.aB (cV ns))),aa (.p (.int p)),aa (.p (.int sz))]) (λd=>match d with | .int k=>(g k.toNat).enc|_=>.aD) (upto 0 sz) h (by
    intro d Z h;obtain ⟨k,l,rfl⟩:=ug Z;simp[fc,Y])
   rw[uh]at V;simp only[TQ,UG];rw[V];rfl
end
section
def prA:S:=(.seq (.set 3 (.aC (Z7 (.j (.str "put")) (.aC (Z8 (.j (.str "name")) (.j (.str "a")))) (.aC (Z8 (.j (.str "num")) (.call "_law_drawn" (Z7 (.v 0) (.bin .add (.v 1) (.j (.int 2))) (.j (.int 9))))))))) (.seq (.set 4 (.y (.aB ai (Z8 (.j (.str "add")) (.j (.str "sub")))) (.call "_law_drawn" (Z7 (.v 0) (.bin .add (.v 1) (.j (.int 3))) (.j (.int 2)))))) (.seq (.set 5 (.aC (Z5 (.aC (Z8 (.j (.str "ask")) (.j (.str "a")))) (.aC (Z8 (.j (.str "call")) (.j (.int 4)))) (.aC (Z8 (.j (.str "say")) (.aC (Z8 (.j (.str "name")) (.j (.str "a")))))) (.aC (Z8 (.j (.str "jump")) (.j (.int 0)))) (.v 3)))) (.ret (.bin .add (.v 5) (.aC (Z6 (.aC (Z8 (.j (.str "call")) (.j (.int 7)))) (.aC (Z9 (.j (.str "back")))) (.aC (Z7 (.j (.str "set")) (.j (.str "b")) (.aC (Z7 (.v 4) (.aC (Z8 (.j (.str "name")) (.j (.str "b")))) (.aC (Z8 (.j (.str "name")) (.j (.str "a")))))))) (.aC (Z9 (.j (.str "back")))))))))))
def prB:S:=(.ret (.bi .tuple ai (Z9 (.comp ai .rng1 (Z9 (.v 2)) ["_law_k"] [(0,"_law_script"),(1,"_law_at"),(2,"_law_size")] .nil CG))))
theorem iV:fk=⟨["_law_script","_law_at"],["_law_script","_law_at","_law_size","_law_put","_law_sign","_law_rows"],
 (.seq (.set 2 (.bin .add (.j (.int 1)) (.call "_law_drawn" (.cons (.v 0) (.cons (.v 1) (.cons (.j (.int 9)) .nil))))))
 (.seq (.v (.z .eq (.call "_law_drawn" (.cons (.v 0) (.cons (.bin .add (.v 1) (.j (.int 1))) (.cons (.j (.int 4)) .nil)))) (.j (.int 0))) prA .nil)
 prB))⟩:=rfl
def um(L:Lw T)(M:T "_law_program"=aa fk)(ns:List Int)(O:ns.length<=1000)(p:Int):
 ∃pg:Pg,Drawn pg/\∀(m:Nat)(h:HH),runN T G (m+7) "_law_program" [.p (.aB (cV ns)),.p (.int p)] h=aa (.p (dQ pg),h):=by
 refine o7 L ns O p (λm h n o c en U D=>?_) (λm h pg c a D V=>?_)
 ·rw[run_eq M rfl];have d:=λq many B h=>D (m+4) q many B h;rw[iV];simp[-dJ,prA,d,c,U,cX,dQ,jY,Rw.enc,Sm.enc,←en,Nm.w]
 ·rw[run_eq M rfl];have d:=λq many B h=>D (m+4) q many B h;have e:=fS ns p (many:=9) (by decide);have b:=fT ns p (many:=9) (by decide);have Z:-100000<=1+drw ns p 9:=by lia
  have Y:1+drw ns p 9<=100000:=by lia
  have W:pg.length<=100000:=by lia
  have J:=V h;rw[iV];simp[-fz,prB,d,c,Z,Y,W,J,cX,dQ,jM]
mutual
theorem jZ:∀d:D,eqv d d=ah
 |.aD=>rfl
 |.bl b=>by simp
 |.int i=>by simp
 |.str x=>by simp
 |.aC q=>by simp[kC q]
 |.aB q=>by simp[kC q]
theorem kC:∀ds:List D,pO ds ds=ah
 |[]=>rfl
 |d::r=>by simp[jZ d,kC r]
end
def o8(n:Nat)(xs:List Int):(cV xs).all (dok n)=ah:=by simp[cV,Uz]
def o9(n:Nat)(xs:List Nat):(cW xs).all (dok n)=ah:=by simp[cW,Uz]
def ne_self(h:dok 100 x=ah):gB .ne x x=aa ai:=by rw[wg,bJ (jI h),jZ];rfl
@[simp]theorem JR(ds:List D):pO ds ds=ah:=kC ds
@[simp]theorem KW(d:D):eqv d d=ah:=jZ d
@[simp]theorem KY(x:D)(xs:List Int):ef x (.aC (cV xs))=ah:=jI (o8 99 xs)
@[simp]theorem KZ(x:D)(xs:List Nat):ef x (.aC (cW xs))=ah:=jI (o9 99 xs)
@[simp]theorem Nj(x:D)(xs ys:List Int):ef x (.aC [.aC (cV xs),.aC (cV ys)])=ah:=jI (by simp[o8])
end
section
variable{T:FK->Option Fn}{G:ay->Option W}
def vA(x:Nm):UR (Sn "abcdef") (Sn x.w) 0 (Sn "abcdef").length 1=[x.ix]:=by cases x<;>decide +kernel
def pZ(x:Nm):meD .sindex (.str "abcdef") [.str x.w]=aa (.int x.ix):=by have o:=vA x;rw[AH,o]
def ix0(a:D)(r:List D):dI (.aC (a::r)) (.int 0)=aa a:=by simp
def ix1(a b:D)(r:List D):dI (.aC (a::b::r)) (.int 1)=aa b:=by
 have:(1:Int)<(r.length:Int)+1+1:=by lia
 simp[this]
def ix2(a b c:D)(r:List D):dI (.aC (a::b::c::r)) (.int 2)=aa c:=by
 have:(2:Int)<(r.length:Int)+1+1+1:=by lia
 simp[this]
@[simp]theorem Qm(st:St):uS st.enc (aa 1) (aa 3)=aa (.aC [.aC (cV st.names),.aC (cV st.cells)]):=rfl
end
def CH(n:Nat)(st:St):dok (n+2) st.enc=ah:=by simp[St.enc,v8,o8,o9]
def xy(L:List St):dok 100 (.aB (L.map St.enc))=ah:=by rw[v9,Uz];intro d q;simp at q;obtain⟨st,_,rfl⟩:=q;exact CH 97 st
@[simp]theorem OH(x:D)(st:St):ef x st.enc=ah:=jI (CH 98 st)
@[simp]theorem Nk(x:D)(L:List St):ef x (.aB (L.map St.enc))=ah:=jI (xy L)
def itr(s0:St)(p:Pg)(aG:List Int):Nat->St
 |0=>s0|n+1=>step p aG (itr s0 p aG n)
structure Run(s0:St)(p:Pg)(aG:List Int)(most e:Nat):Prop where
 le:e<=most
 on:∀i,i<e->over p (itr s0 p aG i)=ai
 last:e=most\/over p (itr s0 p aG e)=ah
theorem CJ(s0:St)(p:Pg)(aG:List Int):∀(r j:Nat),∃e,e<=r/\sts p aG r (itr s0 p aG j)=(Sk (e+1)).map (λi=>itr s0 p aG (j+i))/\(∀i,i<e->over p (itr s0 p aG (j+i))=ai)/\(e=r\/over p (itr s0 p aG (j+e))=ah)
 |0,j=>⟨0,R0 _,rfl,λi q=>bL q (Xr _),.inl rfl⟩
 |r+1,j=>by
  rw[sts]
  by_cases c:over p (itr s0 p aG j)=ah
  ·rw[bJ c];exact⟨0,Tu _,rfl,λi q=>bL q (Xr _),.inr c⟩
  ·rw[bK c];obtain⟨e,M,J,D,B⟩:=CJ s0 p aG r (j+1);have L:over p (itr s0 p aG j)=ai:=by simpa using c
   refine⟨e+1,by lia,?_,λi q=>?_,?_⟩
   ·show itr s0 p aG j::sts p aG r (itr s0 p aG (j+1))=_;rw[J,VW (n:=e+1),Sf,UG];congr 1;apply Ub;intro i _;show itr s0 p aG (j+1+i)=itr s0 p aG (j+(i+1));congr 1;lia
   ·cases i with
    |zero=>exact L
    |succ i =>
     have:=D i (by lia);rw[show j+(i+1)=j+1+i by lia];exact this
   ·rcases B with B|B
    exact .inl (by lia);exact .inr (by rw[show j+(e+1)=j+1+e by lia];exact B)
def xA(s0:St)(p:Pg)(aG:List Int)(most:Nat):∃e,Run s0 p aG most e/\sts p aG most s0=(Sk (e+1)).map (itr s0 p aG):=by obtain⟨e,L,J,D,B⟩:=CJ s0 p aG most 0;refine⟨e,⟨L,λi q=>by have:=D i q;simpa using this,by simpa using B⟩,?_⟩;have:sts p aG most s0=sts p aG most (itr s0 p aG 0):=rfl;rw[this,J];apply Ub;intro i _;simp
def At.mono{m n:Nat}{st:St}(a:At m st)(h:m<=n):At n st:=⟨a.ok,SK a.said h,a.calls⟩
theorem vB{s0:St}{p:Pg}{aG:List Int}{most e:Nat}(q:Pg.ok p)(B:Ask aG)(D:At 1000 s0)(R:Run s0 p aG most e):∀i,i<=e->At (1000+i) (itr s0 p aG i)
 |0,_=>D|i+1,h=>xm q B (vB q B D R i (by lia)) (R.on i (by lia))
structure Tp where
 p:Pg
 aG:List Int
 aK:Nat
 most:Nat
 aH:List St
 far:Nat
 aI:St
 now:Nat
def Tp.fs(t:Tp)(r:Nat):List (ay×W):=[("program",.p (dQ t.p)),("asked",.p (.aB (cV t.aG))),("gap",.p (.int t.aK)),("most",.p (.int t.most)),("kept",.r r),("farthest",.p (.int t.far)),("front",.p t.aI.enc),("now",.p (.int t.now))]
section
variable(t:Tp)(r:Nat)
@[simp]theorem JS:dP "program" (t.fs r)=aa (.p (dQ t.p)):=by simp[Tp.fs]
@[simp]theorem Nl:dP "asked" (t.fs r)=aa (.p (.aB (cV t.aG))):=by simp[Tp.fs]
@[simp]theorem Qn:dP "gap" (t.fs r)=aa (.p (.int t.aK)):=by simp[Tp.fs]
@[simp]theorem OI:dP "most" (t.fs r)=aa (.p (.int t.most)):=by simp[Tp.fs]
@[simp]theorem FY:dP "kept" (t.fs r)=aa (.r r):=by simp[Tp.fs]
@[simp]theorem Qo:dP "farthest" (t.fs r)=aa (.p (.int t.far)):=by simp[Tp.fs]
@[simp]theorem Nn:dP "front" (t.fs r)=aa (.p t.aI.enc):=by simp[Tp.fs]
@[simp]theorem Qp:dP "now" (t.fs r)=aa (.p (.int t.now)):=by simp[Tp.fs]
@[simp]theorem Qq:(t.fs r).length=8:=rfl
def FZ(v:Nat):eS "gap" (.p (.int v)) (t.fs r)=({t with aK:=v}:Tp).fs r:=by simp[Tp.fs]
def CK(q:Nat):eS "kept" (.r q) (t.fs r)=t.fs q:=by simp[Tp.fs]
def F0(v:Nat):eS "farthest" (.p (.int v)) (t.fs r)=({t with far:=v}:Tp).fs r:=by simp[Tp.fs]
def zm(v:St):eS "front" (.p v.enc) (t.fs r)=({t with aI:=v}:Tp).fs r:=by simp[Tp.fs]
def iW{m:String}(h:(["program","asked","gap","most","kept","farthest","front","now"]:List String).contains m=ai):dP m (t.fs r)=af:=by simp only[YT,List.contains_nil,Vp,Yq,bS,ne_eq]at h;obtain⟨U,O,M,L,J,D,B,q⟩:=h;simp[Tp.fs,U,O,M,L,J,D,B,q]
end
structure TAt(c:ay)(h:HH)(n r:Nat)(t:Tp):Prop where
 ob:oat h n=aa (c,t.fs r)
 li:lat h r=aa (t.aH.map St.enc)
def gY{h:HH}{n:Nat}{q:ay×List (ay×W)}(e:oat h n=aa q):n<h.length:=by
 unfold oat at e;rcases Sq n h.length with z|z
 exact z;rw[Si z]at e;exact fP e
def gj{h:HH}{n:Nat}{q:List D}(e:lat h n=aa q):n<h.length:=by
 unfold lat at e;rcases Sq n h.length with z|z
 exact z;rw[Si z]at e;exact fP e
def lU{h:HH}{n r:Nat}{q:ay×List (ay×W)}{xs:List D}(e:oat h n=aa q)(e':lat h r=aa xs):n≠r:=by
 rintro rfl
 unfold oat at e;unfold lat at e';cases g:h[n]? with
 |none=>rw[g]at e;exact fP e|some c=>rw[g]at e e';cases c<;>simp at e e'
def lV{h:HH}{n:Nat}(hn:n<h.length)(c:Cl):oat (h.set n c) n=pP c:=by unfold oat;rw[SN hn];rfl
def pq{h:HH}{n i:Nat}(hn:i≠n)(c:Cl):oat (h.set n c) i=oat h i:=by unfold oat;rw[Sy (Td hn)]
def uq{h:HH}{n:Nat}(hn:n<h.length)(c:Cl):lat (h.set n c) n=nN c:=by unfold lat;rw[SN hn];rfl
def kX{h:HH}{n i:Nat}(hn:i≠n)(c:Cl):lat (h.set n c) i=lat h i:=by unfold lat;rw[Sy (Td hn)]
def kY{h h':HH}{i:Nat}(e:h'[i]?=h[i]?):lat h' i=lat h i:=by unfold lat;rw[e]
def j0{h h':HH}{i:Nat}(e:h'[i]?=h[i]?):oat h' i=oat h i:=by unfold oat;rw[e]
def xB{h g:HH}{i:Nat}(hi:i<h.length):lat (h++g) i=lat h i:=kY (RU hi)
def xC{h g:HH}{i:Nat}(hi:i<h.length):oat (h++g) i=oat h i:=j0 (RU hi)
structure Go(c:ay)(n:Nat)(h:HH)(r:Nat)(t:Tp)(h':HH)(r':Nat)(t':Tp):Prop where
 a:TAt c h n r t
 b:TAt c h' n r' t'
 len:(h'.length=h.length/\r'=r)\/(h.length<=r')
 le:h.length<=h'.length
 fr:∀i,i≠n->i≠r->i<h.length->h'[i]?=h[i]?
def Go.refl{c:ay}{n:Nat}{h:HH}{r:Nat}{t:Tp}(a:TAt c h n r t):Go c n h r t h r t:=⟨a,a,.inl ⟨rfl,rfl⟩,R0 _,λ_ _ _ _=>rfl⟩
def Go.trans{c:ay}{n:Nat}{h h1 h2:HH}{r D O:Nat}{t M L:Tp}(x:Go c n h r t h1 D M)(y:Go c n h1 D M h2 O L):Go c n h r t h2 O L:=by
 refine⟨x.a,y.b,?_,SK x.le y.le,λi h1 h2 V=>?_⟩
 ·rcases x.len with⟨B,J⟩|B
  ·rcases y.len with⟨q,U⟩|q
   exact .inl ⟨q.trans B,U.trans J⟩;exact .inr (by lia)
  ·rcases y.len with⟨q,U⟩|q
   exact .inr (by lia);exact .inr (by have:=x.le;lia)
 ·have:i≠D:=by
   rcases x.len with⟨B,J⟩|B
   rw[J];exact h2;lia
  rw[y.fr i h1 this (by have:=x.le;lia)];exact x.fr i h1 h2 V
def Go.other{c:ay}{n m:Nat}{h h':HH}{r q s:Nat}{t t' u:Tp}(x:Go c n h r t h' q t')(o:TAt c h m s u)(L:m≠n)(B:s≠r):TAt c h' m s u/\s≠q:=by
 have J:m≠r:=lU o.ob x.a.li;have D:s≠n:=(lU x.a.ob o.li).symm;refine⟨⟨(j0 (x.fr m L J (gY o.ob))).trans o.ob,(kY (x.fr s D B (gj o.li))).trans o.li⟩,?_⟩;rcases x.len with⟨O,M⟩|O
 rw[M];exact B;have:=gj o.li;lia
def kZ{c:ay}{n:Nat}{h h':HH}{r D:Nat}{t t':Tp}(x:Go c n h r t h' D t')(w:W):fin h w h'=aa (w,h'):=by
 unfold fin
 by_cases c:h'.length=h.length
 rw[bJ c]
 ·rw[bK c];rw[bK];intro z;rcases x.len with⟨B,L⟩|B
  exact c B
  ·have hn:=gY x.a.ob;have e:h'[n]?=h[n]?:=by have q:=UZ (l:=h') hn;rw[z]at q;exact q.symm
   have e2:oat h' n=oat h n:=j0 e;rw[x.a.ob,x.b.ob]at e2;have J:=bR (λq:Option (ay×List (ay×W))=>q.bind λy=>dP "kept" y.2) e2;simp only[SH,FY,Vt,W.r.injEq]at J;have:=gj x.a.li;lia
def iX:Fn:=⟨["thing"],["thing"], (.ret (.and (.bi .isInt ai (Z9 (.v 0))) (.not (.bi .isBool ai (Z9 (.v 0))))))⟩
def gk:Fn:=⟨["self","program","asked","every","most"],["self","program","asked","every","most"], (.seq (.setf (.v 0) "program" (.v 1)) (.seq (.setf (.v 0) "asked" (.bi .list ai (Z9 (.v 2)))) (.seq (.setf (.v 0) "gap" (.bi .max2 ai (Z8 (.v 3) (.j (.int 1))))) (.seq (.setf (.v 0) "most" (.bi .max2 ai (Z8 (.v 4) (.j (.int 0))))) (.seq (.setf (.v 0) "kept" (.aB ah (Z9 (.call "begun" .nil)))) (.seq (.setf (.v 0) "farthest" (.j (.int 0))) (.seq (.setf (.v 0) "front" (.call "begun" .nil)) (.setf (.v 0) "now" (.j (.int 0))))))))))⟩
def iN:Fn:=⟨["self","moment"],["self","moment","state","step"], (.seq (.ex (.aF (.v 0) "check" (Z9 (.v 1)))) (.seq (.set 2 (.y (.i (.v 0) "kept") (.bin .fdiv (.v 1) (.i (.v 0) "gap")))) (.seq (.for [(3,"step")] .rng1 (Z9 (.bin .mod (.v 1) (.i (.v 0) "gap"))) (.set 2 (.aF (.v 0) "behind" (Z9 (.v 2))))) (.ret (.v 2)))))⟩
def gQ:Fn:=⟨["self"],["self"], (.seq (.ex (.aF (.v 0) "reach" (Z9 (.i (.v 0) "most")))) (.ret (.i (.v 0) "farthest")))⟩
def fm:Fn:=⟨["self","state"],["self","state"], (.ret (.call "stepped" (Z7 (.i (.v 0) "program") (.i (.v 0) "asked") (.v 1))))⟩
def d8:Fn:=⟨["self","moment","state"],["self","moment","state"], (.ret (.or (.z .ge (.v 1) (.i (.v 0) "most")) (.call "is_over" (Z8 (.i (.v 0) "program") (.v 2)))))⟩
def fu:Fn:=⟨["self","state"],["self","state"], (.seq (.ex (.me .append (.i (.v 0) "kept") (Z9 (.v 1)))) (.v (.z .gt (.bi .len ai (Z9 (.i (.v 0) "kept"))) (.aE "MOST_MARKS")) (.seq (.setf (.v 0) "kept" (.stp ah 2 (.i (.v 0) "kept"))) (.augf (.v 0) "gap" .mul (.j (.int 2)))) .nil))⟩
def fE:Fn:=⟨["self","moment"],["self","moment"], (.j (.and (.z .lt (.i (.v 0) "farthest") (.v 1)) (.not (.aF (.v 0) "is_last" (Z8 (.i (.v 0) "farthest") (.i (.v 0) "front"))))) (.seq (.setf (.v 0) "front" (.aF (.v 0) "behind" (Z9 (.i (.v 0) "front")))) (.seq (.augf (.v 0) "farthest" .add (.j (.int 1))) (.v (.z .eq (.bin .mod (.i (.v 0) "farthest") (.i (.v 0) "gap")) (.j (.int 0))) (.ex (.aF (.v 0) "keep" (Z9 (.i (.v 0) "front")))) .nil))))⟩
def gR:Fn:=⟨["self","moment"],["self","moment"], (.seq (.v (.or (.not (.call "is_whole" (Z9 (.v 1)))) (.or (.z .lt (.v 1) (.j (.int 0))) (.z .gt (.v 1) (.i (.v 0) "most")))) (.ret (.j (.bl ai))) .nil) (.seq (.ex (.aF (.v 0) "reach" (Z9 (.v 1)))) (.ret (.z .le (.v 1) (.i (.v 0) "farthest")))))⟩
def fF:Fn:=⟨["self","moment"],["self","moment"], (.v (.not (.aF (.v 0) "has" (Z9 (.v 1)))) .bad .nil)⟩
structure TpP(c:ay)(T:FK->Option Fn)(G:ay->Option W):Prop where
 prg:Prg T G
 is_whole:T "is_whole"=aa iX
 behind:T (.m c "behind")=aa fm
 is_last:T (.m c "is_last")=aa d8
 keep:T (.m c "keep")=aa fu
 reach:T (.m c "reach")=aa fE
 has:T (.m c "has")=aa gR
 check:T (.m c "check")=aa fF
 at_:T (.m c "at")=aa iN
 MOST_MARKS:G "MOST_MARKS"=aa (.p (.int 8))
section
variable{c:ay}{T:FK->Option Fn}{G:ay->Option W}
def jz(P:TpP c T G)(k:Nat)(i:Int)(h:HH):runN T G (k+1) "is_whole" [.p (.int i)] h=aa (.p (.bl ah),h):=by rw[run_eq P.is_whole rfl];simp[iX,cX]
def pA(P:TpP c T G)(k:Nat){n r:Nat}{t:Tp}{h:HH}(a:TAt c h n r t)(q:Pg.ok t.p){j:Nat}{st:St}(B:j<=5000)(at_:At j st)(D:over t.p st=ai):runN T G (k+7) (.m c "behind") [.o n,.p st.enc] h=aa (.p (step t.p t.aG st).enc,h):=by rw[run_eq P.behind rfl];have s:=ue P.prg k t.p q t.aG st at_.ok (at_.small B) D;simp[fm,a.ob,s,cX]
def ur(P:TpP c T G)(k:Nat){n r:Nat}{t:Tp}{h:HH}(a:TAt c h n r t)(mo:Nat)(st:St):runN T G (k+2) (.m c "is_last") [.o n,.p (.int mo),.p st.enc] h=aa (.p (.bl (decide (t.most<=mo)||over t.p st)),h):=by
 rw[run_eq P.is_last rfl];have o:=ud P.prg k t.p st
 by_cases B:t.most<=mo
 ·have q:(t.most:Int)<=(mo:Int):=by lia
  simp[d8,a.ob,B,q,cX]
 ·have q:¬(t.most:Int)<=(mo:Int):=by lia
  simp[d8,a.ob,o,B,q,cX]
def CM:VY (SR af af (aa 2) 9).1 (SR af af (aa 2) 9).2.1 (SR af af (aa 2) 9).2.2=[0,2,4,6,8]:=by decide +kernel
def JT(M W L V J U B O q:D):mS 2 [M,W,L,V,J,U,B,O,q]=[M,L,J,B,q]:=by show(VY (SR af af (aa 2) 9).1 (SR af af (aa 2) 9).2.1 (SR af af (aa 2) 9).2.2).filterMap _=_;rw[CM];rfl
noncomputable def Tp.keep(t:Tp)(st:St):Tp:=if t.aH.length<8 then {t with aH:=t.aH++[st]}else {t with aH:=(Sk 5).filterMap λi=>(t.aH++[st])[2*i]?,aK:=2*t.aK}
def CO(P:TpP c T G)(k:Nat){n r:Nat}{t:Tp}{h:HH}(a:TAt c h n r t)(K:t.aK<=100000)(I:t.aH.length<=8)(st:St):
 ∃h' w,runN T G (k+1) (.m c "keep") [.o n,.p st.enc] h=aa (.p .aD,h')/\Go c n h r t h' w (t.keep st):=by
 have A:=lU a.ob a.li;have hn:=gY a.ob;have C:=gj a.li;have e1:lat (h.set r (Cl.l (t.aH.map St.enc++[st.enc]))) r=aa (t.aH.map St.enc++[st.enc]):=uq C _;have e2:oat (h.set r (Cl.l (t.aH.map St.enc++[st.enc]))) n=aa (c,t.fs r):=(pq A _).trans a.ob;have d:t.aH.length<100000:=by lia
 by_cases Y:t.aH.length<8
 ·have b:¬(8:Int)<(t.aH.length:Int)+1:=by lia
  have B:Go c n h r t (h.set r (Cl.l (t.aH.map St.enc++[st.enc]))) r (t.keep st):=by refine⟨a,⟨?_,?_⟩,.inl ⟨by simp,rfl⟩,by simp,λi j Z e=>Sy (Td Z)⟩;rw[Tp.keep,bJ Y];exact e2;rw[Tp.keep,bJ Y,e1];simp
  refine⟨_,r,?_,B⟩;rw[run_eq P.keep rfl];have f:=kZ B (.p .aD);simp[fu,a.ob,a.li,e1,e2,P.MOST_MARKS,rd,b,d,f]
 ·have F:t.aH.length=8:=by lia
  obtain⟨W,V,U,O,M,L,J,D,ek⟩:∃W V U O M L J D,t.aH=[W,V,U,O,M,L,J,D]:=by
   match t.aH,F with
   |[W,V,U,O,M,L,J,D],_=>exact⟨W,V,U,O,M,L,J,D,rfl⟩
  have ev:mS 2 (t.aH.map St.enc++[st.enc])=((t.keep st).aH).map St.enc:=by rw[Tp.keep,bK Y,ek];exact JT _ _ _ _ _ _ _ _ _
  have b:(8:Int)<(t.aH.length:Int)+1:=by lia
  have E:∀g:HH,oat ((h.set r (Cl.l (t.aH.map St.enc++[st.enc])))++g) n=aa (c,t.fs r):=λg=>(xC (by simpa using hn)).trans e2;have u:(h.set r (Cl.l (t.aH.map St.enc++[st.enc]))).length=h.length:=by simp
  have H:big (t.aK:Int)=ah:=by unfold big;exact bO (by lia)
  have B:Go c n h r t ((h.set r (Cl.l (t.aH.map St.enc++[st.enc]))++[Cl.l ((t.keep st).aH.map St.enc)]).set n (.o c ((t.keep st).fs h.length))) h.length (t.keep st):=by
   have q:n<(h.set r (Cl.l (t.aH.map St.enc++[st.enc]))++[Cl.l ((t.keep st).aH.map St.enc)]).length:=by simp;lia
   refine⟨a,⟨lV q _,?_⟩,.inr (R0 _),by simp,λi j Z e=>?_⟩
   ·rw[kX (Td (SA hn))];have:=Ql (h.set r (Cl.l (t.aH.map St.enc++[st.enc]))) (Cl.l ((t.keep st).aH.map St.enc)) [];rw[u]at this;exact this
   rw[Sy (Td j),RU (by simpa using e),Sy (Td Z)]
  refine⟨_,_,?_,B⟩;rw[run_eq P.keep rfl];have f:=kZ B (.p .aD);have k2:(t.keep st).fs h.length=({t with aK:=2*t.aK}:Tp).fs h.length:=by rw[Tp.keep,bK Y];rfl
  have z:eS "gap" (.p (.int ((t.aK:Int)*2))) (t.fs h.length)=(t.keep st).fs h.length:=by rw[k2,←FZ t h.length (2*t.aK)];congr 3;show(t.aK:Int)*2=((2*t.aK:Nat):Int);lia
  have q:n<(h.set r (Cl.l (t.aH.map St.enc++[st.enc]))++[Cl.l ((t.keep st).aH.map St.enc)]).length:=by simp;lia
  have s:=lV q (.o c (t.fs h.length));rw[HY]at s;have v:∀x y:Cl,((h.set r (Cl.l (t.aH.map St.enc++[st.enc]))++[Cl.l ((t.keep st).aH.map St.enc)]).set n x).set n y=(h.set r (Cl.l (t.aH.map St.enc++[st.enc]))++[Cl.l ((t.keep st).aH.map St.enc)]).set n y:=λx y=>by rw[Yg]
  simp[fu,a.ob,a.li,e1,e2,E,u,P.MOST_MARKS,rd,b,d,ev,CK,s,H,z,v,f]
end
structure TI(s0:St)(t:Tp)(e gv:Nat):Prop where
 run:Run s0 t.p t.aG t.most e
 ok:Pg.ok t.p
 ask:Ask t.aG
 a0:At 1000 s0
 g0:0<t.aK
 g1:t.aK<=1000
 m1:t.most<=1000
 far:t.far<=e
 aI:t.aI=itr s0 t.p t.aG t.far
 len:t.aH.length=t.far/t.aK+1
 l8:t.aH.length<=8
 aH:∀j,j<t.aH.length->t.aH[j]?=aa (itr s0 t.p t.aG (j*t.aK))
 now:t.now<=t.far
 pw:∃j,t.aK=gv*2^j/\(0<j->8<=t.far/(t.aK/2))
structure Sm8(t t':Tp):Prop where
 p:t'.p=t.p
 aG:t'.aG=t.aG
 most:t'.most=t.most
 now:t'.now=t.now
def Sm8.refl(t:Tp):Sm8 t t:=⟨rfl,rfl,rfl,rfl⟩
def Sm8.trans{t u v:Tp}(x:Sm8 t u)(y:Sm8 u v):Sm8 t v:=⟨y.p.trans x.p,y.aG.trans x.aG,y.most.trans x.most,y.now.trans x.now⟩
def Tp.on(t:Tp):Tp:={t with aI:=step t.p t.aG t.aI,far:=t.far+1}
def Tp.nx(t:Tp):Tp:=if(t.far+1)%t.aK=0 then t.on.keep t.on.aI else t.on
def CP{f g:Nat}(q:0<g)(c:¬(f+1)%g=0):(f+1)/g=f/g:=by
 have J:=Xs f g;have D:f%g<g:=WN _ q;have e:f+1=g*(f/g)+(f%g+1):=by lia
 have B:f%g+1<g:=by
  rcases Sq (f%g+1) g with z|z
  exact z
  ·exfalso;apply c;have:f%g+1=g:=by lia
   rw[e,this,Nat.mul_add_mod,Nat.mod_self]
 rw[e,Nat.mul_add_div q,Nat.div_eq_of_lt B];lia
def CU{f g:Nat}(q:0<g)(c:(f+1)%g=0):(f+1)/g=f/g+1/\(f/g+1)*g=f+1:=by
 have J:=Xs f g;have D:f%g<g:=WN _ q;have B:f%g+1=g:=by
  rcases Sq (f%g+1) g with z|z
  ·exfalso;have e:f+1=g*(f/g)+(f%g+1):=by lia
   rw[e,Nat.mul_add_mod,Nat.mod_eq_of_lt z]at c;lia
  lia
 have e:f+1=(f/g+1)*g:=by rw[Nat.add_mul,U0 (f/g) g];lia
 exact⟨by rw[e,Wy _ q],e.symm⟩
def TI.nx{s0:St}{t:Tp}{e gv:Nat}(I:TI s0 t e gv)(h:t.far<e):TI s0 t.nx e gv/\Sm8 t t.nx/\t.nx.far=t.far+1:=by
 have g0:=I.g0;have U:step t.p t.aG t.aI=itr s0 t.p t.aG (t.far+1):=by rw[I.aI];rfl
 have mono:∀g:Nat,t.far/g<=(t.far+1)/g:=λg=>Yy (T3 _);unfold Tp.nx
 by_cases c:(t.far+1)%t.aK=0
 ·rw[bJ c];obtain⟨k,a⟩:=CU g0 c;have M:t.on.aI=itr s0 t.p t.aG (t.far+1):=U;have Y:∀j,j<t.aH.length+1->(t.aH++[itr s0 t.p t.aG (t.far+1)])[j]?=aa (itr s0 t.p t.aG (j*t.aK)):=λj B=>by
   rcases Sq j t.aH.length with z|z
   rw[RU z];exact I.aH j z
   ·have d:j=t.aH.length:=by lia
    subst d;rw[SS (R0 _),Nat.sub_self];have:t.aH.length*t.aK=t.far+1:=by rw[I.len];exact a
    rw[this];rfl
  unfold Tp.keep
  by_cases b:t.aH.length<8
  ·have J:t.on.aH.length<8:=b;rw[bJ J];refine⟨⟨I.run,I.ok,I.ask,I.a0,g0,I.g1,I.m1,h,U,?_,?_,λj B=>?_,?_,?_⟩,⟨rfl,rfl,rfl,rfl⟩,rfl⟩
   ·show(t.aH++[t.on.aI]).length=(t.far+1)/t.aK+1;rw[k,Sz,I.len];rfl
   ·show(t.aH++[t.on.aI]).length<=8;rw[Sz];simp;lia
   ·have D:j<t.aH.length+1:=by
     have:(t.aH++[t.on.aI]).length=t.aH.length+1:=by simp
     rw[←this];exact B
    show(t.aH++[t.on.aI])[j]?=aa (itr s0 t.p t.aG (j*t.aK));rw[M];exact Y j D
   show t.now<=t.far+1;have:=I.now;lia
   ·obtain⟨j,O,V⟩:=I.pw;exact⟨j,O,λB=>SK (V B) (mono _)⟩
  ·have J:¬t.on.aH.length<8:=b;rw[bK J];have l8:t.aH.length=8:=by have:=I.l8;lia
   have Z:t.far+1=8*t.aK:=by rw[←a,←I.len,l8]
   have le:=I.run.le;have m1:=I.m1;have L:∀i,i<5->(t.aH++[itr s0 t.p t.aG (t.far+1)])[2*i]?=aa (itr s0 t.p t.aG (i*(2*t.aK))):=λi l=>by rw[Y (2*i) (by lia)];congr 2;rw[U0 2 i,Nat.mul_assoc]
   have W:(Sk 5).filterMap (λi=>(t.aH++[t.on.aI])[2*i]?)=(Sk 5).map λi=>itr s0 t.p t.aG (i*(2*t.aK)):=by rw[M,show Sk 5=[0,1,2,3,4] from rfl];simp only[SC,List.filterMap_nil,L 0 (by decide),L 1 (by decide),L 2 (by decide),L 3 (by decide),L 4 (by decide),Sf,Tc]
   have f:(t.far+1)/(2*t.aK)=4:=by rw[Z,show 8*t.aK=4*(2*t.aK) by lia];exact Wy _ (by lia)
   refine⟨⟨I.run,I.ok,I.ask,I.a0,?_,?_,I.m1,h,U,?_,?_,λj B=>?_,?_,?_⟩,⟨rfl,rfl,rfl,rfl⟩,rfl⟩;show 0<2*t.aK;lia;show 2*t.aK<=1000;lia
   ·show((Sk 5).filterMap λi=>(t.aH++[t.on.aI])[2*i]?).length=(t.far+1)/(2*t.aK)+1;rw[W,f];simp
   ·show((Sk 5).filterMap λi=>(t.aH++[t.on.aI])[2*i]?).length<=8;rw[W];simp
   ·have D:j<5:=by have q:j<((Sk 5).filterMap λi=>(t.aH++[t.on.aI])[2*i]?).length:=B;rw[W]at q;simpa using q
    show((Sk 5).filterMap λi=>(t.aH++[t.on.aI])[2*i]?)[j]?=aa (itr s0 t.p t.aG (j*(2*t.aK)));rw[W,Sv,Vw D];rfl
   show t.now<=t.far+1;have:=I.now;lia
   ·obtain⟨j,O,V⟩:=I.pw;refine⟨j+1,?_,λ_=>?_⟩
    ·show 2*t.aK=gv*2^(j+1);rw[O,Nat.pow_succ];rw[U0 2,Nat.mul_assoc]
    ·show 8<=(t.far+1)/(2*t.aK/2);rw[Nat.mul_div_cancel_left _ (by lia:0<2),Z,Wy _ g0];exact R0 _
 ·rw[bK c];refine⟨⟨I.run,I.ok,I.ask,I.a0,g0,I.g1,I.m1,h,U,?_,I.l8,I.aH,?_,?_⟩,⟨rfl,rfl,rfl,rfl⟩,rfl⟩
  ·show t.aH.length=(t.far+1)/t.aK+1;rw[I.len,CP g0 c]
  show t.now<=t.far+1;have:=I.now;lia
  ·obtain⟨j,O,V⟩:=I.pw;exact⟨j,O,λB=>SK (V B) (mono _)⟩
section
variable{c:ay}{s0:St}{T:FK->Option Fn}{G:ay->Option W}
def rcC:E:=(.and (.z .lt (.i (.v 0) "farthest") (.v 1)) (.not (.aF (.v 0) "is_last" (Z8 (.i (.v 0) "farthest") (.i (.v 0) "front")))))
def rcB:S:=(.seq (.setf (.v 0) "front" (.aF (.v 0) "behind" (Z9 (.i (.v 0) "front")))) (.seq (.augf (.v 0) "farthest" .add (.j (.int 1))) (.v (.z .eq (.bin .mod (.i (.v 0) "farthest") (.i (.v 0) "gap")) (.j (.int 0))) (.ex (.aF (.v 0) "keep" (Z9 (.i (.v 0) "front")))) .nil)))
def qD(t:Tp)(r:Nat):dP "is_last" (t.fs r)=af:=iW t r rfl
def uu(t:Tp)(r:Nat):dP "behind" (t.fs r)=af:=iW t r rfl
def JU(t:Tp)(r:Nat):dP "keep" (t.fs r)=af:=iW t r rfl
def xD(t:Tp)(r:Nat):dP "reach" (t.fs r)=af:=iW t r rfl
def GW(t:Tp)(r:Nat):dP "has" (t.fs r)=af:=iW t r rfl
def F2(t:Tp)(r:Nat):dP "check" (t.fs r)=af:=iW t r rfl
def Np(t:Tp)(r:Nat):dP "at" (t.fs r)=af:=iW t r rfl
def GX(t:Tp)(r:Nat):dP "end" (t.fs r)=af:=iW t r rfl
def Nq{n r:Nat}{t:Tp}{h:HH}(a:TAt c h n r t)(t':Tp)(k:t'.aH=t.aH):Go c n h r t (h.set n (.o c (t'.fs r))) r t':=by have hn:=gY a.ob;have q:=lU a.ob a.li;exact⟨a,⟨lV hn _,by rw[kX (Td q),k];exact a.li⟩,.inl ⟨by simp,rfl⟩,by simp,λi B _ _=>Sy (Td B)⟩
def F3(P:TpP c T G)(k:Nat){n r:Nat}{t:Tp}{h:HH}{e:Nat}(a:TAt c h n r t)(I:TI s0 t e gv)(f:t.far<e)(w:W):
 ∃h' V,evS (runN T G (k+7)) G rcB [aa (.o n),aa w] h=aa (.nx [aa (.o n),aa w] h')/\Go c n h r t h' V t.nx:=by
 have hn:=gY a.ob;have J:=vB I.ok I.ask I.a0 I.run t.far (by lia);have le:=I.run.le;have m1:=I.m1;have m:=pA P k a I.ok (j:=1000+t.far) (st:=t.aI) (by lia) (by rw[I.aI];exact J) (by rw[I.aI];exact I.run.on _ f);have q:=Nq a t.on rfl;have e1:oat (h.set n (.o c (({t with aI:=step t.p t.aG t.aI}:Tp).fs r))) n=aa (c,({t with aI:=step t.p t.aG t.aI}:Tp).fs r):=lV hn _;have Y:=zm t r (step t.p t.aG t.aI);have Z:eS "farthest" (.p (.int ((t.far:Int)+1))) (({t with aI:=step t.p t.aG t.aI}:Tp).fs r)=t.on.fs r:=F0 ({t with aI:=step t.p t.aG t.aI}:Tp) r (t.far+1);have e2:oat (h.set n (.o c (t.on.fs r))) n=aa (c,t.on.fs r):=lV hn _;have g0:(0:Int)<(t.aK:Int):=by have:=I.g0;lia
 have O:∀x y:Cl,(h.set n x).set n y=h.set n y:=λx y=>by rw[Yg]
 have of:t.on.far=t.far+1:=rfl;have L:t.on.aK=t.aK:=rfl;have B:evS (runN T G (k+7)) G rcB [aa (.o n),aa w] h=evS (runN T G (k+7)) G (.v (.z .eq (.bin .mod (.i (.v 0) "farthest") (.i (.v 0) "gap")) (.j (.int 0))) (.ex (.aF (.v 0) "keep" (.cons (.i (.v 0) "front") .nil))) .nil) [aa (.o n),aa w] (h.set n (.o c (t.on.fs r))):=by rw[rcB];simp[a.ob,m,uu,Y,e1,Z,O]
 rw[B];unfold Tp.nx;have s:(((t.far+1)%t.aK:Nat):Int)=((t.far:Int)+1)%(t.aK:Int):=by simp
 by_cases M:(t.far+1)%t.aK=0
 ·rw[bJ M];have D:((t.far:Int)+1)%(t.aK:Int)=0:=by lia
  obtain⟨g,U,d,k2⟩:=CO P (k+6) q.b (by show t.aK<=100000;have:=I.g1;lia) (by show t.aH.length<=8;exact I.l8) t.on.aI;refine⟨g,U,?_,q.trans k2⟩;simp[e2,of,L,g0,I.g0,D,JU,d]
 ·rw[bK M];have D:¬((t.far:Int)+1)%(t.aK:Int)=0:=by lia
  refine⟨_,r,?_,q⟩;have l:(((t.far:Int)+1)%(t.aK:Int)==0)=ai:=by simpa using D
  simp[e2,of,L,g0,I.g0,l]
def rQ(P:TpP c T G)(k:Nat){n r:Nat}{t:Tp}{h:HH}{e:Nat}(a:TAt c h n r t)(I:TI s0 t e gv)(m:Nat):
 aL (runN T G (k+7)) G rcC [aa (.o n),aa (.p (.int m))] h=aa (.p (.bl (decide (t.far<min m e))),h):=by
 have B:=ur P (k+5) a t.far t.aI;have le:=I.run.le
 by_cases J:t.far<m
 ·have D:(t.far:Int)<(m:Int):=by lia
  by_cases M:t.far<e
  ·have o:over t.p t.aI=ai:=by rw[I.aI];exact I.run.on _ M
   have q:(decide (t.most<=t.far)||over t.p t.aI)=ai:=by rw[o,Vp];exact bN (by lia)
   rw[q]at B;have d:decide (t.far<min m e)=ah:=bO (by lia);rw[d];simp[rcC,a.ob,D,J,qD,B]
  ·have L:t.far=e:=by have:=I.far;lia
   have q:(decide (t.most<=t.far)||over t.p t.aI)=ah:=by
    rcases I.run.last with z|z
    rw[bO (by lia)];rfl;rw[I.aI,L,z,Bool.or_true]
   rw[q]at B;have d:decide (t.far<min m e)=ai:=bN (by lia);rw[d];simp[rcC,a.ob,D,J,qD,B]
 ·have D:¬(t.far:Int)<(m:Int):=by lia
  have d:decide (t.far<min m e)=ai:=bN (by lia);rw[d];simp[rcC,a.ob,D,J]
def F4(P:TpP c T G)(k:Nat)(n:Nat)(e gv m:Nat):∀(d f:Nat)(h:HH)(r:Nat)(t:Tp),TAt c h n r t->TI s0 t e gv->min m e-t.far<=d->d<=f →
 ∃h' V t',eX (aL (runN T G (k+7)) G rcC) (evS (runN T G (k+7)) G rcB) (f+1) [aa (.o n),aa (.p (.int m))] h=aa (.nx [aa (.o n),aa (.p (.int m))] h')/\Go c n h r t h' V t'/\TI s0 t' e gv/\Sm8 t t'/\t'.far=max t.far (min m e):=by
 intro d
 induction d with
 |zero =>
  intro f h r t a I Z Y;have q:=rQ P k a I m;rw[bN (by lia)]at q;refine⟨h,r,t,?_,.refl a,I,.refl t,by lia⟩;rw[eX,q,jo,om]
 |succ d W =>
  intro f h r t a I Z Y
  by_cases D:t.far<min m e
  ·have q:=rQ P k a I m;rw[bO D]at q;obtain⟨i,U,s,B⟩:=F3 P k a I (by lia) (.p (.int m));obtain⟨v,M,x⟩:=I.nx (by lia);cases f with
   |zero=>lia
   |succ f =>
    obtain⟨g,O,J,l,j,u,L,w⟩:=W f i U t.nx B.b v (by lia) (by lia);refine⟨g,O,J,?_,B.trans j,u,M.trans L,by lia⟩;rw[eX,q,jo,mj,s,gJ,l]
  ·have q:=rQ P k a I m;rw[bN D]at q;refine⟨h,r,t,?_,.refl a,I,.refl t,by lia⟩;rw[eX,q,jo,om]
theorem uv:fE=⟨["self","moment"],["self","moment"],.j rcC rcB⟩:=rfl
inductive zo{α:Type}(c:ay)(s0:St)(x:Option (α×HH))(y:α)(n:Nat)(h:HH)(r:Nat)(t:Tp)(e gv f:Nat):Prop
 |mk(h':HH)(B:Nat)(t':Tp)(q:x=aa (y,h'))(g:Go c n h r t h' B t')(i:TI s0 t' e gv)(m:Sm8 t t')(a:t'.far=f):zo c s0 x y n h r t e gv f
def qE(P:TpP c T G)(k:Nat){n r:Nat}{t:Tp}{h:HH}{e:Nat}(a:TAt c h n r t)(I:TI s0 t e gv)(m:Nat):
 zo c s0 (runN T G (k+8) (.m c "reach") [.o n,.p (.int m)] h) (.p .aD) n h r t e gv (max t.far (min m e)):=by
 have le:=I.run.le;have m1:=I.m1;obtain⟨D,B,q,b,g,J,s,f⟩:=F4 P k n e gv m 99999 99999 h r t a I (by lia) (R0 _);refine⟨D,B,q,?_,g,J,s,f⟩;rw[run_eq P.reach rfl,uv];have fn:=kZ g (.p .aD);simp[turns,b,fn]
def xE(P:TpP c T G)(k:Nat){n r:Nat}{t:Tp}{h:HH}{e:Nat}(a:TAt c h n r t)(I:TI s0 t e gv)(m:Nat)(U:m<=t.most):
 zo c s0 (runN T G (k+9) (.m c "has") [.o n,.p (.int m)] h) (.p (.bl (decide (m<=e)))) n h r t e gv (max t.far (min m e)):=by
 obtain⟨J,D,q,b,g,O,s,f⟩:=qE P k a I m;refine⟨J,D,q,?_,g,O,s,f⟩;rw[run_eq P.has rfl];have w:=jz P (k+7) m;have M:¬((m:Int)<0):=by lia
 have L:¬((t.most:Int)<(m:Int)):=by lia
 have fn:=λw=>kZ g w;have far:=I.far;have d:decide ((m:Int)<=(q.far:Int))=decide (m<=e):=by
  by_cases B:m<=e
  rw[bO B];exact bO (by lia);rw[bN B];exact bN (by lia)
 simp[gR,w,M,a.ob,L,xD,b,g.b.ob,fn];simpa using d
def zu(P:TpP c T G)(k:Nat){n r:Nat}{t:Tp}{h:HH}{e:Nat}(a:TAt c h n r t)(I:TI s0 t e gv)(m:Nat)(q:m<=e):
 zo c s0 (runN T G (k+10) (.m c "check") [.o n,.p (.int m)] h) (.p .aD) n h r t e gv (max t.far m):=by
 obtain⟨J,D,B,b,g,L,s,f⟩:=xE P k a I m (SK q I.run.le);rw[bO q]at b;refine⟨J,D,B,?_,g,L,s,by lia⟩;rw[run_eq P.check rfl];have fn:=kZ g (.p .aD);simp[fF,a.ob,GW,b,fn]
def atB:S:=(.set 2 (.aF (.v 0) "behind" (Z9 (.v 2))))
theorem xF(P:TpP c T G)(k:Nat){n r:Nat}{t:Tp}{h:HH}{e gv:Nat}(a:TAt c h n r t)(I:TI s0 t e gv)(B:W):∀(q j:Nat)(x:Option W)(lo:Int),j+q<=e →
 ∃D,gK (evS (runN T G (k+7)) G atB) [(3,"step")] (upto lo q) [aa (.o n),aa B,aa (.p (itr s0 t.p t.aG j).enc),x] h=aa (.nx [aa (.o n),aa B,aa (.p (itr s0 t.p t.aG (j+q)).enc),D] h)
 |0,j,x,lo,_=>⟨x,rfl⟩
 |q+1,j,x,lo,hj=>by
  have le:=I.run.le;have m1:=I.m1;obtain⟨D,b⟩:=xF P k a I B q (j+1) (aa (.p (.int lo))) (lo+1) (by lia);refine⟨D,?_⟩;have J:=pA P k a I.ok (j:=1000+j) (st:=itr s0 t.p t.aG j) (by lia) (vB I.ok I.ask I.a0 I.run j (by lia)) (I.run.on j (by lia));have L:upto lo (q+1)=.int lo::upto (lo+1) q:=by unfold upto;rw[VW,Sf,UG];simp only[Int.natCast_zero,Int.add_zero,Vg,true_and];apply Ub;intro i _;simp;lia
  rw[L];have M:step t.p t.aG (itr s0 t.p t.aG j)=itr s0 t.p t.aG (j+1):=rfl;rw[M]at J;have U:j+1+q=j+(q+1):=by lia
  rw[U]at b;have O:evS (runN T G (k+7)) G atB [aa (.o n),aa B,aa (.p (itr s0 t.p t.aG j).enc),aa (.p (.int lo))] h=aa (.nx [aa (.o n),aa B,aa (.p (itr s0 t.p t.aG (j+1)).enc),aa (.p (.int lo))] h):=by simp[atB,a.ob,uu,J]
  simp[O,b]
theorem CV:iN=⟨["self","moment"],["self","moment","state","step"],(.seq (.ex (.aF (.v 0) "check" (.cons (.v 1) .nil)))
 (.seq (.set 2 (.y (.i (.v 0) "kept") (.bin .fdiv (.v 1) (.i (.v 0) "gap"))))
 (.seq (.for [(3,"step")] .rng1 (.cons (.bin .mod (.v 1) (.i (.v 0) "gap")) .nil) atB)
 (.ret (.v 2)))))⟩:=rfl
def CW(P:TpP c T G)(k:Nat){n r:Nat}{t:Tp}{h:HH}{e:Nat}(a:TAt c h n r t)(I:TI s0 t e gv)(m:Nat)(U:m<=e):
 zo c s0 (runN T G (k+11) (.m c "at") [.o n,.p (.int m)] h) (.p (itr s0 t.p t.aG m).enc) n h r t e gv (max t.far m):=by
 obtain⟨V,M,q,b,g,B,s,f⟩:=zu P k a I m U;refine⟨V,M,q,?_,g,B,s,f⟩;rw[run_eq P.at_ rfl,CV];have fn:=λw=>kZ g w;have g0:=B.g0;have g1:=B.g1;have dm:=Xs m q.aK;have j:=WN m g0;have O:m/q.aK<q.aH.length:=by rw[B.len];have:m/q.aK<=q.far/q.aK:=Yy (by lia);lia
 have J:=B.aH _ O;have le:=B.run.le;have m1:=B.m1;rw[s.p,s.aG]at J;have W:(0:Int)<(q.aK:Int):=by lia
 have Y:(q.aK:Int)<1073741824:=by lia
 have e1:(m:Int)/(q.aK:Int)=((m/q.aK:Nat):Int):=by simp
 have e2:(m:Int)%(q.aK:Int)=((m%q.aK:Nat):Int):=by simp
 have ix:dI (.aB (q.aH.map St.enc)) (.int ((m/q.aK:Nat):Int))=aa (itr s0 t.p t.aG (m/q.aK*q.aK)).enc:=by show atP _ _=_;rw[g8,Sv,J];rfl
 obtain⟨i,D⟩:=xF P (k+3) g.b B (.p (.int m)) (m%q.aK) (m/q.aK*q.aK) af 0 (by rw[U0];lia);rw[s.p,s.aG]at D;have Z:m/q.aK*q.aK+m%q.aK=m:=by rw[U0];exact dm
 rw[Z]at D;have L:gH .rng1 [.int ((m%q.aK:Nat):Int)]=aa (upto 0 (m%q.aK)):=by
  rw[eV];have d:((-100000<=(((m%q.aK:Nat):Int)):Bool)&&(((m%q.aK:Nat):Int)<=100000:Bool))=ah:=by simp only[RX,bM];lia
  rw[bJ d];rfl
 simp[-dJ,-eV,-Int.natCast_ediv,-Int.natCast_emod,a.ob,F2,b,g.b.ob,g.b.li,rd,W,g0,Y,e1,e2,ix,L,jM,D,fn]
structure TpM(c:ay)(T:FK->Option Fn):Prop where
 end_:T (.m c "end")=aa gQ
def xG(P:TpP c T G)(M:TpM c T)(k:Nat){n r:Nat}{t:Tp}{h:HH}{e:Nat}(a:TAt c h n r t)(I:TI s0 t e gv):
 zo c s0 (runN T G (k+9) (.m c "end") [.o n] h) (.p (.int e)) n h r t e gv e:=by
 obtain⟨J,D,q,b,g,L,s,f⟩:=qE P k a I t.most;have le:=I.run.le;have O:=I.far;have B:q.far=e:=by lia
 refine⟨J,D,q,?_,g,L,s,B⟩;rw[run_eq M.end_ rfl];have fn:=λw=>kZ g w;simp[gQ,a.ob,xD,b,g.b.ob,B,fn]
def j3{h h':HH}(i:Nat)(hi:i<h.length)(B:h'[i]?≠h[i]?)(w:W):fin h w h'=aa (w,h'):=by
 unfold fin
 by_cases c:h'.length=h.length
 rw[bJ c]
 ·rw[bK c,bK];intro z;apply B;have q:=UZ (l:=h') hi;rw[z]at q;exact q.symm
end
def jA:Fn:=⟨["thing"],["thing"], (.ret (.and (.call "is_whole" (Z9 (.v 0))) (.chain .le .lt (.j (.int 0)) (.v 0) (.aE "CELL_COUNT"))))⟩
def fq:Fn:=⟨["thing"],["thing"], (.v (.and (.not (.call "is_name" (Z9 (.v 0)))) (.not (.call "is_cell" (Z9 (.v 0))))) .bad .nil)⟩
structure ThP(T:FK->Option Fn):Prop where
 is_cell:T "is_cell"=aa jA
 check:T "check_thing"=aa fq
inductive Th
 |nm(x:Nm)|cl(i:Nat)(h:i<4)
def Th.enc:Th->D
 |.nm x=>.str x.w|.cl i _=>.int i
def Th.val(st:St):Th->Int
 |.nm x=>st.names.getD x.ix 0|.cl i _=>st.cells.getD i 0
def fG:Fn:=⟨["state","thing","worth"],["state","thing","worth"], (.seq (.v (.call "is_name" (Z9 (.v 1))) (.ret (.bin .add (.bin .add (.n (.v 0) .nil (Z9 (.aE "NAMES"))) (.aC (Z9 (.call "with_name" (Z7 (.v 0) (.v 1) (.v 2)))))) (.n (.v 0) (Z9 (.bin .add (.aE "NAMES") (.j (.int 1)))) .nil))) .nil) (.ret (.bin .add (.bin .add (.n (.v 0) .nil (Z9 (.aE "CELLS"))) (.aC (Z9 (.call "with_worth" (Z7 (.y (.v 0) (.aE "CELLS")) (.v 1) (.v 2)))))) (.n (.v 0) (Z9 (.bin .add (.aE "CELLS") (.j (.int 1)))) .nil))))⟩
structure LdP(T:FK->Option Fn)(G:ay->Option W):Prop where
 with_thing:T "with_thing"=aa fG
def Th.put(st:St)(v:Int):Th->St
 |.nm x=>{st with names:=st.names.set x.ix v}|.cl i _=>{st with cells:=st.cells.set i v}
structure Szd(st:St):Prop where
 n:st.names.length=6
 c:st.cells.length=4
def Szd.put{st:St}(z:Szd st)(v:Int)(th:Th):Szd (th.put st v):=by
 cases th with
 |nm x=>exact⟨by show(st.names.set _ _).length=6;rw[TH];exact z.n,z.c⟩|cl i h=>exact⟨z.n,by show(st.cells.set _ _).length=4;rw[TH];exact z.c⟩
def Th.JV{st:St}(q:st.ok){v:Int}(D:Wth v)(th:Th):(th.put st v).ok:=by
 have z:=Szd.put ⟨q.nlen,q.clen⟩ v th;cases th with
 |nm x=>exact⟨z.n,z.c,λy B=>(US B).elim (q.nw y) λe=>e ▸ D,q.cw⟩|cl i h=>exact⟨z.n,z.c,q.nw,λy B=>(US B).elim (q.cw y) λe=>e ▸ D⟩
def Th.oW{st:St}(q:st.ok)(th:Th):Wth (th.val st):=by
 cases th with
 |nm x=>exact oV q.nw _|cl i h=>exact oV q.cw _
def kD{F:FK->List W->HH->Option (W×HH)}{G:ay->Option W}{B:Sr}{J:Es}{tg:List ay}{L:List (Nat×ay)}{cond:Es}{q:E}{s:Sl}{h h1 h2:HH}{ws:List W}{ds xs:List D}{fs:Sl}(e1:evs F G J s h=aa (ws,h1))(e2:(rds ws h1).bind (gH B)=aa ds)(V:frees s L=aa fs)(U:jM ws=ah)(O:d7 (fz (evs F G cond) (aL F G q) fs) tg.length ds h1=aa (xs,h2))(M:xs.length<=100000):aL F G (.comp ai B J tg L cond q) s h=aa (.p (.aB xs),h2):=by show bnd (evs F G J s h) (oh ai B tg.length (frees s L) (evs F G cond) (aL F G q))=_;rw[e1,d9];unfold oh;rw[e2,V];show(if jM ws=ah then _ else _)=_;rw[bJ U,O,d9];unfold jb;rw[bJ (show xs.length<=lim from M)];rfl
def JW{q:Type}(f:List D->HH->Option (Option D×HH))(mk:q->D)(g:q->Option D)(h:HH):∀(l:List q),(∀x∈l,f [mk x] h=aa (g x,h))->d7 f 1 (l.map mk) h=aa (l.filterMap g,h):=by
 intro l
 induction l with
 |nil=>intro _;rfl
 |cons x r J =>
  intro B;rw[Sf,d7,lE];show bnd (f [mk x] h) (AM (d7 f 1 (r.map mk)))=_;rw[B x Sj,d9,wm,J λy L=>B y (Sb _ L),d9,tE,SC];cases g x<;>rfl
def rR{B:Type}(f:List D->HH->Option (Option D×HH))(mk:B->D)(g:B->Option D)(q:HH->Prop):∀(l:List B),(∀x∈l,∀h,q h->∃h',f [mk x] h=aa (g x,h')/\q h')->∀h,q h->∃h',d7 f 1 (l.map mk) h=aa (l.filterMap g,h')/\q h':=by
 intro l
 induction l with
 |nil=>intro _ h J;exact⟨h,rfl,J⟩
 |cons x r M =>
  intro L h J;obtain⟨Y,e1,U⟩:=L x Sj h J;obtain⟨W,e2,O⟩:=M (λy V=>L y (Sb _ V)) Y U;refine⟨W,?_,O⟩;rw[Sf,d7,lE];show bnd (f [mk x] h) (AM (d7 f 1 (r.map mk)))=_;rw[e1,d9,wm,e2,d9,tE,SC];cases g x<;>rfl
def gn:Fn:=⟨["_law_script","_law_at"],["_law_script","_law_at"], (.ret (.y (.aB ai (Z2 (.j (.str "a")) (.j (.str "b")) (.j (.str "c")) (.j (.str "f")) (.j (.int 0)) (.j (.int 1)) (.j (.int 2)) (.j (.int 3)))) (.call "_law_drawn" (Z7 (.v 0) (.v 1) (.j (.int 8))))))⟩
def kE:Fn:=⟨["_law_state","_law_thing_here"],["_law_state","_law_thing_here"], (.seq (.v (.bi .isStr ai (Z9 (.v 1))) (.ret (.y (.y (.v 0) (.j (.int 1))) (.me .sindex (.j (.str "abcdef")) (Z9 (.v 1))))) .nil) (.ret (.y (.y (.v 0) (.j (.int 2))) (.v 1))))⟩
section
variable{c:ay}{T:FK->Option Fn}{G:ay->Option W}
def i8(P:Prg T G)(k:Nat)(i:Int)(h:HH):runN T G (k+1) "is_name" [.p (.int i)] h=aa (.p (.bl ai),h):=by rw[run_eq P.is_name rfl];simp[iI,P.LETTERS,cX]
def uw(P:TpP c T G)(C:ThP T)(k:Nat){i:Nat}(hi:i<4)(h:HH):runN T G (k+2) "is_cell" [.p (.int i)] h=aa (.p (.bl ah),h):=by
 rw[run_eq C.is_cell rfl];have w:=jz P k i h;have q:(i:Int)<4:=by lia
 have B:(0:Int)<=(i:Int):=by lia
 simp[jA,w,P.prg.CELL_COUNT,q,B,cX]
def jF(P:TpP c T G)(C:ThP T)(k:Nat)(th:Th)(h:HH):runN T G (k+3) "check_thing" [.p th.enc] h=aa (.p .aD,h):=by
 rw[run_eq C.check rfl];cases th with
 |nm x =>
  have n:=jV P.prg (k+1) x h;simp[fq,Th.enc,n,cX]
 |cl i q =>
  have n:=i8 P.prg (k+1) i h;have B:=uw P C k q h;simp[fq,Th.enc,n,B,cX]
def qa(P:TpP c T G)(C:ThP T)(k:Nat){st:St}(q:st.ok)(th:Th)(h:HH):runN T G (k+4) "worth_in" [.p st.enc,.p th.enc] h=aa (.p (.int (th.val st)),h):=by
 cases th with
 |nm x=>exact lT P.prg (k+2) st q x h
 |cl i B =>
  rw[run_eq P.prg.worth_in rfl];have n:=i8 P.prg (k+2) i h;have D:=jF P C k (.cl i B) h;have ix:dI (.aC (cV st.cells)) (.int (i:Int))=aa (.int (st.cells.getD i 0)):=by
   show atP _ _=_;rw[g8];have:i<st.cells.length:=by rw[q.clen];exact B
   simp[cV,RY this]
  have J:dI st.enc (.int 2)=aa (.aC (cV st.cells)):=rfl;simp only[Th.enc]at D;simp[-gW,gO,Th.enc,Th.val,n,D,P.prg.CELLS,J,ix,cX]
def pB(P:TpP c T G)(L:LdP T G)(k:Nat){st:St}(q:st.ok)(th:Th)(v:Int)(h:HH):runN T G (k+3) "with_thing" [.p st.enc,.p th.enc,.p (.int v)] h=aa (.p (th.put st v).enc,h):=by
 rw[run_eq L.with_thing rfl];cases th with
 |nm x =>
  have w:=i7 P.prg k st q x v h;have i:=jV P.prg (k+1) x h;rw[St.enc]at w;simp[fG,Th.enc,i,P.prg.NAMES,w,cX,St.enc,Th.put]
 |cl j B =>
  have w:=iL P.prg (k+1) (cV st.cells) j (by rw[iM,q.clen];exact B) (by rw[iM,q.clen];lia) (.int v) h;have i:=i8 P.prg (k+1) (j:Int) h;simp[fG,Th.enc,i,P.prg.NAMES,P.prg.CELLS,w,cX,St.enc,Th.put];exact(V2).symm
def CY{st:St}(B:st.ok)(x:Nm):dI (.aC (cV st.names)) (.int x.ix)=aa (.int (st.names.getD x.ix 0)):=by
 have q:x.ix<st.names.length:=by rw[B.nlen];exact x.Cq
 rw[gW,g8];simp[cV,q]
def iC(L:Lw T)(ns:List Int)(D:ns.length<=1000)(q many:Int)(B:0<many):∃z:Nat,(z:Int)<many/\∀k h,runN T G (k+2) "_law_drawn" [.p (.aB (cV ns)),.p (.int q),.p (.int many)] h=aa (.p (.int (z:Int)),h):=by
 have M:=fS ns q B;have J:=fT ns q B;refine⟨(drw ns q many).toNat,by omega,λk h=>?_⟩;have:=fV (G:=G) L k ns D q many B h;rw[this];congr 4
 omega
def qF(L:Lw T)(D:T "_law_thing"=aa gn)(ns:List Int)(B:ns.length<=1000)(p:Int):∃th:Th,∀k h,runN T G (k+3) "_law_thing" [.p (.aB (cV ns)),.p (.int p)] h=aa (.p th.enc,h):=by
 obtain⟨z,M,J⟩:=iC (G:=G) L ns B p 8 (by decide);have q:∃th:Th,dI (.aB [.str "a",.str "b",.str "c",.str "f",.int 0,.int 1,.int 2,.int 3]) (.int (z:Int))=aa th.enc:=by
  have:z=0\/z=1\/z=2\/z=3\/z=4\/z=5\/z=6\/z=7:=by omega
  rcases this with rfl|rfl|rfl|rfl|rfl|rfl|rfl|rfl
  exact⟨.nm .a,rfl⟩;exact⟨.nm .b,rfl⟩;exact⟨.nm .c,rfl⟩;exact⟨.nm .f,rfl⟩;exact⟨.cl 0 (by decide),rfl⟩;exact⟨.cl 1 (by decide),rfl⟩;exact⟨.cl 2 (by decide),rfl⟩;exact⟨.cl 3 (by decide),rfl⟩
 obtain⟨th,e⟩:=q;refine⟨th,λk h=>?_⟩;rw[run_eq D rfl];have d:=J k h;simp[-dJ,gn,d,e,cX]
def JX(D:T "_law_of"=aa kE){st:St}(B:st.ok)(th:Th)(k:Nat)(h:HH):runN T G (k+1) "_law_of" [.p st.enc,.p th.enc] h=aa (.p (.int (th.val st)),h):=by
 cases th with
 |nm x =>
  have e:=pZ x;have q:=CY B x;refine Ct D rfl (JF rfl ?_);simp[-gW,-Uh,Th.enc,e,q,Th.val,ix0,ix1]
 |cl i L =>
  have J:i<st.cells.length:=by rw[B.clen];exact L
  have q:dI (.aC (cV st.cells)) (.int (i:Int))=aa (.int (st.cells.getD i 0)):=by rw[gW,g8];simp[cV,J]
  exact Ct D rfl ((Nh rfl).trans (kU (Ni (d:=.aC (cV st.cells)) (d':=.int i) rfl rfl q)))
end
def gq:Fn:=⟨["self","program","asked","most","state"],["self","program","asked","most","state"], (.seq (.ex (.sup "Tape" (Z5 (.v 0) (.v 1) (.v 2) (.j (.int 1)) (.v 3)))) (.seq (.setf (.v 0) "kept" (.aB ah (Z9 (.v 4)))) (.setf (.v 0) "front" (.v 4))))⟩
def iw:Fn:=⟨["self","program","asked","most"],["self","program","asked","most"], (.seq (.setf (.v 0) "program" (.v 1)) (.seq (.setf (.v 0) "asked" (.bi .list ai (Z9 (.v 2)))) (.seq (.setf (.v 0) "most" (.v 3)) (.seq (.setf (.v 0) "origins" (.aB ah (Z9 (.j .aD)))) (.setf (.v 0) "branches" (.obl (.make "Branch" (Z6 (.v 1) (.v 2) (.v 3) (.call "begun" .nil)))))))))⟩
def iy:Fn:=⟨["self","run","moment","thing","worth"],["self","run","moment","thing","worth","state"], (.seq (.set 5 (.aF (.v 0) "at" (Z8 (.v 1) (.v 2)))) (.seq (.ex (.call "check_thing" (Z9 (.v 3)))) (.seq (.ex (.me .append (.i (.v 0) "origins") (Z9 (.aC (Z8 (.v 1) (.v 2)))))) (.seq (.ex (.oba (.i (.v 0) "branches") (.make "Branch" (Z6 (.i (.v 0) "program") (.i (.v 0) "asked") (.bin .sub (.i (.v 0) "most") (.v 2)) (.call "with_thing" (Z7 (.v 5) (.v 3) (.v 4))))))) (.ret (.bin .sub (.obn (.i (.v 0) "branches")) (.j (.int 1))))))))⟩
def jB:Fn:=⟨["self","run","moment"],["self","run","moment","holder","branch","number"], (.seq (.ex (.aF (.v 0) "check_run" (Z9 (.v 1)))) (.seq (.set 3 (.aF (.v 0) "holder" (Z8 (.v 1) (.v 2)))) (.seq (.set 4 (.obi (.i (.v 0) "branches") (.v 3))) (.seq (.set 5 (.bin .sub (.v 2) (.aF (.v 0) "first" (Z9 (.v 3))))) (.seq (.v (.not (.aF (.v 4) "has" (Z9 (.v 5)))) .bad .nil) (.ret (.aF (.v 4) "at" (Z9 (.v 5)))))))))⟩
def iY:Fn:=⟨["self","run"],["self","run"], (.seq (.ex (.aF (.v 0) "check_run" (Z9 (.v 1)))) (.ret (.bin .add (.aF (.v 0) "first" (Z9 (.v 1))) (.aF (.obi (.i (.v 0) "branches") (.v 1)) "end" .nil))))⟩
def gr:Fn:=⟨["self","run"],["self","run"], (.seq (.ex (.aF (.v 0) "check_run" (Z9 (.v 1)))) (.ret (.y (.i (.v 0) "origins") (.v 1))))⟩
noncomputable def ptC:E:=(.z .ne (.y (.v 2) (.neg (.j (.int 1)))) (.j (.int 0)))
def ptB:S:=(.ex (.me .append (.v 2) (Z9 (.y (.y (.i (.v 0) "origins") (.y (.v 2) (.neg (.j (.int 1))))) (.j (.int 0))))))
def iz:Fn:=⟨["self","run"],["self","run","runs"], (.seq (.ex (.aF (.v 0) "check_run" (Z9 (.v 1)))) (.seq (.set 2 (.aB ah (Z9 (.v 1)))) (.seq (.j ptC ptB) (.ret (.stp ai (-1) (.v 2))))))⟩
noncomputable def cnC:E:=(.z .eq (.y (.y (.i (.v 1) "origins") (.v 0)) (.j (.int 0))) (.v 2))
def gD:Fn:=⟨["self","run"],["self","run"], (.seq (.ex (.aF (.v 0) "check_run" (Z9 (.v 1)))) (.ret (.comp ai .rng2 (Z8 (.j (.int 1)) (.bi .len ai (Z9 (.i (.v 0) "origins")))) ["child"] [(0,"self"),(1,"run")] (Z9 cnC) (.v 0))))⟩
def eY:Fn:=⟨["self","run"],["self","run"], (.v (.or (.not (.call "is_whole" (Z9 (.v 1)))) (.or (.z .lt (.v 1) (.j (.int 0))) (.z .ge (.v 1) (.obn (.i (.v 0) "branches"))))) .bad .nil)⟩
def fH:Fn:=⟨["self","run"],["self","run"], (.ret (.ite (.z .eq (.v 1) (.j (.int 0))) (.j (.int 0)) (.y (.y (.i (.v 0) "origins") (.v 1)) (.j (.int 1)))))⟩
def hdC:E:=(.and (.z .ne (.v 1) (.j (.int 0))) (.z .lt (.v 2) (.aF (.v 0) "first" (Z9 (.v 1)))))
noncomputable def hdB:S:=(.set 1 (.y (.y (.i (.v 0) "origins") (.v 1)) (.j (.int 0))))
def gu:Fn:=⟨["self","run","moment"],["self","run","moment"], (.seq (.j hdC hdB) (.ret (.v 1)))⟩
structure TrP(T:FK->Option Fn)(G:ay->Option W):Prop where
 tp:TpP "Branch" T G
 en:TpM "Branch" T
 tin:T (.m "Tape" "__init__")=aa gk
 bin:T (.m "Branch" "__init__")=aa gq
 init:T (.m "Tree" "__init__")=aa iw
 part:T (.m "Tree" "part")=aa iy
 at_:T (.m "Tree" "at")=aa jB
 end_:T (.m "Tree" "end")=aa iY
 check_run:T (.m "Tree" "check_run")=aa eY
 first:T (.m "Tree" "first")=aa fH
 holder:T (.m "Tree" "holder")=aa gu
 th:ThP T
 ld:LdP T G
structure Nd where
 par:Nat
 fi:Nat
 s0:St
 e:Nat
 f:Nat->St
noncomputable def Nd.en(d:Nd):Nat:=d.fi+d.e
structure Tr where
 p:Pg
 aG:List Int
 most:Nat
 ds:List Nd
noncomputable def Nd.org(d:Nd):D:=.aC [.int d.par,.int d.fi]
def gS(ds:List Nd):List D:=.aD::ds.tail.map Nd.org
def CZ{ds:List Nd}{i:Nat}{d:Nd}(h:ds[i]?=aa d)(hi:0<i):(gS ds)[i]?=aa d.org:=by
 cases i with
 |zero=>exact bL hi (To _)
 |succ i =>
  cases ds with
  |nil=>simp at h
  |cons x r =>
   simp only[XU]at h;simp[gS,h]
def lW{ds:List Nd}(h:ds≠[]):(gS ds).length=ds.length:=by
 cases ds with
 |nil=>exact bL rfl h|cons x r=>simp[gS]
def C1{ds:List Nd}(h:ds≠[])(d:Nd):gS (ds++[d])=gS ds++[d.org]:=by
 cases ds with
 |nil=>exact bL rfl h|cons x r=>simp[gS]
structure Own(t:Tr)(i:Nat)(d:Nd):Prop where
 run:Run d.s0 t.p t.aG (t.most-d.fi) d.e
 at0:At d.fi d.s0
 le:d.fi<=t.most
 own:∀k,k<=d.e->d.f (d.fi+k)=itr d.s0 t.p t.aG k
 zero:i=0->d.fi=0/\d.s0=St.zero
 par:0<i->∃q,t.ds[d.par]?=aa q/\d.par<i/\d.fi<=q.en/\∀m,m<d.fi->d.f m=q.f m
 put:0<i->∀q,t.ds[d.par]?=aa q->∃(th:Th) (v:Int),d.s0=th.put (q.f d.fi) v
structure Wf(t:Tr):Prop where
 ok:Pg.ok t.p
 ask:Ask t.aG
 m1:t.most<=100
 l1:t.ds.length<=100
 l0:t.ds≠[]
 each:∀i d,t.ds[i]?=aa d->Own t i d
theorem xH{s0:St}{p:Pg}{aG:List Int}{most e j:Nat}(q:Pg.ok p)(B:Ask aG)(D:At j s0)(R:Run s0 p aG most e):∀i,i<=e->At (j+i) (itr s0 p aG i)
 |0,_=>D|i+1,h=>xm q B (xH q B D R i (by lia)) (R.on i (by lia))
theorem Wf.hold{t:Tr}(W:Wf t){m:Nat}:∀(n i:Nat)(d:Nd),i<=n->t.ds[i]?=aa d->m<=d.en->∃(j:Nat) (q:Nd),t.ds[j]?=aa q/\q.fi<=m/\m<=q.en/\d.f m=itr q.s0 t.p t.aG (m-q.fi)/\At m (d.f m)
 |n,i,d,hn,h,hm=>by
  have O:=W.each i d h
  by_cases c:d.fi<=m
  ·have e1:=O.own (m-d.fi) (by unfold Nd.en at hm;lia);rw[show d.fi+(m-d.fi)=m by lia]at e1;refine⟨i,d,h,c,hm,e1,?_⟩;rw[e1];have:=xH W.ok W.ask O.at0 O.run (m-d.fi) (by unfold Nd.en at hm;lia);rw[show d.fi+(m-d.fi)=m by lia]at this;exact this
  ·have D:0<i:=by
    rcases T7 i with z|z
    have:=(O.zero z).1;lia;exact z
   obtain⟨q,L,b,a,J⟩:=O.par D;cases n with
   |zero=>lia
   |succ n =>
    obtain⟨j,B,Z,Y,V,U,M⟩:=W.hold (m:=m) n d.par q (by lia) L (by lia);rw[J m (by lia)];exact⟨j,B,Z,Y,V,U,M⟩
def Wf.at_{t:Tr}(W:Wf t){m i:Nat}{d:Nd}(h:t.ds[i]?=aa d)(q:m<=d.en):At m (d.f m):=by obtain⟨_,_,_,_,_,_,a⟩:=W.hold i i d (R0 _) h q;exact a
def Wf.C2{t:Tr}(W:Wf t){i:Nat}{d:Nd}(h:t.ds[i]?=aa d):d.en<=t.most:=by have O:=W.each i d h;have:=O.run.le;have:=O.le;unfold Nd.en;lia
def tfs(t:Tr)(ro rb:Nat):List (ay×W):=[("program",.p (dQ t.p)),("asked",.p (.aB (cV t.aG))),("most",.p (.int t.most)),("origins",.r ro),("branches",.r rb)]
section
variable(t:Tr)(ro rb:Nat)
@[simp]theorem JY:dP "program" (tfs t ro rb)=aa (.p (dQ t.p)):=by simp[tfs]
@[simp]theorem Nr:dP "asked" (tfs t ro rb)=aa (.p (.aB (cV t.aG))):=by simp[tfs]
@[simp]theorem OJ:dP "most" (tfs t ro rb)=aa (.p (.int t.most)):=by simp[tfs]
@[simp]theorem JZ:dP "origins" (tfs t ro rb)=aa (.r ro):=by simp[tfs]
@[simp]theorem GY:dP "branches" (tfs t ro rb)=aa (.r rb):=by simp[tfs]
def gw{m:String}(h:(["program","asked","most","origins","branches"]:List String).contains m=ai):dP m (tfs t ro rb)=af:=by simp only[YT,List.contains_nil,Vp,Yq,bS,ne_eq]at h;obtain⟨L,J,D,B,q⟩:=h;simp[tfs,L,J,D,B,q]
@[simp]theorem F5:dP "check_run" (tfs t ro rb)=af:=gw t ro rb rfl
@[simp]theorem Nt:dP "first" (tfs t ro rb)=af:=gw t ro rb rfl
@[simp]theorem K0:dP "holder" (tfs t ro rb)=af:=gw t ro rb rfl
@[simp]theorem RE:dP "at" (tfs t ro rb)=af:=gw t ro rb rfl
@[simp]theorem Qs:dP "end" (tfs t ro rb)=af:=gw t ro rb rfl
@[simp]theorem OL:dP "part" (tfs t ro rb)=af:=gw t ro rb rfl
@[simp]theorem K1:dP "parent" (tfs t ro rb)=af:=gw t ro rb rfl
@[simp]theorem OM:dP "path" (tfs t ro rb)=af:=gw t ro rb rfl
@[simp]theorem GZ:dP "children" (tfs t ro rb)=af:=gw t ro rb rfl
end
noncomputable abbrev Bx:=Nat×Nat×Tp
noncomputable abbrev Pts:=Nat->Option Cl
structure jg(Pt:Pts)(h:HH)(n:Nat)(t:Tr)(ro rb:Nat)(bs:List Bx):Prop where
 ob:oat h n=aa (Sn "Tree",tfs t ro rb)
 og:lat h ro=aa (gS t.ds)
 br:bat h rb=aa (bs.map (·.1))
 len:bs.length=t.ds.length
 tp:∀(i:Nat)(b:Bx)(d:Nd),bs[i]?=aa b->t.ds[i]?=aa d->TAt "Branch" h b.1 b.2.1 b.2.2/\TI d.s0 b.2.2 d.e 1/\b.2.2.p=t.p/\b.2.2.aG=t.aG
 nd1:(bs.map (·.1)).Nodup
 nd2:(ro::bs.map (·.2.1)).Nodup
 pt:∀i c,Pt i=aa c->h[i]?=aa c/\i≠n/\i≠ro/\i≠rb/\∀b∈bs,i≠b.1/\i≠b.2.1
inductive eH(Pt:Pts)(h:HH)(n:Nat)(t:Tr)(ro rb:Nat):Prop
 |mk(bs:List Bx)(a:jg Pt h n t ro rb bs)
def rS{h:HH}{n:Nat}{q:List Nat}(e:bat h n=aa q):n<h.length:=by
 unfold bat at e;rcases Sq n h.length with z|z
 exact z;rw[Si z]at e;exact fP e
def vC{h h':HH}{i:Nat}(e:h'[i]?=h[i]?):bat h' i=bat h i:=by unfold bat;rw[e]
def xJ{h:HH}{n r:Nat}{q:ay×List (ay×W)}{xs:List Nat}(e:oat h n=aa q)(e':bat h r=aa xs):r≠n:=by
 rintro rfl
 unfold oat at e;unfold bat at e';cases g:h[r]? with
 |none=>rw[g]at e;exact fP e|some c=>rw[g]at e e';cases c<;>simp[mR]at e e'
def xK{h:HH}{n r:Nat}{q:List D}{xs:List Nat}(e:lat h n=aa q)(e':bat h r=aa xs):r≠n:=by
 rintro rfl
 unfold lat at e;unfold bat at e';cases g:h[r]? with
 |none=>rw[g]at e;exact fP e|some c=>rw[g]at e e';cases c<;>simp[mR]at e e'
def F6{h:HH}{n:Nat}(hn:n<h.length)(c:Cl):bat (h.set n c) n=mR c:=by unfold bat;rw[SN hn];rfl
def vD{h:HH}{n i:Nat}(hn:i≠n)(c:Cl):bat (h.set n c) i=bat h i:=by unfold bat;rw[Sy (Td hn)]
def F7{h g:HH}{i:Nat}(hi:i<h.length):bat (h++g) i=bat h i:=vC (RU hi)
def fU{q:Type}{l:List q}{i:Nat}(h:i<l.length):∃x,l[i]?=aa x:=⟨_,RY h⟩
def dD{q:Type}{l:List q}{i:Nat}{x:q}(h:l[i]?=aa x):i<l.length:=by
 rcases Sq i l.length with z|z
 exact z;rw[Si z]at h;exact fP h
def pC{q:Type}{l:List q}(B:l.Nodup){i j:Nat}{x:q}(a:l[i]?=aa x)(b:l[j]?=aa x):i=j:=by rw[RY (dD a)]at a;rw[RY (dD b)]at b;exact(WV B).mp ((Sa a).trans (Sa b).symm)
def zw{q:Type}{l:List q}(U:l.Nodup)(i:Nat){y:q}(M:∀(j:Nat)(x:q),l[j]?=aa x->j≠i->x≠y):(l.set i y).Nodup:=by
 refine List.pairwise_iff_getElem.mpr λa b J B D=>?_;rw[TH]at J B;rw[List.getElem_set,List.getElem_set]
 by_cases L:i=a
 ·rw[bJ L,bK (by lia)];exact Td (M b _ (RY B) (by lia))
 ·rw[bK L]
  by_cases O:i=b
  ·rw[bJ O];exact M a _ (RY J) (Td L)
  ·rw[bK O];exact List.pairwise_iff_getElem.mp U a b J B D
def jg.step{Pt:Pts}{h:HH}{n:Nat}{t:Tr}{ro rb:Nat}{bs:List Bx}(A:jg Pt h n t ro rb bs){i:Nat}{b:Bx}{d:Nd}(D:bs[i]?=aa b)(u:t.ds[i]?=aa d){h':HH}{J:Nat}{t':Tp}(g:Go "Branch" b.1 h b.2.1 b.2.2 h' J t')(I:TI d.s0 t' d.e 1)(s:Sm8 b.2.2 t'):
 jg Pt h' n t ro rb (bs.set i (b.1,J,t')):=by
 have X:=dD D;obtain⟨U,a2,a3,a4⟩:=A.tp i b d D u;have R:n≠b.1:=by intro z;have:=A.ob;rw[z,U.ob]at this;have:=bR (λq:Option (ay×List (ay×W))=>q.map (·.1)) this;simp at this
 have Q:n≠b.2.1:=lU A.ob U.li;have hn:=gY A.ob;have e1:h'[n]?=h[n]?:=g.fr n R Q hn;have ob:ro≠b.1:=(lU U.ob A.og).symm;have S:b.2.1∈bs.map (·.2.1):=List.mem_map.mpr ⟨b,Sg D,rfl⟩;have L:ro≠b.2.1:=λz=>(List.nodup_cons.mp A.nd2).1 (by rw[z];exact S);have e2:h'[ro]?=h[ro]?:=g.fr ro ob L (gj A.og);have e3:h'[rb]?=h[rb]?:=g.fr rb (xJ U.ob A.br) (xK U.li A.br) (rS A.br);have r:∀(f:Bx->Nat)(x:Bx),f x=f b->(bs.set i x).map f=bs.map f:=λf x B=>by
  rw[V2,B];have:(bs.map f)[i]?=aa (f b):=by rw[Sv,D];rfl
  have M:=dD this;rw[RY M]at this;rw[←Sa this];exact List.set_getElem_self M
 have Z:∀(j:Nat)(x:Bx),bs[j]?=aa x->x.2.1<h.length:=λj x B=>by obtain⟨y,O⟩:=fU (l:=t.ds) (by rw[←A.len];exact dD B);exact gj (A.tp j x y B O).1.li
 refine⟨(j0 e1).trans A.ob,(kY e2).trans A.og,?_,by rw[TH];exact A.len,λj x y B O=>?_,?_,?_,λj c k=>?_⟩;rw[vC e3,A.br,r (·.1) (b.1,J,t') rfl]
 ·by_cases c:j=i
  ·subst c;rw[SN X]at B;cases B;rw[u]at O;cases O;exact⟨g.b,I,s.p.trans a3,s.aG.trans a4⟩
  ·rw[Sy (Td c)]at B;obtain⟨H,G,F,E⟩:=A.tp j x y B O;have C:x.1≠b.1:=λz=>c (pC A.nd1 (i:=j) (j:=i) (x:=b.1) (by rw[Sv,B];exact bR aa z) (by rw[Sv,D];rfl));have w:x.2.1≠b.2.1:=λz=>c (pC (List.nodup_cons.mp A.nd2).2 (i:=j) (j:=i) (x:=b.2.1) (by rw[Sv,B];exact bR aa z) (by rw[Sv,D];rfl));exact⟨(g.other H C w).1,G,F,E⟩
 rw[r (·.1) (b.1,J,t') rfl];exact A.nd1
 ·have a:∀(j:Nat)(x:Nat),(ro::bs.map (·.2.1))[j]?=aa x->j≠i+1->x≠J:=λj x B k=>by
   have v:x<h.length/\x≠b.2.1:=by
    cases j with
    |zero=>cases B;exact⟨gj A.og,L⟩
    |succ j =>
     rw[XU,Sv]at B;cases Y:bs[j]? with
     |none=>rw[Y]at B;exact fP B
     |some y =>
      rw[Y]at B;cases B;exact⟨Z j y Y,λz=>k (by rw[pC (List.nodup_cons.mp A.nd2).2 (i:=j) (j:=i) (x:=b.2.1) (by rw[Sv,Y];exact bR aa z) (by rw[Sv,D];rfl)])⟩
   rcases g.len with⟨_,z⟩|z
   rw[z];exact v.2;lia
  have:=zw A.nd2 (i+1) a;rw[List.set_cons_succ]at this;rw[V2];exact this
 ·obtain⟨o,P,N,K,m⟩:=A.pt j c k;have V:=m b (Sg D);have T:=dD o;refine⟨(g.fr j V.1 V.2 T).trans o,P,N,K,λx B=>?_⟩;rcases US B with q|q
  exact m x q
  ·subst q;refine⟨V.1,?_⟩;rcases g.len with⟨_,z⟩|z
   show j≠J;rw[z];exact V.2;show j≠J;lia
def mJ(h:HH)(d:D)(h':HH):∃h2,fin h (.p d) h'=aa (.p d,h2)/\(h2=h'\/h2=h):=by
 unfold fin
 by_cases c:h'.length=h.length
 rw[bJ c];exact⟨h',rfl,.inl rfl⟩
 ·rw[bK c]
  by_cases q:h'.take h.length=h
  rw[bJ q];exact⟨h,rfl,.inr rfl⟩;rw[bK q];exact⟨h',rfl,.inl rfl⟩
section
variable{T:FK->Option Fn}{G:ay->Option W}{Pt:Pts}{h:HH}{n:Nat}{t:Tr}{ro rb:Nat}{bs:List Bx}
def fJ(P:TrP T G)(W:Wf t)(A:jg Pt h n t ro rb bs)(k:Nat){i:Nat}(hi:i<t.ds.length):runN T G (k+2) (.m "Tree" "check_run") [.o n,.p (.int i)] h=aa (.p .aD,h):=by
 rw[run_eq P.check_run rfl];have w:=jz P.tp k i h;have D:¬((i:Int)<0):=by lia
 have l1:=W.l1;have l:=A.len;have B:¬((bs.length:Int)<=(i:Int)):=by lia
 have q:bs.length<=100000:=by lia
 simp[eY,w,D,A.ob,A.br,B,q,cX]
def kF(P:TrP T G)(W:Wf t)(A:jg Pt h n t ro rb bs)(k:Nat){i:Nat}{d:Nd}(q:t.ds[i]?=aa d):runN T G (k+1) (.m "Tree" "first") [.o n,.p (.int i)] h=aa (.p (.int d.fi),h):=by
 rw[run_eq P.first rfl];rcases T7 i with z|z
 ·subst z;have:=((W.each 0 d q).zero rfl).1;simp[fH,this,cX]
 ·have c:¬((i:Int)=0):=by lia
  have B:¬i=0:=by lia
  have ix:dI (.aB (gS t.ds)) (.int i)=aa d.org:=by rw[dJ,g8];exact CZ q z
  have ix2:dI d.org (.int 1)=aa (.int d.fi):=rfl;simp[-dJ,-gW,fH,c,B,A.ob,A.og,rd,ix,ix2,cX]
end
inductive zx(Pt:Pts)(x:Option (W×HH))(y:W)(n:Nat)(t:Tr)(ro rb:Nat):Prop
 |mk(h':HH)(q:x=aa (y,h'))(a:eH Pt h' n t ro rb)
section
variable{T:FK->Option Fn}{G:ay->Option W}{Pt:Pts}{h:HH}{n:Nat}{t:Tr}{ro rb:Nat}{bs:List Bx}
def rT{i:Nat}{d:Nd}(q:t.ds[i]?=aa d)(z:0<i):dI (.aB (gS t.ds)) (.int i)=aa d.org:=by rw[dJ,g8];exact CZ q z
def xM(P:TrP T G)(W:Wf t)(A:jg Pt h n t ro rb bs)(k:Nat){i m:Nat}{d:Nd}(q:t.ds[i]?=aa d):
 aL (runN T G (k+1)) G hdC [aa (.o n),aa (.p (.int i)),aa (.p (.int m))] h=aa (.p (.bl (decide (m<d.fi))),h):=by
 rcases T7 i with z|z
 ·subst z;have:=((W.each 0 d q).zero rfl).1;simp[hdC,this]
 ·have c:¬((i:Int)=0):=by lia
  have B:¬i=0:=by lia
  have f:=kF P W A k q;simp[hdC,c,B,A.ob,f]
def F8(P:TrP T G)(W:Wf t)(A:jg Pt h n t ro rb bs)(k m:Nat):∀(f i:Nat)(d:Nd),t.ds[i]?=aa d->m<=d.en->i<=f →
 ∃(j:Nat) (q:Nd),eX (aL (runN T G (k+1)) G hdC) (evS (runN T G (k+1)) G hdB) (f+1) [aa (.o n),aa (.p (.int i)),aa (.p (.int m))] h=aa (.nx [aa (.o n),aa (.p (.int j)),aa (.p (.int m))] h)/\t.ds[j]?=aa q/\q.fi<=m/\m<=q.en/\d.f m=q.f m:=by
 intro f
 induction f with
 |zero =>
  intro i d B D L;have z:i=0:=by lia
  subst z;have e:=((W.each 0 d B).zero rfl).1;have q:=xM P W A k (m:=m) B;rw[bN (by lia)]at q;refine⟨0,d,?_,B,by lia,D,rfl⟩;rw[eX,q,jo,om]
 |succ f J =>
  intro i d B D L;have q:=xM P W A k (m:=m) B
  by_cases c:m<d.fi
  ·have z:0<i:=by
    rcases T7 i with z|z
    have:=((W.each i d B).zero z).1;lia;exact z
   obtain⟨p,O,a,Z,M⟩:=(W.each i d B).par z;obtain⟨j,r,e1,e2,Y,V,U⟩:=J d.par p O (by lia) (by lia);refine⟨j,r,?_,e2,Y,V,(M m c).trans U⟩;rw[bO c]at q;have b:evS (runN T G (k+1)) G hdB [aa (.o n),aa (.p (.int i)),aa (.p (.int m))] h=aa (.nx [aa (.o n),aa (.p (.int d.par)),aa (.p (.int m))] h):=by have ix2:dI d.org (.int 0)=aa (.int d.par):=rfl;simp[-dJ,-gW,hdB,A.ob,A.og,rd,rT B z,ix2]
   rw[eX,q,jo,mj,b,gJ,e1]
  ·rw[bN c]at q;refine⟨i,d,?_,B,by lia,D,rfl⟩;rw[eX,q,jo,om]
def vE(P:TrP T G)(W:Wf t)(A:jg Pt h n t ro rb bs)(k m:Nat){i:Nat}{d:Nd}(B:t.ds[i]?=aa d)(D:m<=d.en):
 ∃(j:Nat) (q:Nd),runN T G (k+2) (.m "Tree" "holder") [.o n,.p (.int i),.p (.int m)] h=aa (.p (.int j),h)/\t.ds[j]?=aa q/\q.fi<=m/\m<=q.en/\d.f m=q.f m:=by
 have l1:=W.l1;have:=dD B;obtain⟨j,q,e1,e2⟩:=F8 P W A k m 99999 i d B D (by lia);refine⟨j,q,?_,e2⟩;rw[run_eq P.holder rfl];simp[gu,turns,e1,cX]
def C3(A:jg Pt h n t ro rb bs){j:Nat}{b:Bx}(q:bs[j]?=aa b):atP (bs.map (·.1)) (j:Int)=aa b.1:=by rw[g8,Sv,q];rfl
def ny(P:TrP T G)(W:Wf t)(A:jg Pt h n t ro rb bs)(k:Nat){i m:Nat}{d:Nd}(Y:t.ds[i]?=aa d)(u:m<=d.en):
 zx Pt (runN T G (k+12) (.m "Tree" "at") [.o n,.p (.int i),.p (.int m)] h) (.p (d.f m).enc) n t ro rb:=by
 have s:=dD Y;obtain⟨j,q,e1,D,e3,H,F⟩:=vE P W A (k+9) m Y u;have K:=fJ P W A (k+9) s;have r:=dD D;obtain⟨b,L⟩:=fU (l:=bs) (by rw[A.len];exact r);obtain⟨U,O,tp,c⟩:=A.tp j b q L D;have E:=kF P W A (k+10) D;have B:m-q.fi<=q.e:=by unfold Nd.en at H;lia
 obtain⟨h1,r1,V,a,M,Q,J,_⟩:=xE P.tp (k+2) U O (m-q.fi) (SK B O.run.le);rw[bO B]at a;obtain⟨w,X,S,Z,x,N,g,_⟩:=CW P.tp k M.b Q (m-q.fi) B;have R:=A.step L D (M.trans x) N (J.trans g);have en:d.f m=itr q.s0 V.p V.aG (m-q.fi):=by have:=(W.each j q D).own (m-q.fi) B;rw[show q.fi+(m-q.fi)=m by lia]at this;rw[F,this,J.p,J.aG,tp,c]
 rw[←en]at Z;have I:(m:Int)-(q.fi:Int)=((m-q.fi:Nat):Int):=by lia
 obtain⟨v,C,y⟩:=mJ h (d.f m).enc w;refine⟨v,?_,?_⟩
 ·rw[run_eq P.at_ rfl];have ix:=C3 A L;rw[jB];simp only[ff,Sf,Tc,Sh,SW];simp[-atP,A.ob,K,e1,A.br,ix,E,I,U.ob,GW,a,M.b.ob,Np,Z,C]
 ·rcases y with z|z
  rw[z];exact⟨_,R⟩;rw[z];exact⟨_,A⟩
def gT(P:TrP T G)(W:Wf t)(A:jg Pt h n t ro rb bs)(k:Nat){i:Nat}{d:Nd}(q:t.ds[i]?=aa d):
 zx Pt (runN T G (k+10) (.m "Tree" "end") [.o n,.p (.int i)] h) (.p (.int d.en)) n t ro rb:=by
 have J:=dD q;have f:=fJ P W A (k+7) J;obtain⟨b,B⟩:=fU (l:=bs) (by rw[A.len];exact J);obtain⟨D,L,tp,s⟩:=A.tp i b d B q;have a:=kF P W A (k+8) q;obtain⟨U,v,u,g,V,j,M,_⟩:=xG P.tp P.en k D L;have r:=A.step B q V j M;obtain⟨O,Z,Y⟩:=mJ h (.int d.en) U;have ix:=C3 A B;have c:(d.fi:Int)+(d.e:Int)=(d.en:Int):=by unfold Nd.en;lia
 refine⟨O,?_,?_⟩
 ·rw[run_eq P.end_ rfl,iY];simp only[ff,Sf,Tc,Sh,SW];simp[-atP,A.ob,f,a,A.br,ix,D.ob,GX,g,c,Z]
 ·rcases Y with z|z
  rw[z];exact⟨_,r⟩;rw[z];exact⟨_,A⟩
end
noncomputable def Tp.new(p:Pg)(aG:List Int)(s0:St)(most:Nat):Tp:=⟨p,aG,1,most,[s0],0,s0,0⟩
def C4{s0:St}{p:Pg}{e:Nat}(q:Pg.ok p)(D:Ask aG)(L:At 1000 s0)(R:Run s0 p aG most e)(J:most<=1000):TI s0 (Tp.new p aG s0 most) e 1 :=
 ⟨R,q,D,L,R0 1,by show 1<=1000;decide,J,Tu _,rfl,by simp[Tp.new],by simp[Tp.new],λj B=>by
  have:j=0:=by simpa [Tp.new]using B
  subst this;simp[Tp.new,itr],Tu _,⟨0,by simp[Tp.new],λz=>bL z (To _)⟩⟩
section
variable{T:FK->Option Fn}{G:ay->Option W}
def zy(P:TrP T G)(k:Nat)(q:ay)(p:Pg)(aG:List Int)(most:Nat)(h:HH):
 runN T G (k+2) (.m "Tape" "__init__") [.o h.length,.p (dQ p),.p (.aB (cV aG)),.p (.int 1),.p (.int most)] (h++[.o q []])=aa (.p .aD,h++[.o q ((Tp.new p aG St.zero most).fs (h.length+1)),.l [St.zero.enc]]):=by
 rw[run_eq P.tin rfl];have b:=mH P.tp.prg k;have J:(if(0:Int)>(most:Int)then(0:Int)else(most:Int))=(most:Int):=bK (by lia);have f:∀(c:Cl)(g:HH)(w:W),c≠.o q []->fin (h++[.o q []]) w (h++c::g)=aa (w,h++c::g):=λc g w D=>by refine j3 h.length (by simp) ?_ w;simp;exact D
 have B:=f (.o q ((Tp.new p aG St.zero most).fs (h.length+1))) [.l [St.zero.enc]] (.p .aD) (by simp[Tp.fs]);have fs:(Tp.new p aG St.zero most).fs (h.length+1)=([("program",.p (dQ p)),("asked",.p (.aB (cV aG))),("gap",.p (.int 1)),("most",.p (.int most)),("kept",.r (h.length+1)),("farthest",.p (.int 0)),("front",.p St.zero.enc),("now",.p (.int 0))]:List (ay×W)):=by simp[Tp.fs,Tp.new]
 rw[fs]at B⊢;rw[gk];simp only[ff,Sf,Tc,Sh,SW];simp[J,b,B]
def pF(P:TrP T G)(k:Nat)(p:Pg)(aG:List Int)(most:Nat)(s0:St)(h:HH):
 runN T G (k+3) (.m "Branch" "__init__") [.o h.length,.p (dQ p),.p (.aB (cV aG)),.p (.int most),.p s0.enc] (h++[.o "Branch" []])=aa (.p .aD,h++[.o "Branch" ((Tp.new p aG s0 most).fs (h.length+2)),.l [St.zero.enc],.l [s0.enc]]):=by
 rw[run_eq P.bin rfl];have b:=zy P k "Branch" p aG most h;have q:fin (h++[.o "Branch" []]) (.p .aD) (h++[.o "Branch" ((Tp.new p aG s0 most).fs (h.length+2)),.l [St.zero.enc],.l [s0.enc]])=aa (.p .aD,h++[.o "Branch" ((Tp.new p aG s0 most).fs (h.length+2)),.l [St.zero.enc],.l [s0.enc]]):=by refine j3 h.length (by simp) ?_ _;simp[Tp.fs]
 have fs:∀(s:St)(r:Nat),(Tp.new p aG s most).fs r=([("program",.p (dQ p)),("asked",.p (.aB (cV aG))),("gap",.p (.int 1)),("most",.p (.int most)),("kept",.r r),("farthest",.p (.int 0)),("front",.p s.enc),("now",.p (.int 0))]:List (ay×W)):=λs r=>by simp[Tp.fs,Tp.new]
 rw[fs]at q⊢;rw[fs]at b;rw[gq];simp only[ff,Sf,Tc,Sh,SW];simp[b,q]
end
def Tr.new(p:Pg)(aG:List Int)(most e:Nat):Tr:=⟨p,aG,most,[⟨0,0,St.zero,e,itr St.zero p aG⟩]⟩
def Nd.of(t:Tr)(i m:Nat)(d:Nd)(s0:St)(e:Nat):Nd:=⟨i,m,s0,e,λj=>if j<m then d.f j else itr s0 t.p t.aG (j-m)⟩
noncomputable def Tr.add(t:Tr)(x:Nd):Tr:={t with ds:=t.ds++[x]}
def J0{p:Pg}{e:Nat}(B:Pg.ok p)(J:Ask aG)(D:most<=100)(R:Run St.zero p aG most e):Wf (Tr.new p aG most e):=by
 refine⟨B,J,D,by simp[Tr.new],by simp[Tr.new],λi d q=>?_⟩;have z:i=0/\(⟨0,0,St.zero,e,itr St.zero p aG⟩:Nd)=d:=by
  cases i with
  |zero=>exact⟨rfl,by simpa [Tr.new]using q⟩|succ i=>simp[Tr.new]at q
 obtain⟨rfl,rfl⟩:=z;exact⟨R,rN,Tu _,λk _=>by show itr St.zero p aG (0+k)=_;rw[WS];rfl,λ_=>⟨rfl,rfl⟩,λz=>bL z (To _),λz=>bL z (To _)⟩
def Own.mono{t:Tr}{x:Nd}{i:Nat}{d:Nd}(O:Own t i d):Own (t.add x) i d :=
 ⟨O.run,O.at0,O.le,O.own,O.zero,λz=>by
  obtain⟨q,B,J⟩:=O.par z;exact⟨q,by show(t.ds++[x])[d.par]?=aa q;rw[RU (dD B)];exact B,J⟩,λz q D=>by
  obtain ⟨L,B,_⟩:=O.par z;have e:(t.ds++[x])[d.par]?=aa q:=D;rw[RU (dD B)] at e;exact O.put z q e⟩
def J1{t:Tr}(W:Wf t){i m e:Nat}{d:Nd}{s0:St}(D:t.ds[i]?=aa d)(L:m<=d.en)(Y:At m s0)(R:Run s0 t.p t.aG (t.most-m) e)(Z:t.ds.length<100){th:Th}{v:Int}(V:s0=th.put (d.f m) v):Wf (t.add (Nd.of t i m d s0 e)):=by
 refine⟨W.ok,W.ask,W.m1,by simp[Tr.add];lia,by simp[Tr.add],λj q J=>?_⟩;rcases Sq j t.ds.length with c|c
 ·have B:t.ds[j]?=aa q:=by have:(t.ds++[Nd.of t i m d s0 e])[j]?=aa q:=J;rw[RU c]at this;exact this
  exact(W.each j q B).mono
 ·have B:(t.ds++[Nd.of t i m d s0 e])[j]?=aa q:=J;have M:=dD B;have O:j=t.ds.length:=by simp at M;lia
  subst O;simp at B;subst B;refine⟨R,Y,SK L (W.C2 D),λk a=>?_,λz=>?_,λ_=>⟨d,?_,dD D,L,λx U=>bJ U⟩,λ_ q J=>?_⟩
  ·show(if m+k<m then d.f (m+k)else itr s0 t.p t.aG (m+k-m))=_;rw[bK (by lia),show m+k-m=k by lia];rfl
  exact bL (List.length_eq_zero_iff.mp z) W.l0
  ·show(t.ds++[Nd.of t i m d s0 e])[i]?=aa d;rw[RU (dD D)];exact D
  ·have e2:(t.ds++[Nd.of t i m d s0 e])[i]?=aa q:=J;rw[RU (dD D),D]at e2;cases e2;exact⟨th,v,V⟩
section
variable{T:FK->Option Fn}{G:ay->Option W}{Pt:Pts}
def C5(P:TrP T G)(k:Nat)(p:Pg)(aG:List Int)(most e:Nat)(h:HH):
 runN T G (k+4) (.m "Tree" "__init__") [.o h.length,.p (dQ p),.p (.aB (cV aG)),.p (.int most)] (h++[.o "Tree" []])=aa (.p .aD,h++[.o "Tree" (tfs (Tr.new p aG most e) (h.length+1) (h.length+5)),.l [.aD],.o "Branch" ((Tp.new p aG St.zero most).fs (h.length+4)),.l [St.zero.enc],.l [St.zero.enc],.b [h.length+2]]):=by
 rw[run_eq P.init rfl];have b:=mH P.tp.prg (k+2);have B:=pF P k p aG most St.zero (h++[.o "Tree" [("program",.p (dQ p)),("asked",.p (.aB (cV aG))),("most",.p (.int most)),("origins",.r (h.length+1))],.l [.aD]]);have q:fin (h++[.o "Tree" []]) (.p .aD) (h++[.o "Tree" (tfs (Tr.new p aG most e) (h.length+1) (h.length+5)),.l [.aD],.o "Branch" ((Tp.new p aG St.zero most).fs (h.length+4)),.l [St.zero.enc],.l [St.zero.enc],.b [h.length+2]])=aa (.p .aD,h++[.o "Tree" (tfs (Tr.new p aG most e) (h.length+1) (h.length+5)),.l [.aD],.o "Branch" ((Tp.new p aG St.zero most).fs (h.length+4)),.l [St.zero.enc],.l [St.zero.enc],.b [h.length+2]]):=by refine j3 h.length (by simp) ?_ _;simp[tfs]
 have fs:tfs (Tr.new p aG most e) (h.length+1) (h.length+5)=([("program",.p (dQ p)),("asked",.p (.aB (cV aG))),("most",.p (.int most)),("origins",.r (h.length+1)),("branches",.r (h.length+5))]:List (ay×W)):=rfl;rw[fs]at q⊢;rw[iw];simp only[ff,Sf,Tc,Sh,SW];simp only[Sz,Sh,SW,Tg,List.cons_append,UF]at B;simp[b,B,q]
def C6{p:Pg}{e:Nat}{h:HH}(J:Pg.ok p)(M:Ask aG)(U:most<=100)(R:Run St.zero p aG most e)(O:∀i c,Pt i=aa c->h[i]?=aa c):
 eH Pt (h++[.o "Tree" (tfs (Tr.new p aG most e) (h.length+1) (h.length+5)),.l [.aD],.o "Branch" ((Tp.new p aG St.zero most).fs (h.length+4)),.l [St.zero.enc],.l [St.zero.enc],.b [h.length+2]]) h.length (Tr.new p aG most e) (h.length+1) (h.length+5):=by
 refine⟨[(h.length+2,h.length+4,Tp.new p aG St.zero most)],⟨by simp[oat],by simp[lat,gS,Tr.new],by simp[bat],by simp[Tr.new],λi b d q B=>?_,by simp,by simp,λi c L=>?_⟩⟩
 ·have z:i=0:=by
   cases i with
   |zero=>rfl|succ i=>simp at q
  subst z;simp at q;subst q;simp[Tr.new]at B;subst B;exact⟨⟨by simp[oat],by simp[lat,Tp.new]⟩,C4 J M (rN.mono (by decide)) R (by lia),rfl,rfl⟩
 ·have e:=O i c L;have D:=dD e;refine⟨by rw[RU D];exact e,by lia,by lia,by lia,λb q=>?_⟩;simp at q;subst q;exact⟨by show i≠h.length+2;lia,by show i≠h.length+4;lia⟩
end
section
variable{T:FK->Option Fn}{G:ay->Option W}{Pt:Pts}{h:HH}{n:Nat}{t:Tr}{ro rb:Nat}{bs:List Bx}
def At.put{m:Nat}{st:St}(a:At m st){v:Int}(q:Wth v)(th:Th):At m (th.put st v):=by refine⟨Th.JV a.ok q th,?_,?_⟩;cases th<;>exact a.said;cases th<;>exact a.calls
def ptH(h1:HH)(t:Tr)(ro rb:Nat)(bs:List Bx)(x:Nd)(mo:Nat):HH :=
 (h1.set ro (Cl.l (gS t.ds++[x.org]))++[Cl.o "Branch" ((Tp.new t.p t.aG x.s0 mo).fs (h1.length+2)),Cl.l [St.zero.enc],Cl.l [x.s0.enc]]).set rb (Cl.b (bs.map (λb=>b.1)++[h1.length]))
def Nu{h1:HH}(W:Wf t)(A:jg Pt h1 n t ro rb bs){x:Nd}{mo:Nat}(I:TI x.s0 (Tp.new t.p t.aG x.s0 mo) x.e 1):
 jg Pt (ptH h1 t ro rb bs x mo) n (t.add x) ro rb (bs++[(h1.length,h1.length+2,Tp.new t.p t.aG x.s0 mo)]):=by
 have hn:=gY A.ob;have U:=gj A.og;have hrb:=rS A.br;have T:n≠ro:=lU A.ob A.og;have S:rb≠n:=xJ A.ob A.br;have R:rb≠ro:=xK A.og A.br;have L:∀i,i<h1.length->i≠ro->i≠rb->(ptH h1 t ro rb bs x mo)[i]?=h1[i]?:=λi hi c1 c2=>by unfold ptH;rw[Sy (Td c2),RU (by rw[TH];exact hi),Sy (Td c1)]
 have m:∀k,k<3->(ptH h1 t ro rb bs x mo)[h1.length+k]?=[Cl.o "Branch" ((Tp.new t.p t.aG x.s0 mo).fs (h1.length+2)),.l [St.zero.enc],.l [x.s0.enc]][k]?:=λk hk=>by unfold ptH;rw[Sy (by lia),SS (by rw[TH];lia),TH];congr 1;lia
 have D:∀(j:Nat)(b:Bx),bs[j]?=aa b->b.1<h1.length/\b.2.1<h1.length/\b.1≠ro/\b.1≠rb/\b.2.1≠ro/\b.2.1≠rb:=λj b B=>by obtain⟨y,O⟩:=fU (l:=t.ds) (by rw[←A.len];exact dD B);have M:=(A.tp j b y B O).1;exact⟨gY M.ob,gj M.li,lU M.ob A.og,(xJ M.ob A.br).symm,λz=>(List.nodup_cons.mp A.nd2).1 (by rw[←z];exact List.mem_map.mpr ⟨b,Sg B,rfl⟩),(xK M.li A.br).symm⟩
 refine⟨(j0 (L n hn T (Td S))).trans A.ob,?_,?_,by simp[Tr.add,A.len],λj b d B r=>?_,?_,?_,λj c V=>?_⟩
 ·unfold ptH;rw[kX (Td R),xB (by rw[TH];exact U),uq U,HX];show aa (gS t.ds++[x.org])=aa (gS (t.ds++[x]));rw[C1 W.l0]
 ·unfold ptH;rw[F6 (by simp;lia)];simp
 ·rcases Sq j bs.length with c|c
  ·rw[RU c]at B;have J:t.ds[j]?=aa d:=by have:(t.ds++[x])[j]?=aa d:=r;rw[RU (by rw[←A.len];exact c)]at this;exact this
   obtain⟨Z,C,w,v⟩:=A.tp j b d B J;obtain⟨Q,P,N,K,H,G⟩:=D j b B;exact⟨⟨(j0 (L _ Q N K)).trans Z.ob,(kY (L _ P H G)).trans Z.li⟩,C,w,v⟩
  ·have je:j=bs.length:=by have:=dD B;simp at this;lia
   subst je;simp at B;have J:(t.ds++[x])[bs.length]?=aa d:=r;rw[A.len]at J;simp at J;subst B J;have u:=m 0 (by decide);have s:=m 2 (by decide);exact⟨⟨by unfold oat;rw[show h1.length=h1.length+0 from rfl,u];rfl,by unfold lat;rw[s];rfl⟩,I,rfl,rfl⟩
 ·rw[Vv];refine List.nodup_append.mpr ⟨A.nd1,by simp,λa Y b B=>?_⟩;simp at B;subst B;obtain⟨y,O,rfl⟩:=List.mem_map.mp Y;obtain⟨j,V⟩:=Ur O;have:=(D j y V).1;lia
 ·rw[Vv,←List.cons_append];refine List.nodup_append.mpr ⟨A.nd2,by simp,λa Y b B=>?_⟩;simp at B;subst B;rcases List.mem_cons.mp Y with z|z
  lia
  ·obtain⟨y,O,rfl⟩:=List.mem_map.mp z;obtain⟨j,V⟩:=Ur O;have:=(D j y V).2.1;lia
 ·obtain⟨h,F,g,f,E⟩:=A.pt j c V;have X:=dD h;refine⟨(L j X g f).trans h,F,g,f,λb B=>?_⟩;rcases List.mem_append.mp B with q|q
  exact E b q
  ·simp at q;subst q;exact⟨by show j≠h1.length;lia,by show j≠h1.length+2;lia⟩
def C7(P:TrP T G)(W:Wf t)(A:jg Pt h n t ro rb bs)(k:Nat){i m:Nat}{d:Nd}(U:t.ds[i]?=aa d)(O:m<=d.en)(th:Th){v:Int}(H:Wth v){e:Nat}(R:Run (th.put (d.f m) v) t.p t.aG (t.most-m) e):
 zx Pt (runN T G (k+13) (.m "Tree" "part") [.o n,.p (.int i),.p (.int m),.p th.enc,.p (.int v)] h) (.p (.int t.ds.length)) n (t.add (Nd.of t i m d (th.put (d.f m) v) e)) ro rb:=by
 obtain⟨D,X,⟨q,B⟩⟩:=ny P W A k U O;have r:At m (d.f m):=W.at_ U O;have ml:=SK O (W.C2 U);have m1:=W.m1;have l1:=W.l1;have lb:=B.len;have I:TI (th.put (d.f m) v) (Tp.new t.p t.aG (th.put (d.f m) v) (t.most-m)) e 1:=C4 W.ok W.ask ((r.put H th).mono (by lia)) R (by lia);have J:=Nu W B (x:=Nd.of t i m d (th.put (d.f m) v) e) (mo:=t.most-m) I;refine⟨_,?_,⟨_,J⟩⟩;have hn:=gY B.ob;have K:=gj B.og;have M:=rS B.br;have F:n≠ro:=lU B.ob B.og;have n2:rb≠n:=xJ B.ob B.br;have E:rb≠ro:=xK B.og B.br;have Q:=jF P.tp P.th (k+9) th D;have y:(gS t.ds).length<100000:=by rw[lW W.l0];lia
 have C:oat (D.set ro (.l (gS t.ds++[.aC [.int i,.int m]]))) n=aa (Sn "Tree",tfs t ro rb):=(pq F _).trans B.ob;have b:bat (D.set ro (.l (gS t.ds++[.aC [.int i,.int m]]))) rb=aa (q.map (·.1)):=(vD E _).trans B.br;have N:(t.most:Int)-(m:Int)=((t.most-m:Nat):Int):=by lia
 have s:=pB P.tp P.ld (k+9) r.ok th v (D.set ro (.l (gS t.ds++[.aC [.int i,.int m]])));have br:=pF P (k+9) t.p t.aG (t.most-m) (th.put (d.f m) v) (D.set ro (.l (gS t.ds++[.aC [.int i,.int m]])));rw[TH]at br;have u:∀g:HH,bat (D.set ro (.l (gS t.ds++[.aC [.int i,.int m]]))++g) rb=aa (q.map (·.1)):=λg=>(F7 (by rw[TH];exact M)).trans b;have bl:q.length<100000:=by lia
 have c:=J.ob;have Y:=J.br;unfold ptH Nd.org Nd.of at c Y;have j:∀w,fin h w (ptH D t ro rb q (Nd.of t i m d (th.put (d.f m) v) e) (t.most-m))=aa (w,ptH D t ro rb q (Nd.of t i m d (th.put (d.f m) v) e) (t.most-m)):=λw=>by refine j3 ro (gj A.og) (λz=>?_) w;have a:=kY z;rw[A.og,J.og]at a;have Z:=bR Xe (Sa a);rw[lW W.l0,lW (by simp[Tr.add])]at Z;simp[Tr.add]at Z
 unfold ptH Nd.org Nd.of at j;unfold ptH Nd.org Nd.of;have lc:((q.map (·.1)++[D.length]).length:Int)-1=(t.ds.length:Int):=by simp;lia
 rw[run_eq P.part rfl,iy];simp only[ff,Sf,Tc,Sh,SW];have S:¬(100000<=q.length):=by lia
 have V:q.length+1<=100000:=by lia
 have L:(q.length:Int)=(t.ds.length:Int):=by lia
 simp only[Vv,Sf,Tc]at Y;simp[A.ob,X,Q,B.ob,B.og,rd,y,C,b,N,s,br,u,bl,V,c,Y,L,j,kO]
end
structure TrQ(T:FK->Option Fn):Prop where
 parent:T (.m "Tree" "parent")=aa gr
 path:T (.m "Tree" "path")=aa iz
 children:T (.m "Tree" "children")=aa gD
inductive Pth(t:Tr):Nat->List Nat->Prop
 |zero:Pth t 0 [0]
 |step{i:Nat}{d:Nd}{l:List Nat}(q:t.ds[i]?=aa d)(hi:0<i)(r:Pth t d.par l):Pth t i (i::l)
def Pth.len{t:Tr}(W:Wf t){i:Nat}{l:List Nat}(a:Pth t i l):l.length<=i+1:=by
 induction a with
 |zero=>exact R0 _
 |step B q r D =>
  obtain⟨_,_,J,_⟩:=(W.each _ _ B).par q;rw[Sh];lia
theorem Wf.pth{t:Tr}(W:Wf t):∀(n i:Nat)(d:Nd),i<=n->t.ds[i]?=aa d->∃l,Pth t i l
 |n,i,d,hn,hd=>by
  rcases T7 i with z|z
  subst z;exact⟨_,.zero⟩
  ·obtain⟨q,D,J,_⟩:=(W.each i d hd).par z;cases n with
   |zero=>lia
   |succ n =>
    obtain⟨l,B⟩:=W.pth n d.par q (by lia) D;exact⟨_,.step hd z B⟩
noncomputable def kids(t:Tr)(i:Nat):List Nat:=((Sk (t.ds.length-1)).map (·+1)).filter λj=>decide ((t.ds[j]?).map Nd.par=aa i)
def rV{t:Tr}(W:Wf t){i c:Nat}(h:c∈kids t i):i<c/\∃d,t.ds[c]?=aa d/\d.par=i:=by obtain⟨J,D⟩:=List.mem_filter.mp h;obtain⟨j,B,rfl⟩:=List.mem_map.mp J;have L:=List.mem_range.mp B;obtain⟨d,q⟩:=fU (l:=t.ds) (i:=j+1) (by lia);have e:=bP D;rw[q]at e;have e2:=Sa e;obtain⟨_,_,M,_⟩:=(W.each _ _ q).par (WT _);exact⟨by lia,d,q,e2⟩
section
variable{T:FK->Option Fn}{G:ay->Option W}{Pt:Pts}{h:HH}{n:Nat}{t:Tr}{ro rb:Nat}{bs:List Bx}
def F9(i:Nat)(d:Nd):D:=if i=0 then .aD else d.org
def Ga{i:Nat}{d:Nd}(q:t.ds[i]?=aa d):dI (.aB (gS t.ds)) (.int i)=aa (F9 i d):=by
 unfold F9;rcases T7 i with z|z
 subst z;rw[bJ rfl,dJ,g8];rfl;rw[bK (by lia)];exact rT q z
def vF(P:TrP T G)(Q:TrQ T)(W:Wf t)(A:jg Pt h n t ro rb bs)(k:Nat){i:Nat}{d:Nd}(q:t.ds[i]?=aa d):runN T G (k+3) (.m "Tree" "parent") [.o n,.p (.int i)] h=aa (.p (F9 i d),h):=by rw[run_eq Q.parent rfl];have B:=fJ P W A k (dD q);simp[-dJ,gr,A.ob,B,A.og,rd,Ga q,cX]
def mK(h:HH)(xs:List D):lat (h++[.l xs]) h.length=aa xs:=by simp[lat]
def J2(h:HH)(c q:Cl):(h++[c]).set h.length q=h++[q]:=by simp
def nA(xs:List D)(d:D):dI (.aB (xs++[d])) (.int (-1))=aa d:=by
 rw[dJ];show((place (xs++[d]).length (-1)).bind λj=>(xs++[d])[j]?)=aa d;have:place (xs++[d]).length (-1)=aa xs.length:=by unfold place;rw[bK (by decide),bJ (by simp;lia)];congr 1;simp;lia
 rw[this];simp
def Gb(P:TrP T G)(j:Wf t)(A:jg Pt h n t ro rb bs)(F:FK->List W->HH->Option (W×HH))(B:W){i:Nat}{l:List Nat}(c:Pth t i l):∀(pre:List Nat)(f:Nat),pre.length+i+1<=1000->i<=f →
 eX (aL F G ptC) (evS F G ptB) (f+1) [aa (.o n),aa B,aa (.r h.length)] (h++[.l (cW (pre++[i]))])=aa (.nx [aa (.o n),aa B,aa (.r h.length)] (h++[.l (cW (pre++l))])):=by
 have ob:∀g,oat (h++g) n=aa (Sn "Tree",tfs t ro rb):=λg=>(xC (gY A.ob)).trans A.ob;have og:∀g,lat (h++g) ro=aa (gS t.ds):=λg=>(xB (gj A.og)).trans A.og;have tst:∀(pre:List Nat)(i:Nat),aL F G ptC [aa (.o n),aa B,aa (.r h.length)] (h++[.l (cW (pre++[i]))])=aa (.p (.bl (!decide (i=0))),h++[.l (cW (pre++[i]))]):=λpre i=>by
  have e:cW (pre++[i])=cW pre++[.int i]:=by simp[cW]
  rw[e]
  by_cases z:i=0
  ·subst z;simp[-dJ,ptC,rd,mK,nA]
  ·have U:¬(i:Int)=0:=by lia
   simp[-dJ,ptC,rd,mK,nA,z,U]
 induction c with
 |zero =>
  intro pre f _ _;rw[eX,tst];rfl
 |@step i d l O M r a =>
  intro pre f k m;obtain⟨_,_,s,_⟩:=(j.each _ _ O).par M;have q:=tst pre i;rw[show(!decide (i=0))=ah by simp;lia]at q;have e:cW (pre++[i])=cW pre++[.int i]:=by simp[cW]
  have b:evS F G ptB [aa (.o n),aa B,aa (.r h.length)] (h++[.l (cW (pre++[i]))])=aa (.nx [aa (.o n),aa B,aa (.r h.length)] (h++[.l (cW ((pre++[i])++[d.par]))])):=by
   have e2:cW ((pre++[i])++[d.par])=cW pre++[.int i]++[.int d.par]:=by simp[cW]
   have ix2:dI d.org (.int 0)=aa (.int d.par):=rfl;have V:(cW pre++[D.int i]).length<100000:=by simp[cW];lia
   have J:dI (.aB (gS t.ds)) (.int i)=aa d.org:=rT O M;have Z:kO (.r h.length) (h++[.l (cW pre++[.int i])])=ah:=by simp[kO,mK]
   rw[e,e2];have Y:meW .append (.r h.length) [.p (.int d.par)] (h++[.l (cW pre++[.int i])])=aa (.p .aD,h++[.l (cW pre++[.int i]++[.int d.par])]):=by rw[iE,mK];show(if(cW pre++[D.int i]).length<lim then _ else af)=_;rw[bJ (show _<lim from V),J2]
   simp[-dJ,-gW,-iE,ptB,ob,og,rd,mK,nA,J,ix2,kMe,Z,Y]
  cases f with
  |zero=>lia
  |succ f =>
   have L:=a (pre++[i]) f (by simp;lia) (by lia);rw[eX,q,jo,mj,b,gJ,L];simp
def zA(xs:List D):mS (-1) xs=xs.reverse:=by unfold mS;rw[PySem.W.krv_bounds];show(VY ((xs.length:Int)-1) (-1) (-1)).filterMap (λi=>xs[i]?)=_;rw[PySem.W.krv_sliceRange,PySem.W.krv_range,List.filterMap_reverse];have:=PySem.W.krv_all xs.toArray;simp only[RZ,Yh]at this;rw[this]
def pG(P:TrP T G)(Q:TrQ T)(q:Wf t)(A:jg Pt h n t ro rb bs)(k:Nat){i:Nat}{l:List Nat}(hi:i<t.ds.length)(J:Pth t i l):runN T G (k+3) (.m "Tree" "path") [.o n,.p (.int i)] h=aa (.p (.aB (cW l.reverse)),h):=by
 rw[run_eq Q.path rfl];have L:=fJ P q A k hi;have l1:=q.l1;have B:=Gb P q A (runN T G (k+2)) (.p (.int i)) J [] 99999 (by simp;lia) (by lia);have e1:cW ([]++[i])=[.int i]:=rfl;rw[e1,UF]at B;have f:=lR h [.l (cW l)] (.aB (cW l.reverse));have D:mS (-1) (cW l)=cW l.reverse:=by rw[zA];simp[cW]
 rw[iz];simp only[ff,Sf,Tc,Sh,SW];simp[A.ob,L,turns,B,rd,mK,D,f]
def lX(P:TrP T G)(Q:TrQ T)(J:Wf t)(A:jg Pt h n t ro rb bs)(k:Nat){i:Nat}(hi:i<t.ds.length):runN T G (k+3) (.m "Tree" "children") [.o n,.p (.int i)] h=aa (.p (.aB (cW (kids t i))),h):=by
 rw[run_eq Q.children rfl];have f:=fJ P J A k hi;have l1:=J.l1;have L:=lW J.l0;have W:gH .rng2 [.int 1,.int ((gS t.ds).length:Int)]=aa (upto 1 (t.ds.length-1)):=by
  rw[mh,L];have c:((-100000<=(1:Int):Bool)&&((1:Int)<=100000:Bool)&&((-100000<=(t.ds.length:Int):Bool))&&(((t.ds.length:Int)<=100000:Bool)))=ah:=by simp only[RX,bM];lia
  rw[bJ c];congr 2;lia
 have ct:∀(j:Nat)(d:Nd),t.ds[j+1]?=aa d->aL (runN T G (k+2)) G cnC [aa (.p (.int ((1:Int)+(j:Int)))),aa (.o n),aa (.p (.int i))] h=aa (.p (.bl (decide (d.par=i))),h):=λj d B=>by
  have ix:=rT B (WT _);rw[show((j+1:Nat):Int)=1+(j:Int) by lia]at ix;have ix2:dI d.org (.int 0)=aa (.int d.par):=rfl;have q:((d.par:Int)==(i:Int))=decide (d.par=i):=by
   by_cases z:d.par=i
   rw[z];simp
   ·have:¬(d.par:Int)=(i:Int):=by lia
    simp[z,this]
  simp[-dJ,-gW,cnC,A.ob,A.og,rd,ix,ix2,q]
 have b:d7 (fz (evs (runN T G (k+2)) G (.cons cnC .nil)) (aL (runN T G (k+2)) G (.v 0)) [aa (.o n),aa (.p (.int i))]) 1 (upto 1 (t.ds.length-1)) h=aa (cW (kids t i),h):=by
  have Z:cW (kids t i)=(Sk (t.ds.length-1)).filterMap λj=>if decide ((t.ds[j+1]?).map Nd.par=aa i)=ah then aa (D.int (((j+1:Nat):Int)))else af:=by
   unfold kids cW
   induction Sk (t.ds.length-1)with
   |nil=>rfl
   |cons a r M =>
    rw[Sf,List.filter_cons,SC]
    by_cases z:(t.ds[a+1]?).map Nd.par=aa i
    ·simp only[z,decide_true,if_true,Sf];rw[M]
    ·simp only[z,decide_false,if_false,UC];rw[M]
  rw[Z];refine JW _ (λ(k:Nat)=>D.int (1+(k:Int))) _ h (Sk (t.ds.length-1)) λj Y=>?_;have g:=List.mem_range.mp Y;obtain⟨d,B⟩:=fU (l:=t.ds) (i:=j+1) (by lia);have c:=ct j d B;have V:([D.int ((1:Int)+(j:Int))].map fc++[aa (.o n),aa (.p (.int i))]:Sl)=[aa (.p (.int ((1:Int)+(j:Int)))),aa (.o n),aa (.p (.int i))]:=rfl;unfold fz;rw[V,B,show((j+1:Nat):Int)=1+(j:Int) by lia]
  by_cases q:d.par=i
  ·rw[bO q]at c;simp[evs,c,q]
  ·rw[bN q]at c;simp[evs,c,q]
 have cl:(cW (kids t i)).length<=100000:=by unfold kids cW;rw[Se];have:=Vf (λj=>decide ((t.ds[j]?).map Nd.par=aa i)) ((Sk (t.ds.length-1)).map (·+1));rw[Se,T9]at this;lia
 have e:aL (runN T G (k+2)) G (.comp ai .rng2 (.cons (.j (.int 1)) (.cons (.bi .len ai (.cons (.i (.v 0) "origins") .nil)) .nil)) ["child"] [(0,"self"),(1,"run")] (.cons cnC .nil) (.v 0)) [aa (.o n),aa (.p (.int i))] h=aa (.p (.aB (cW (kids t i))),h):=by
  refine kD (ws:=[.p (.int 1),.p (.int ((gS t.ds).length:Int))]) (h1:=h) ?_ ?_ rfl rfl b cl
  ·have:(gS t.ds).length<=100000:=by rw[L];lia
   simp[A.ob,A.og,rd]
  simp[-mh,rds,rd,W]
 have U:evS (runN T G (k+2)) G (.ex (.aF (.v 0) "check_run" (.cons (.v 1) .nil))) [aa (.o n),aa (.p (.int i))] h=aa (.nx [aa (.o n),aa (.p (.int i))] h):=by simp[A.ob,f]
 have O:=(jX U).trans (kU e);show kI (evS (runN T G (k+2)) G (.seq _ _) [aa (.o n),aa (.p (.int i))] h) (fin h)=_;rw[O,kj,cX]
end
def shC:E:=(.z .eq (.me .count (.v 2) (Z9 (.v 0))) (.j (.int 1)))
def shE:E:=(.aF (.v 1) "first" (Z9 (.v 0)))
def shM:E:=(.comp ai .seq (Z9 (.v 3)) ["run"] [(0,"self"),(3,"runs")] (Z9 shC) shE)
def shR:E:=(.bi .min1 ai (Z9 (.bin .add (.aB ai (Z8 (.bin .add (.aF (.v 0) "end" (Z9 (.v 1))) (.j (.int 1))) (.bin .add (.aF (.v 0) "end" (Z9 (.v 2))) (.j (.int 1))))) (.v 4))))
def iO:Fn:=⟨["self","one","other"],["self","one","other","runs","moments"], (.seq (.set 3 (.bin .add (.aF (.v 0) "path" (Z9 (.v 1))) (.aF (.v 0) "path" (Z9 (.v 2))))) (.seq (.set 4 shM) (.ret shR)))⟩
def ewC:E:=(.z .eq (.call "worth_in" (Z8 (.aF (.v 1) "at" (Z8 (.v 0) (.aF (.v 1) "end" (Z9 (.v 0))))) (.v 2))) (.v 3))
def ewM:E:=(.comp ai .rng1 (Z9 (.obn (.i (.v 0) "branches"))) ["run"] [(0,"self"),(1,"thing"),(2,"worth")] (Z9 ewC) (.v 0))
def gy:Fn:=⟨["self","thing","worth"],["self","thing","worth"], (.ret ewM)⟩
def dF(t:Tr)(th:Th)(i:Nat):Int:=match t.ds[i]? with
 |some d=>th.val (d.f d.en)|none=>0
def pH{t:Tr}{i:Nat}{d:Nd}(q:t.ds[i]?=aa d)(th:Th):dF t th i=th.val (d.f d.en):=by unfold dF;rw[q]
def gZ(t:Tr)(th:Th)(v:Int):List Nat:=(Sk t.ds.length).filter λi=>decide (dF t th i=v)
noncomputable def fiN(t:Tr)(i:Nat):Nat:=match t.ds[i]? with
 |some d=>d.fi|none=>0
def J3{t:Tr}{i:Nat}{d:Nd}(q:t.ds[i]?=aa d):fiN t i=d.fi:=by unfold fiN;rw[q]
def alone(t:Tr)(rs:List Nat):List Nat:=(rs.filter λr=>decide (rs.count r=1)).map (fiN t)
def shN(t:Tr)(rs:List Nat)(a b:Nat):Nat:=(alone t rs).foldl min (min (a+1) (b+1))
theorem j4:∀(l:List Nat)(a:Nat),(l.map λ(x:Nat)=>(x:Int)).foldl min (a:Int)=((l.foldl min a:Nat):Int)
 |[],_=>rfl
 |b::l,a=>by rw[Sf,UI,UI,show min (a:Int) (b:Int)=((min a b:Nat):Int) by lia];exact j4 l (min a b)
def J4(t:Tr)(rs:List Nat)(a b:Nat):shN t rs a b<=a+1/\shN t rs a b<=b+1:=by
 have:∀(l:List Nat)(x:Nat),l.foldl min x<=x:=λl=>by
  induction l with
  |nil=>intro x;exact R0 _|cons y r q=>intro x;rw[UI];exact SK (q _) (Nat.min_le_left _ _)
 have h:=this (alone t rs) (min (a+1) (b+1));unfold shN;lia
def Pth.mem{t:Tr}(O:Wf t){i:Nat}{l:List Nat}(hi:i<t.ds.length)(a:Pth t i l):∀x∈l,x<t.ds.length:=by
 induction a with
 |zero=>intro x B;simp at B;subst B;exact hi
 |step D M r J =>
  obtain⟨q,L,U,_⟩:=(O.each _ _ D).par M;intro x B;rcases List.mem_cons.mp B with z|z
  subst z;exact dD D;exact J (dD L) x z
structure TrS(T:FK->Option Fn):Prop where
 shared:T (.m "Tree" "shared")=aa iO
structure TrE(T:FK->Option Fn):Prop where
 ends:T (.m "Tree" "ends_with")=aa gy
section
variable{T:FK->Option Fn}{G:ay->Option W}{Pt:Pts}{h:HH}{n:Nat}{t:Tr}{ro rb:Nat}
@[simp]theorem K2(t:Tr)(ro rb:Nat):dP "shared" (tfs t ro rb)=af:=gw t ro rb rfl
@[simp]theorem ON(t:Tr)(ro rb:Nat):dP "ends_with" (tfs t ro rb)=af:=gw t ro rb rfl
def C8{B:Type}(f:List D->HH->Option (Option D×HH))(mk:B->D)(g:B->Bool)(o:B->D)(q:HH->Prop)(l:List B)(J:∀x∈l,∀h,q h->∃h',f [mk x] h=aa (if g x then aa (o x)else af,h')/\q h')(h:HH)(hi:q h):∃h',d7 f 1 (l.map mk) h=aa ((l.filter g).map o,h')/\q h':=by
 obtain⟨h',e,i⟩:=rR f mk (λx=>if g x then aa (o x)else af) q l J h hi;refine⟨h',?_,i⟩;rw[e];congr 2;clear e J
 induction l with
 |nil=>rfl
 |cons a r L =>
  rw[SC,List.filter_cons];cases g a with
  |_=>simp[L]
def i9(P:TrP T G)(Q:TrE T)(B:Wf t)(A:eH Pt h n t ro rb)(k:Nat)(th:Th)(v:Int):
 zx Pt (runN T G (k+13) (.m "Tree" "ends_with") [.o n,.p th.enc,.p (.int v)] h) (.p (.aB (cW (gZ t th v)))) n t ro rb:=by
 obtain⟨bs,L⟩:=id A;have l1:=B.l1;have y:=L.len;have V:gH .rng1 [.int (bs.length:Int)]=aa (upto 0 t.ds.length):=by
  rw[eV];have c:((-100000<=(bs.length:Int):Bool)&&((bs.length:Int)<=100000:Bool))=ah:=by simp only[RX,bM];lia
  rw[bJ c];congr 2
 obtain ⟨M,s,w⟩:=C8 (fz (evs (runN T G (k+12)) G (.cons ewC .nil)) (aL (runN T G (k+12)) G (.v 0)) [aa (.o n),aa (.p th.enc),aa (.p (.int v))]) (λ(i:Nat)=>D.int (0+(i:Int))) (λi=>decide (dF t th i=v)) (λi=>D.int (i:Int)) (λh=>eH Pt h n t ro rb) (Sk t.ds.length) (λi hi g ⟨bs2,Ag⟩=>by
  obtain⟨d,q⟩:=fU (l:=t.ds) (List.mem_range.mp hi);obtain⟨C,a,⟨u,O⟩⟩:=gT P B Ag (k+2) q;obtain⟨J,Z,x⟩:=ny P B O k q (R0 _);have Y:=qa P.tp P.th (k+8) (B.at_ q (R0 _)).ok th J;refine⟨J,?_,x⟩;rw[pH q];have U:([D.int ((0:Int)+(i:Int))].map fc++[aa (.o n),aa (.p th.enc),aa (.p (.int v))]:Sl)=[aa (.p (.int (i:Int))),aa (.o n),aa (.p th.enc),aa (.p (.int v))]:=by rw[WX];rfl
  have c:aL (runN T G (k+12)) G ewC [aa (.p (.int (i:Int))),aa (.o n),aa (.p th.enc),aa (.p (.int v))] g=aa (.p (.bl (th.val (d.f d.en)==v)),J):=by simp[ewC,Ag.ob,a,O.ob,Z,Y,rd]
  unfold fz;rw[U]
  by_cases z:th.val (d.f d.en)=v
  ·rw[z,beq_self_eq_true]at c;simp[evs,c,z]
  ·rw[beq_eq_false_iff_ne.mpr z] at c;simp[evs,c,z]) h A
 have r:aL (runN T G (k+12)) G ewM [aa (.o n),aa (.p th.enc),aa (.p (.int v))] h=aa (.p (.aB (cW (gZ t th v))),M):=by
  refine kD (ws:=[.p (.int (bs.length:Int))]) (h1:=h) ?_ ?_ rfl rfl s ?_
  ·have:bs.length<=100000:=by lia
   simp[L.ob,L.br,this]
  rw[show rds [W.p (D.int (bs.length:Int))] h=aa [D.int (bs.length:Int)] from rfl,SH,V];rfl
  ·unfold cW gZ;rw[Se];have:=Vf (λi=>decide (dF t th i=v)) (Sk t.ds.length);rw[T9]at this;lia
 obtain⟨b,j,e⟩:=mJ h (.aB (cW (gZ t th v))) M;refine⟨b,?_,?_⟩
 ·rw[run_eq Q.ends rfl];show kI (evS (runN T G (k+12)) G (.ret ewM) [aa (.o n),aa (.p th.enc),aa (.p (.int v))] h) (fin h)=_;rw[kU r,kj,j]
 ·rcases e with z|z
  rw[z];exact w;rw[z];exact A
def J5(rs:List Nat)(r:Nat):meD .count (.aB (cW rs)) [.int (r:Int)]=aa (.int ((rs.count r:Nat):Int)):=by rw[AF,bJ (by simp)];congr 3;unfold cW;rw[Xf,List.count];apply List.countP_congr;intro x _;simp;lia
def vG(P:TrP T G)(Q:TrQ T)(S:TrS T)(J:Wf t)(A:eH Pt h n t ro rb)(k:Nat){i j:Nat}{B q:Nd}(hi:t.ds[i]?=aa B)(Z:t.ds[j]?=aa q){U O:List Nat}(Y:Pth t i U)(W:Pth t j O):
 zx Pt (runN T G (k+11) (.m "Tree" "shared") [.o n,.p (.int i),.p (.int j)] h) (.p (.int (shN t (U.reverse++O.reverse) B.en q.en))) n t ro rb:=by
 obtain⟨bs,M⟩:=id A;have l1:=J.l1;have K:=pG P Q J M (k+7) (dD hi) Y;have I:=pG P Q J M (k+7) (dD Z) W;obtain⟨h1,e1,⟨bs1,y⟩⟩:=gT P J M k hi;obtain⟨w,e2,A2⟩:=gT P J y k Z;have X:=Y.len J;have R:=W.len J;have il:=dD hi;have jl:=dD Z;have ad:kH .add (.aB (cW U.reverse)) (.aB (cW O.reverse))=aa (.aB (cW (U.reverse++O.reverse))):=by rw[e9,bJ (by show _<=100000;simp[cW];lia)];simp[cW]
 generalize V:U.reverse++O.reverse=rs at ad;have rl:rs.length<=1000:=by rw[←V];simp;lia
 have H:∀x∈rs,x<t.ds.length:=λx s=>by
  rw[←V]at s;rcases List.mem_append.mp s with z|z
  exact Y.mem J il x (by simpa using z);exact W.mem J jl x (by simpa using z)
 obtain ⟨L,c1,A3⟩:=C8 (fz (evs (runN T G (k+10)) G (.cons shC .nil)) (aL (runN T G (k+10)) G shE) [aa (.o n),aa (.p (.aB (cW rs)))]) (λ(r:Nat)=>D.int (r:Int)) (λr=>decide (rs.count r=1)) (λr=>D.int (fiN t r:Int)) (λg=>g=h) rs (λr hr g hg=>by
  subst hg;obtain⟨d,u⟩:=fU (l:=t.ds) (H r hr);have f:=kF P J M (k+9) u;refine⟨g,?_,rfl⟩;rw[J3 u];have F:([D.int (r:Int)].map fc++[aa (.o n),aa (.p (.aB (cW rs)))]:Sl)=[aa (.p (.int (r:Int))),aa (.o n),aa (.p (.aB (cW rs)))]:=rfl;have c:aL (runN T G (k+10)) G shC [aa (.p (.int (r:Int))),aa (.o n),aa (.p (.aB (cW rs)))] g=aa (.p (.bl (decide (rs.count r=1))),g):=by
   have cn:=J5 rs r;have cq:(((rs.count r:Nat):Int)==1)=decide (rs.count r=1):=by
    by_cases z:rs.count r=1
    rw[z];rfl
    ·have:¬((rs.count r:Nat):Int)=1:=by lia
     simp[z,this]
   simp[shC,kMe,kO,dN,cn,rd,cq]
  unfold fz;rw[F];cases z:decide (rs.count r=1)with
  |true=>rw[z]at c;simp[evs,c,shE,M.ob,f]
  | false=>rw[z] at c;simp[evs,c]) h rfl
 subst A3;have b:cW rs=rs.map λ(r:Nat)=>D.int (r:Int):=rfl;have ce:aL (runN T G (k+10)) G shM [aa (.o n),aa (.p (.int i)),aa (.p (.int j)),aa (.p (.aB (cW rs))),af] L=aa (.p (.aB (cW (alone t rs))),L):=by
  have e0:cW (alone t rs)=(rs.filter λr=>decide (rs.count r=1)).map λr=>D.int (fiN t r:Int):=by unfold cW alone;rw[UG];rfl
  rw[e0];refine kD (ws:=[.p (.aB (cW rs))]) (h1:=L) rfl rfl rfl rfl c1 ?_;rw[Se];have:=Vf (λr=>decide (rs.count r=1)) rs;lia
 have al:(alone t rs).length<=1000:=by unfold alone;rw[Se];have:=Vf (λr=>decide (rs.count r=1)) rs;lia
 have N:biD .min1 [.aB (.int ((B.en:Int)+1)::.int ((q.en:Int)+1)::cW (alone t rs))]=aa (.int (shN t rs B.en q.en)):=by
  have io:intsOf (.int ((B.en:Int)+1)::.int ((q.en:Int)+1)::cW (alone t rs))=aa (((B.en:Int)+1)::((q.en:Int)+1)::(alone t rs).map λ(x:Nat)=>(x:Int)):=by
   have:∀l:List Nat,intsOf (cW l)=aa (l.map λ(x:Nat)=>(x:Int)):=λl=>by
    induction l with
    |nil=>rfl
    |cons a r ih =>
     have e:cW (a::r)=.int (a:Int)::cW r:=rfl;rw[e,intsOf,ih];rfl
   rw[intsOf,intsOf,this];rfl
  rw[sY,io,SH];show(aa (WD min ((B.en:Int)+1) (((q.en:Int)+1)::_))).map D.int=_;rw[UI,show min ((B.en:Int)+1) ((q.en:Int)+1)=((min (B.en+1) (q.en+1):Nat):Int) by lia,j4];rfl
 obtain⟨h4,f1,f2⟩:=mJ L (.int (shN t rs B.en q.en)) w;refine⟨h4,?_,?_⟩
 ·rw[run_eq S.shared rfl];have E:aL (runN T G (k+10)) G (.bin .add (.aF (.v 0) "path" (.cons (.v 1) .nil)) (.aF (.v 0) "path" (.cons (.v 2) .nil))) [aa (.o n),aa (.p (.int i)),aa (.p (.int j)),af,af] L=aa (.p (.aB (cW rs)),L):=by simp[-e9,M.ob,K,I,rd,ad]
  have C:aL (runN T G (k+10)) G shR [aa (.o n),aa (.p (.int i)),aa (.p (.int j)),aa (.p (.aB (cW rs))),aa (.p (.aB (cW (alone t rs))))] L=aa (.p (.int (shN t rs B.en q.en)),w):=by
   have a2:kH .add (.aB [.int ((B.en:Int)+1),.int ((q.en:Int)+1)]) (.aB (cW (alone t rs)))=aa (.aB (.int ((B.en:Int)+1)::.int ((q.en:Int)+1)::cW (alone t rs))):=by rw[e9,bJ (by show _<=100000;simp[cW];lia)];rfl
   simp[-e9,shR,M.ob,e1,y.ob,e2,rd,rds,dN,a2,N]
  show kI (evS (runN T G (k+10)) G (.seq (.set 3 _) (.seq (.set 4 shM) (.ret shR))) [aa (.o n),aa (.p (.int i)),aa (.p (.int j)),af,af] L) (fin L)=_;rw[(gi E).trans ((gi ce).trans (kU C)),kj,f1]
 ·rcases f2 with z|z
  rw[z];exact A2;rw[z];exact A
end
def trB:S:=(.seq (.set 7 (.call "_law_drawn" (Z7 (.v 0) (.bin .add (.bin .add (.v 1) (.j (.int 1))) (.bin .mul (.j (.int 5)) (.v 6))) (.bin .add (.v 6) (.j (.int 1)))))) (.seq (.set 8 (.call "_law_drawn" (Z7 (.v 0) (.bin .add (.bin .add (.v 1) (.j (.int 2))) (.bin .mul (.j (.int 5)) (.v 6))) (.bin .add (.aF (.v 5) "end" (Z9 (.v 7))) (.j (.int 1)))))) (.seq (.set 9 (.y (.aB ai (Z6 (.j (.int 0)) (.j (.int 1)) (.j (.int 7)) (.j (.int 10006)))) (.call "_law_drawn" (Z7 (.v 0) (.bin .add (.bin .add (.v 1) (.j (.int 3))) (.bin .mul (.j (.int 5)) (.v 6))) (.j (.int 4)))))) (.ex (.aF (.v 5) "part" (Z6 (.v 7) (.v 8) (.call "_law_thing" (Z8 (.v 0) (.bin .add (.bin .add (.v 1) (.j (.int 4))) (.bin .mul (.j (.int 5)) (.v 6))))) (.v 9)))))))
def iZ:Fn:=⟨["_law_script","_law_at","_law_program_here","_law_asked_here","_law_most"],["_law_script","_law_at","_law_program_here","_law_asked_here","_law_most","_law_tree_here","_law_k","_law_run","_law_moment","_law_worth"], (.seq (.set 5 (.make "Tree" (Z7 (.v 2) (.v 3) (.v 4)))) (.seq (.for [(6,"_law_k")] .rng1 (Z9 (.call "_law_drawn" (Z7 (.v 0) (.v 1) (.j (.int 5))))) trB) (.ret (.v 5))))⟩
def alE:E:=(.aF (.v 1) "at" (Z8 (.v 2) (.v 0)))
def alC:E:=(.comp ai .rng1 (Z9 (.bin .add (.aF (.v 0) "end" (Z9 (.v 1))) (.j (.int 1)))) ["_law_moment"] [(0,"_law_tree_here"),(1,"_law_run")] .nil alE)
def jC:Fn:=⟨["_law_tree_here","_law_run"],["_law_tree_here","_law_run"], (.ret alC)⟩
def ux(d:Nd):List St:=(Sk (d.en+1)).map d.f
def rW(d:Nd):D:=.aB ((ux d).map St.enc)
structure LwT(T:FK->Option Fn):Prop where
 lw:Lw T
 thing:T "_law_thing"=aa gn
 tree:T "_law_tree"=aa iZ
 all:T "_law_all"=aa jC
section
variable{T:FK->Option Fn}{G:ay->Option W}{Pt:Pts}{h:HH}{n:Nat}{t:Tr}{ro rb:Nat}
def xN(d:Nd):(ux d).length=d.en+1:=by simp[ux]
def Gc(P:TrP T G)(b:T "_law_all"=aa jC)(q:Wf t)(A:eH Pt h n t ro rb)(k:Nat){i:Nat}{d:Nd}(B:t.ds[i]?=aa d):
 zx Pt (runN T G (k+13) "_law_all" [.o n,.p (.int i)] h) (.p (rW d)) n t ro rb:=by
 obtain⟨bs,M⟩:=id A;obtain⟨h1,w,y⟩:=gT P q M (k+2) B;have en:=q.C2 B;have m1:=q.m1;have U:gH .rng1 [.int ((d.en:Int)+1)]=aa (upto 0 (d.en+1)):=by
  rw[eV];have c:((-100000<=((d.en:Int)+1):Bool)&&(((d.en:Int)+1)<=100000:Bool))=ah:=by simp only[RX,bM];lia
  rw[bJ c];congr 2
 have u:(ux d).map St.enc=(Sk (d.en+1)).filterMap λm=>aa (d.f m).enc:=by
  unfold ux
  induction Sk (d.en+1)with
  |nil=>rfl|cons a r Z=>rw[Sf,Sf,SC,Z]
 obtain ⟨J,L,x⟩:=rR (fz (evs (runN T G (k+12)) G .nil) (aL (runN T G (k+12)) G alE) [aa (.o n),aa (.p (.int i))]) (λ(m:Nat)=>D.int (0+(m:Int))) (λm=>aa (d.f m).enc) (λh=>eH Pt h n t ro rb) (Sk (d.en+1)) (λm hm g ⟨bs2,Ag⟩=>by
  have C:=List.mem_range.mp hm;obtain⟨j,Y,V⟩:=ny P q Ag k B (m:=m) (by lia);refine⟨j,?_,V⟩;have O:([D.int ((0:Int)+(m:Int))].map fc++[aa (.o n),aa (.p (.int i))]:Sl)=[aa (.p (.int (m:Int))),aa (.o n),aa (.p (.int i))]:=by rw[WX];rfl
  unfold fz;rw[O];simp[evs,alE,Ag.ob,Y]) h1 y
 rw[←u]at L;have v:aL (runN T G (k+12)) G alC [aa (.o n),aa (.p (.int i))] h=aa (.p (rW d),J):=by refine kD (ws:=[.p (.int ((d.en:Int)+1))]) (h1:=h1) ?_ ?_ rfl rfl L ?_;simp[M.ob,w];rw[show rds [W.p (D.int ((d.en:Int)+1))] h1=aa [D.int ((d.en:Int)+1)] from rfl,SH,U];rfl;rw[Se,xN];lia
 obtain⟨e,s,l⟩:=mJ h (rW d) J;refine⟨e,?_,?_⟩
 ·rw[run_eq b rfl];show kI (evS (runN T G (k+12)) G (.ret alC) [aa (.o n),aa (.p (.int i))] h) (fin h)=_;rw[kU v,kj,s]
 ·rcases l with z|z
  rw[z];exact x;rw[z];exact A
end
structure SmT(t t':Tr):Prop where
 p:t'.p=t.p
 aG:t'.aG=t.aG
 most:t'.most=t.most
def SmT.refl(t:Tr):SmT t t:=⟨rfl,rfl,rfl⟩
def SmT.trans{t u v:Tr}(x:SmT t u)(y:SmT u v):SmT t v:=⟨y.p.trans x.p,y.aG.trans x.aG,y.most.trans x.most⟩
def zB(z:Nat)(h:z<4):∃v:Int,Wth v/\dI (.aB [.int 0,.int 1,.int 7,.int 10006]) (.int (z:Int))=aa (.int v):=by
 have:z=0\/z=1\/z=2\/z=3:=by omega
 rcases this with rfl|rfl|rfl|rfl
 exact⟨0,by simp[Wth],rfl⟩;exact⟨1,by simp[Wth],rfl⟩;exact⟨7,by simp[Wth],rfl⟩;exact⟨10006,by simp[Wth],rfl⟩
def Qt:big 5=ah:=by unfold big;decide
section
variable{T:FK->Option Fn}{G:ay->Option W}{Pt:Pts}{n:Nat}{ro rb:Nat}
def slT(ns:List Int)(q:Int)(U O M:W)(n:Nat)(L J D B:Option W):Sl:=[aa (.p (.aB (cV ns))),aa (.p (.int q)),aa U,aa O,aa M,aa (.o n),L,J,D,B]
def Gd(P:TrP T G)(L:LwT T)(ns:List Int)(D:ns.length<=1000)(q:Int)(Z Y V:W)(k:Nat){h:HH}{t:Tr}(M:Wf t)(A:eH Pt h n t ro rb)(j:Nat)(Q:t.ds.length=j+1)(X:j<5)(w u s:Option W):
 ∃h' t' r o g,evS (runN T G (k+13)) G trB (slT ns q Z Y V n (aa (.p (.int (j:Int)))) w u s) h=aa (.nx (slT ns q Z Y V n (aa (.p (.int (j:Int)))) r o g) h')/\Wf t'/\eH Pt h' n t' ro rb/\SmT t t'/\t'.ds.length=j+2:=by
 obtain⟨i,S,U⟩:=iC (G:=G) L.lw ns D (q+1+5*(j:Int)) ((j:Int)+1) (by lia);obtain⟨d,J⟩:=fU (l:=t.ds) (i:=i) (by lia);obtain⟨bs,c⟩:=A;obtain⟨h1,E,⟨y,b⟩⟩:=gT P M c (k+3) J;obtain⟨m,N,dm⟩:=iC (G:=G) L.lw ns D (q+2+5*(j:Int)) ((d.en:Int)+1) (by lia);obtain⟨z,K,O⟩:=iC (G:=G) L.lw ns D (q+3+5*(j:Int)) 4 (by lia);obtain⟨v,a,ev⟩:=zB z (by lia);obtain⟨th,rt⟩:=qF (G:=G) L.lw L.thing ns D (q+4+5*(j:Int));obtain⟨e,R,_⟩:=xA (th.put (d.f m) v) t.p t.aG (t.most-m);have B:m<=d.en:=by lia
 obtain⟨x,C,I⟩:=C7 P M b k J B th a R;have F:=(M.at_ J B).put a th;have H:=J1 M J B F R (by lia) rfl;refine⟨x,_,aa (.p (.int i)),aa (.p (.int m)),aa (.p (.int v)),?_,H,I,⟨rfl,rfl,rfl⟩,by simp[Tr.add];lia⟩;have U:=U (k+11);have dm:=dm (k+11);have O:=O (k+11);have rt:=rt (k+10);rw[trB,slT,slT];simp[-dJ,Qt,U,c.ob,E,dm,O,ev,b.ob,rt,C]
def Ge(j r:Nat):upto (j:Int) (r+1)=.int (j:Int)::upto ((j+1:Nat):Int) r:=by unfold upto;rw[VW,Sf,UG];simp only[Int.natCast_zero,Int.add_zero,Vg,true_and];apply Ub;intro i _;simp;lia
theorem xO(P:TrP T G)(L:LwT T)(ns:List Int)(b:ns.length<=1000)(q:Int)(U O M:W)(k:Nat):∀(r j:Nat)(h:HH)(t:Tr)(V J D B:Option W),Wf t->eH Pt h n t ro rb->t.ds.length=j+1->j+r<=5 →
 ∃h' t' g a Z Y,gK (evS (runN T G (k+13)) G trB) [(6,"_law_k")] (upto (j:Int) r) (slT ns q U O M n V J D B) h=aa (.nx (slT ns q U O M n g a Z Y) h')/\Wf t'/\eH Pt h' n t' ro rb/\SmT t t'/\t'.ds.length=j+r+1
 |0,j,h,t,V,J,D,B,Wt,A,hj,_=>⟨h,t,V,J,D,B,rfl,Wt,A,.refl t,hj⟩
 |r+1,j,h,t,V,J,D,B,Wt,A,hj,h5=>by obtain⟨w,m,a,Z,Y,y,C,F,s,u⟩:=Gd P L ns b q U O M k Wt A j hj (by lia) J D B;obtain⟨v,i,f,e,d,c,x,z,E,o,H⟩:=xO P L ns b q U O M k r (j+1) w m (aa (.p (.int (j:Int)))) a Z Y C F u (by lia);refine⟨v,i,f,e,d,c,?_,z,E,s.trans o,by lia⟩;rw[Ge];have st:∀l,gK (evS (runN T G (k+13)) G trB) [(6,"_law_k")] (.int (j:Int)::l) (slT ns q U O M n V J D B) h=kK (evS (runN T G (k+13)) G trB (slT ns q U O M n (aa (.p (.int (j:Int)))) J D B) h) (gK (evS (runN T G (k+13)) G trB) [(6,"_law_k")] l):=λl=>rfl;rw[st,y,gJ,x]
def rX(P:TrP T G)(L:LwT T)(ns:List Int)(V:ns.length<=1000)(q:Int)(k:Nat){p:Pg}(O:Pg.ok p)(W:Ask aG)(U:most<=100)(h:HH)(A:∀i c,Pt i=aa c->h[i]?=aa c):
 ∃h' t,runN T G (k+14) "_law_tree" [.p (.aB (cV ns)),.p (.int q),.p (dQ p),.p (.aB (cV aG)),.p (.int most)] h=aa (.o h.length,h')/\Wf t/\eH Pt h' h.length t (h.length+1) (h.length+5)/\t.p=p/\t.aG=aG/\t.most=most/\t.ds.length<=5:=by
 obtain⟨e,R,_⟩:=xA St.zero p aG most;have E:=C5 P (k+9) p aG most e h;have I:=C6 O W U R A;have H:=J0 O W U R;obtain⟨z,N,J⟩:=iC (G:=G) L.lw ns V q 5 (by lia);obtain⟨B,x,n,m,d,a,M,F,Z,D,K⟩:=xO P L ns V q (.p (dQ p)) (.p (.aB (cV aG))) (.p (.int most)) k z 0 _ _ af af af af H I rfl (by lia);refine⟨B,x,?_,F,Z,D.p,D.aG,D.most,by lia⟩;obtain⟨C,Q⟩:=id Z;have f:fin h (.o h.length) B=aa (.o h.length,B):=by
  unfold fin
  by_cases c:B.length=h.length
  rw[bJ c]
  ·rw[bK c]
   by_cases Y:B.take h.length=h
   rw[bJ Y];exact bK (To _);rw[bK Y]
 have J:=J (k+11);have y:gH .rng1 [.int (z:Int)]=aa (upto 0 z):=by
  rw[eV];have c:((-100000<=(z:Int):Bool)&&((z:Int)<=100000:Bool))=ah:=by simp only[RX,bM];lia
  rw[bJ c];congr 2
 rw[slT]at M
 change gK _ _ (upto 0 z) _ _=_ at M
 rw[run_eq L.tree rfl,iZ];simp only[ff,Sf,Tc,Sh,SW];have u:aL (runN T G (k+13)) G (.make "Tree" (.cons (.v 2) (.cons (.v 3) (.cons (.v 4) .nil)))) [aa (.p (.aB (cV ns))),aa (.p (.int q)),aa (.p (dQ p)),aa (.p (.aB (cV aG))),aa (.p (.int most)),af,af,af,af,af] h=aa (.o h.length,h++[.o "Tree" (tfs (Tr.new p aG most e) (h.length+1) (h.length+5)),.l [.aD],.o "Branch" ((Tp.new p aG St.zero most).fs (h.length+4)),.l [St.zero.enc],.l [St.zero.enc],.b [h.length+2]]):=by simp[E]
 have s:evS (runN T G (k+13)) G (.for [(6,"_law_k")] .rng1 (.cons (.call "_law_drawn" (.cons (.v 0) (.cons (.v 1) (.cons (.j (.int 5)) .nil)))) .nil) trB) [aa (.p (.aB (cV ns))),aa (.p (.int q)),aa (.p (dQ p)),aa (.p (.aB (cV aG))),aa (.p (.int most)),aa (.o h.length),af,af,af,af] (h++[.o "Tree" (tfs (Tr.new p aG most e) (h.length+1) (h.length+5)),.l [.aD],.o "Branch" ((Tp.new p aG St.zero most).fs (h.length+4)),.l [St.zero.enc],.l [St.zero.enc],.b [h.length+2]])=aa (.nx (slT ns q (.p (dQ p)) (.p (.aB (cV aG))) (.p (.int most)) h.length n m d a) B):=by simp[-eV,-gK,J,rds,rd,y,jM,M]
 show kI (evS (runN T G (k+13)) G (.seq (.set 5 _) (.seq _ (.ret (.v 5)))) [aa (.p (.aB (cV ns))),aa (.p (.int q)),aa (.p (dQ p)),aa (.p (.aB (cV aG))),aa (.p (.int most)),af,af,af,af,af] h) (fin h)=_;rw[gi u];have r:=jX (b:=.ret (.v 5)) s;show kI (evS (runN T G (k+13)) G (.seq _ (.ret (.v 5))) [aa (.p (.aB (cV ns))),aa (.p (.int q)),aa (.p (dQ p)),aa (.p (.aB (cV aG))),aa (.p (.int most)),aa (.o h.length),af,af,af,af] _) (fin h)=_;rw[r,kU (w:=.o h.length) (g:=B) rfl,kj,f]
end
def Gf(d:Nd):dok 100 (rW d)=ah:=xy (ux d)
def J6(d:Nd):gB .ne (rW d) (rW d)=aa ai:=ne_self (Gf d)
section
variable{T:FK->Option Fn}{G:ay->Option W}{Pt:Pts}{n:Nat}{ro rb:Nat}
def pI{F:FK->List W->HH->Option (W×HH)}{c:E}{a:S}{s:Sl}{h g:HH}(h1:aL F G c s h=aa (.p (.bl ai),g)):evS F G (.v c a .nil) s h=aa (.nx s g):=by simp[h1]
end
section
variable{T:FK->Option Fn}{G:ay->Option W}{Pt:Pts}{n:Nat}{ro rb:Nat}{t:Tr}
end
def J7:E:=(.aF (.v 1) "at" (Z9 (.v 0)))
def Nv:E:=(.comp ai .rng1 (Z9 (.bin .add (.aF (.v 5) "end" .nil) (.j (.int 1)))) ["_law_moment"] [(5,"_law_tape")] .nil J7)
def Nx:E:=(.z .ne (.call "_law_all" (Z8 (.v 4) (.j (.int 0)))) Nv)
def C9:E:=(.z .lt (.v 7) (.bi .len ai (Z9 (.v 6))))
def Dc:S:=(.seq (.set 6 (.bin .add (.v 6) (.aF (.v 4) "children" (Z9 (.y (.v 6) (.v 7)))))) (.set 7 (.bin .add (.v 7) (.j (.int 1)))))
def Ny:E:=(.z .ne (.bi .sorted ai (Z9 (.v 6))) (.lsr ai .rng1 (Z9 (.bi .len ai (Z9 (.v 6))))))
def Nz:E:=(.or (.z .ne (.y (.v 11) (.j (.int 0))) (.j (.int 0))) (.or (.z .ne (.v 11) (.bi .sorted ai (Z9 (.v 11)))) (.z .ne (.y (.v 11) (.neg (.j (.int 1)))) (.v 10))))
def NB:E:=(.and (.z .gt (.v 10) (.j (.int 0))) (.z .ne (.y (.aF (.v 4) "parent" (Z9 (.v 10))) (.j (.int 0))) (.y (.v 11) (.neg (.j (.int 2))))))
def NC:E:=(.and (.z .gt (.v 10) (.j (.int 0))) (.z .nmem (.v 10) (.aF (.v 4) "children" (Z9 (.y (.v 11) (.neg (.j (.int 2))))))))
def J8:E:=(.call "_law_of" (Z8 (.aF (.v 4) "at" (Z8 (.v 10) (.aF (.v 4) "end" (Z9 (.v 10))))) (.v 8)))
def ND:E:=(.or (.z .nmem (.v 10) (.aF (.v 4) "ends_with" (Z8 (.v 8) (.v 12)))) (.z .mem (.v 10) (.aF (.v 4) "ends_with" (Z8 (.v 8) (.bin .mod (.bin .add (.v 12) (.j (.int 1))) (.j (.int 10007)))))))
def NF:E:=(.z .gt (.aF (.v 4) "shared" (Z8 (.v 10) (.v 13))) (.bin .add (.bi .min2 ai (Z8 (.aF (.v 4) "end" (Z9 (.v 10))) (.aF (.v 4) "end" (Z9 (.v 13))))) (.j (.int 1))))
def Gg:S:=(.v NF (.ret (.j (.bl ai))) .nil)
def Dd:S:=(.seq (.set 11 (.aF (.v 4) "path" (Z9 (.v 10)))) (.seq (.v Nz (.ret (.j (.bl ai))) .nil) (.seq (.v NB (.ret (.j (.bl ai))) .nil) (.seq (.v NC (.ret (.j (.bl ai))) .nil) (.seq (.set 12 J8) (.seq (.v ND (.ret (.j (.bl ai))) .nil) (.seq (.ex (.me .append (.v 9) (Z9 (.v 12)))) (.for [(13,"_law_other")] .seq (Z9 (.v 6)) Gg))))))))
def J9:E:=(.bi .len ai (Z9 (.aF (.v 1) "ends_with" (Z8 (.v 2) (.v 0)))))
def zC:E:=(.comp ai .seq (Z9 (.bi .sset ai (Z9 (.v 9)))) ["_law_worth"] [(4,"_law_tree_here"),(8,"_law_thing_here")] .nil J9)
def NG:E:=(.z .eq (.bi .sum ai (Z9 zC)) (.bi .len ai (Z9 (.v 6))))
def jh:Fn:=⟨["_law_script"],["_law_script","_law_program_here","_law_asked_here","_law_most","_law_tree_here","_law_tape","_law_runs","_law_at","_law_thing_here","_law_ends","_law_run","_law_path","_law_worth","_law_other"], (.seq (.set 1 (.call "_law_program" (Z8 (.v 0) (.j (.int 20))))) (.seq (.set 2 (.call "_law_asked" (Z8 (.v 0) (.j (.int 450))))) (.seq (.set 3 (.call "_law_drawn" (Z7 (.v 0) (.j (.int 440)) (.j (.int 17))))) (.seq (.set 4 (.call "_law_tree" (Z5 (.v 0) (.j (.int 600)) (.v 1) (.v 2) (.v 3)))) (.seq (.set 5 (.make "Tape" (Z6 (.v 1) (.v 2) (.j (.int 3)) (.v 3)))) (.seq (.v Nx (.ret (.j (.bl ai))) .nil) (.seq (.set 6 (.aB ai (Z9 (.j (.int 0))))) (.seq (.set 7 (.j (.int 0))) (.seq (.j C9 Dc) (.seq (.v Ny (.ret (.j (.bl ai))) .nil) (.seq (.set 8 (.call "_law_thing" (Z8 (.v 0) (.j (.int 702))))) (.seq (.set 9 (.aB ah .nil)) (.seq (.for [(10,"_law_run")] .seq (Z9 (.v 6)) Dd) (.ret NG))))))))))))))⟩
structure Bf(t:Tr)(a:Nat)(rs:List Nat):Prop where
 nd:rs.Nodup
 lt:∀x∈rs,x<t.ds.length
 z:rs[0]?=aa 0
 le:a<=rs.length
 up:∀x∈rs,x=0\/∃d,t.ds[x]?=aa d/\d.par∈rs.take a
 dn:∀x∈rs.take a,∀c∈kids t x,c∈rs
def Gi(t:Tr)(i:Nat):(kids t i).Nodup:=by unfold kids;refine List.Nodup.sublist List.filter_sublist ?_;exact Xw _ (λa b h=>by intro z;exact h (by lia)) List.nodup_range
def xP{t:Tr}{c:Nat}{d:Nd}(q:t.ds[c]?=aa d)(B:0<c):c∈kids t d.par:=by unfold kids;refine List.mem_filter.mpr ⟨List.mem_map.mpr ⟨c-1,List.mem_range.mpr (by have:=dD q;lia),by lia⟩,?_⟩;simp[q]
def Bf.zero{t:Tr}(B:Wf t):Bf t 0 [0] :=
 ⟨by simp,λx q=>by simp at q;subst q;exact List.length_pos_iff.mpr B.l0,rfl,Tu _,λx q=>by simp at q;exact .inl q,λx q=>by simp at q⟩
def Bf.len{t:Tr}{a:Nat}(B:Bf t a rs):rs.length<=t.ds.length:=by
 have:=Wg B.nd (l₂:=Sk t.ds.length) λx q=>List.mem_range.mpr (B.lt x q)
 rwa [T9]at this
def xQ{q:Type}{rs:List q}{a:Nat}{x:q}(h:rs[a]?=aa x):rs.take (a+1)=rs.take a++[x]:=by rw[List.take_succ,h];rfl
def Bf.step{t:Tr}(M:Wf t){a x:Nat}{rs:List Nat}(B:Bf t a rs)(h:rs[a]?=aa x):Bf t (a+1) (rs++kids t x):=by
 have Y:=dD h;have O:(rs++kids t x).take (a+1)=rs.take a++[x]:=by rw[List.take_append_of_le_length (by lia),xQ h]
 have nx:x∉rs.take a:=λz=>by have n:=B.nd;rw[←Ye (a+1) rs,xQ h]at n;have:=(List.nodup_append.mp (List.nodup_append.mp n).1).2.2 x z x (by simp);exact this rfl
 refine⟨List.nodup_append.mpr ⟨B.nd,Gi t x,λp D q V e=>?_⟩,λp D=>?_,?_,by simp;lia,λp D=>?_,λp D c U=>?_⟩
 ·subst e;obtain⟨W,d,J,L⟩:=rV M V;rcases B.up p D with z|⟨d',hd',z⟩
  lia
  ·rw[J]at hd';cases hd';rw[L]at z;exact nx z
 ·rcases List.mem_append.mp D with z|z
  exact B.lt p z
  ·obtain⟨_,d,J,_⟩:=rV M z;exact dD J
 rw[RU (by have:=dD B.z;exact this)];exact B.z
 ·rw[O];rcases List.mem_append.mp D with z|z
  ·rcases B.up p z with q|⟨d,J,q⟩
   exact .inl q;exact .inr ⟨d,J,List.mem_append.mpr (.inl q)⟩
  ·obtain⟨_,d,J,L⟩:=rV M z;exact .inr ⟨d,J,List.mem_append.mpr (.inr (by rw[L];simp))⟩
 ·rw[O]at D;rcases List.mem_append.mp D with z|z
  exact List.mem_append.mpr (.inl (B.dn p z c U))
  ·simp at z;subst z;exact List.mem_append.mpr (.inr U)
theorem Bf.all{t:Tr}(J:Wf t){rs:List Nat}(B:Bf t rs.length rs):∀(n i:Nat),i<=n->i<t.ds.length->i∈rs
 |n,i,hn,hi=>by
  rcases T7 i with z|z
  subst z;exact Sg B.z
  ·obtain⟨d,D⟩:=fU hi;obtain⟨q,L,M,_⟩:=(J.each i d D).par z;cases n with
   |zero=>lia
   |succ n =>
    have m:=Bf.all J B n d.par (by lia) (dD L);exact B.dn d.par (by rw[List.take_length];exact m) i (xP D z)
def Bf.perm{t:Tr}(q:Wf t)(B:Bf t rs.length rs):rs.Perm (Sk t.ds.length) :=
 (List.perm_ext_iff_of_nodup B.nd List.nodup_range).mpr λa=>⟨λh=>List.mem_range.mpr (B.lt a h),λh=>B.all q a a (R0 _) (List.mem_range.mp h)⟩
noncomputable def rY(xs:List Nat):List Int:=xs.map λ(n:Nat)=>(n:Int)
def pJ(xs:List Nat):cW xs=cV (rY xs):=by unfold cW cV rY;rw[UG];rfl
def Gj{ys:List Nat}(h:ys.Pairwise (·<=·)):(rY ys).Pairwise (·<=·):=Xw _ (λa b h=>by lia) h
def zD{xs ys:List Nat}(h:xs.Perm ys)(q:ys.Pairwise (·<=·)):sortI (rY xs)=rY ys:=Ww ((sortI_perm _).trans (h.map _)) (n8 _) (Gj q)
theorem kG:∀(xs:List Int),intsOf (cV xs)=aa xs
 |[]=>rfl
 |x::xs=>by show(intsOf (cV xs)).map (x :: ·)=_;rw[kG xs];rfl
def xR{xs ys:List Nat}(h:xs.Perm ys)(q:ys.Pairwise (·<=·))(B:xs.length<64):biD .sorted [.aB (cW xs)]=aa (.aB (cW ys)):=by rw[pJ,nZ,kG,SH,bJ (by unfold rY;rw[Se];exact B),zD h q,pJ];rfl
def Pth.down{t:Tr}(M:Wf t){i:Nat}{l:List Nat}(a:Pth t i l):l.Pairwise (λx y=>y<=x)/\∀x∈l,x<=i:=by
 induction a with
 |zero=>exact⟨by simp,λx B=>by simp at B;lia⟩
 |step L J r q =>
  obtain⟨_,_,O,_⟩:=(M.each _ _ L).par J;refine⟨List.pairwise_cons.mpr ⟨λy D=>?_,q.1⟩,λx B=>?_⟩;have:=q.2 y D;lia
  ·rcases List.mem_cons.mp B with z|z
   lia;have:=q.2 x z;lia
def Pth.rise{t:Tr}(q:Wf t){i:Nat}{l:List Nat}(a:Pth t i l):l.reverse.Pairwise (·<=·):=List.pairwise_reverse.mpr (a.down q).1
def Pth.last{t:Tr}{i:Nat}{l:List Nat}(a:Pth t i l):l.getLast?=aa 0:=by
 induction a with
 |zero=>rfl|step D B r q=>rw[List.getLast?_cons,q];rfl
def Pth.head{t:Tr}{i:Nat}{l:List Nat}(a:Pth t i l):∃q,l=i::q:=by
 cases a with
 |_=>exact⟨_,rfl⟩
def Pth.two{t:Tr}{i:Nat}{d:Nd}{l:List Nat}(a:Pth t i l)(D:t.ds[i]?=aa d)(L:0<i):∃B,l=i::d.par::B:=by
 cases a with
 |zero=>lia
 |step q J r =>
  rw[D]at q;cases q;obtain⟨B,rfl⟩:=r.head;exact⟨_,rfl⟩
def De(xs:List Int)(v:Int):ded (xs++[v])=if(ded xs).any (·==v)then ded xs else ded xs++[v]:=by unfold ded;rw[List.foldl_append];rfl
def Ka(xs:List Int):(ded xs).Nodup/\∀x,x∈ded xs↔x∈xs:=by
 suffices h:∀(n:Nat)(xs:List Int),xs.length=n->(ded xs).Nodup/\∀x,x∈ded xs↔x∈xs from h _ xs rfl
 intro n
 induction n with
 |zero =>
  intro xs B;have:xs=[]:=List.length_eq_zero_iff.mp B;subst this;exact⟨We,λx=>Iff.rfl⟩
 |succ n M =>
  intro xs B;rcases List.eq_nil_or_concat xs with z|⟨ys,v,z⟩
  rw[z]at B;simp at B
  ·have L:xs=ys++[v]:=by simpa using z
   subst L;obtain⟨a,b⟩:=M ys (by simp at B;exact B);rw[De]
   by_cases c:(ded ys).any (·==v)=ah
   ·rw[bJ c];have D:v∈ded ys:=by simpa using c
    refine⟨a,λx=>?_⟩;rw[b x,Xd];exact⟨.inl,λq=>q.elim id λq=>by simp at q;subst q;exact(b _).mp D⟩
   ·rw[bK c];have D:v∉ded ys:=by simpa using c
    refine⟨List.nodup_append.mpr ⟨a,by simp,λp O q J e=>?_⟩,λx=>?_⟩;simp at J;subst J;subst e;exact D O;rw[Xd,Xd,b x]
theorem xS(x:Int):∀(l:List Int),(l.map λv=>if v==x then 1 else 0).sum=l.count x
 |[]=>rfl
 |a::l=>by rw[Sf,Tn,xS x l,List.count_cons];lia
theorem sum_add(f g:Int->Nat):∀(l:List Int),(l.map λv=>f v+g v).sum=(l.map f).sum+(l.map g).sum
 |[]=>rfl
 |a::l=>by rw[Sf,Tn,sum_add f g l,Sf,Sf,Tn,Tn];lia
theorem qG(L:List Int)(B:L.Nodup):∀(es:List Int),(∀x∈es,x∈L)->(L.map λv=>es.count v).sum=es.length
 |[],_=>by
  have:∀l:List Int,(l.map λv=>List.count v ([]:List Int)).sum=0:=λl=>by
   induction l with
   |nil=>rfl|cons a r J=>rw[Sf,Tn,J];rfl
  exact this L
 |x::es,h=>by
  have e:(L.map λv=>(x::es).count v)=L.map λv=>es.count v+(if v==x then 1 else 0):=by
   apply Ub;intro v _;rw[List.count_cons];congr 1
   by_cases z:x=v
   subst z;rfl
   ·have D:¬v=x:=λq=>z q.symm;simp[z,D]
  rw[e,sum_add (λv=>es.count v) (λv=>if v==x then 1 else 0) L,qG L B es (λy M=>h y (Sb _ M)),xS,B.count,bJ (h x (Sj ..)),Sh]
def mL(t:Tr)(th:Th)(v:Int):Nat:=(gZ t th v).length
def vH{t:Tr}(th:Th)(h:rs.Perm (Sk t.ds.length))(v:Int):mL t th v=(rs.map (dF t th)).count v:=by unfold mL gZ;rw[←List.countP_eq_length_filter,←h.countP_eq,List.count,Xf];apply List.countP_congr;intro x _;simp
def eH.keep{Pt L:Pts}{h h':HH}{n:Nat}{t:Tr}(A:eH Pt h n t ro rb)(J:∀i,i<h.length->Pt i=af->h'[i]?=h[i]?)
(p:∀i c,L i=aa c->h'[i]?=aa c/\(h.length<=i\/Pt i≠af)):eH L h' n t ro rb:=by
 obtain⟨bs,A⟩:=A;have hn:=gY A.ob;have U:=gj A.og;have V:=rS A.br;have bl:∀(b:Bx),b∈bs->b.1<h.length/\b.2.1<h.length:=λb B=>by obtain⟨j,f⟩:=Ur B;obtain⟨y,o⟩:=fU (l:=t.ds) (by rw[←A.len];exact dD f);have Z:=(A.tp j b y f o).1;exact⟨gY Z.ob,gj Z.li⟩
 have D:∀i,(i=n\/i=ro\/i=rb\/∃b∈bs,i=b.1\/i=b.2.1)->Pt i=af:=λi W=>by
  cases z:Pt i with
  |none=>rfl
  |some c =>
   obtain⟨_,M,O,g,a⟩:=A.pt i c z;rcases W with w|w|w|⟨b,B,w|w⟩
   exact bL w M;exact bL w O;exact bL w g;exact bL w (a b B).1;exact bL w (a b B).2
 refine⟨bs,⟨(j0 (J n hn (D n (.inl rfl)))).trans A.ob,(kY (J ro U (D ro (.inr (.inl rfl))))).trans A.og,(vC (J rb V (D rb (.inr (.inr (.inl rfl)))))).trans A.br,A.len,λi b d B r=>?_,A.nd1,A.nd2,λi c W=>?_⟩⟩
 ·obtain⟨M,O⟩:=A.tp i b d B r;have Y:=Sg B;obtain⟨m,k⟩:=bl b Y;exact⟨⟨(j0 (J _ m (D _ (.inr (.inr (.inr ⟨b,Y,.inl rfl⟩)))))).trans M.ob,(kY (J _ k (D _ (.inr (.inr (.inr ⟨b,Y,.inr rfl⟩)))))).trans M.li⟩,O⟩
 ·obtain⟨e,q⟩:=p i c W;refine⟨e,?_⟩;rcases q with z|z
  exact⟨by lia,by lia,by lia,λb B=>by have:=bl b B;lia⟩
  ·cases w:Pt i with
   |none=>exact bL w z|some s=>exact(A.pt i s w).2
noncomputable def pt0:Pts:=λ_=>af
noncomputable def pt1(q:Nat)(c:Cl):Pts:=λi=>if i=q then aa c else af
def eH.cell{Pt:Pts}{h:HH}{n:Nat}{t:Tr}{q:Nat}{c:Cl}(A:eH (pt1 q c) h n t ro rb):h[q]?=aa c:=by obtain⟨bs,A⟩:=A;exact(A.pt q c (bJ rfl)).1
def eH.set{h:HH}{n:Nat}{t:Tr}{q:Nat}{c:Cl}(A:eH (pt1 q c) h n t ro rb)(D:Cl):eH (pt1 q D) (h.set q D) n t ro rb:=by
 have J:=dD (A.cell (Pt:=pt0));refine A.keep (λi L z=>?_) (λi d B=>?_)
 ·have:i≠q:=λe=>by rw[e]at z;unfold pt1 at z;rw[bJ rfl]at z;exact fP z.symm
  rw[Sy (Td this)]
 ·unfold pt1 at B
  by_cases e:i=q
  ·rw[bJ e]at B;cases B;subst e;refine⟨SN J,.inr ?_⟩;unfold pt1;rw[bJ rfl];intro z;exact fP z.symm
  rw[bK e]at B;exact fP B
def eH.new{Pt:Pts}{h:HH}{n:Nat}{t:Tr}(A:eH pt0 h n t ro rb)(c:Cl):eH (pt1 h.length c) (h++[c]) n t ro rb:=by
 refine A.keep (λi B _=>RU B) (λi d q=>?_);unfold pt1 at q
 by_cases e:i=h.length
 ·rw[bJ e]at q;cases q;subst e;exact⟨by simp,.inl (R0 _)⟩
 rw[bK e]at q;exact fP q
structure mZ(T:FK->Option Fn)(G:ay->Option W):Prop where
 lt:LwT T
 program:T "_law_program"=aa fk
 of:T "_law_of"=aa kE
 law:T "law"=aa jh
 q:TrQ T
 s:TrS T
 e:TrE T
 tp:TpP "Tape" T G
 tm:TpM "Tape" T
noncomputable def s64(b a Z Y:W)(n:Nat)(V U O M L J D B q:Option W):Sl :=
 [aa b,aa a,aa Z,aa Y,aa (.o n),V,U,O,M,L,J,D,B,q]
def Tp.jD(p:Pg)(aG:List Int)(most:Nat):Tp:=⟨p,aG,3,most,[St.zero],0,St.zero,0⟩
def Gk{p:Pg}{e:Nat}(q:Pg.ok p)(D:Ask aG)(R:Run St.zero p aG most e)(J:most<=1000):TI St.zero (Tp.jD p aG most) e 3 :=
 ⟨R,q,D,rN.mono (by decide),by show 0 < 3;decide,by show 3<=1000;decide,J,Tu _,rfl,by simp[Tp.jD],by simp[Tp.jD],λj B=>by
  have:j=0:=by simpa [Tp.jD]using B
  subst this;simp[Tp.jD,itr],Tu _,⟨0,by simp[Tp.jD],λz=>bL z (To _)⟩⟩
noncomputable def pt2(L:Nat)(c d:Cl):Pts:=λi=>if i=L then aa c else if i=L+1 then aa d else af
section
variable{T:FK->Option Fn}{G:ay->Option W}{Pt:Pts}{n:Nat}{ro rb:Nat}{t:Tr}
def vI(P:TrP T G)(k:Nat)(p:Pg)(aG:List Int)(most:Nat)(h:HH):
 runN T G (k+2) (.m "Tape" "__init__") [.o h.length,.p (dQ p),.p (.aB (cV aG)),.p (.int 3),.p (.int most)] (h++[.o "Tape" []])=aa (.p .aD,h++[.o "Tape" ((Tp.jD p aG most).fs (h.length+1)),.l [St.zero.enc]]):=by
 rw[run_eq P.tin rfl];have b:=mH P.tp.prg k;have D:(if(0:Int)>(most:Int)then(0:Int)else(most:Int))=(most:Int):=bK (by lia);have f:∀(c:Cl)(g:HH)(w:W),c≠.o "Tape" []->fin (h++[.o "Tape" []]) w (h++c::g)=aa (w,h++c::g):=λc g w B=>by refine j3 h.length (by simp) ?_ w;simp;exact B
 have q:=f (.o "Tape" ((Tp.jD p aG most).fs (h.length+1))) [.l [St.zero.enc]] (.p .aD) (by simp[Tp.fs]);have fs:(Tp.jD p aG most).fs (h.length+1)=([("program",.p (dQ p)),("asked",.p (.aB (cV aG))),("gap",.p (.int 3)),("most",.p (.int most)),("kept",.r (h.length+1)),("farthest",.p (.int 0)),("front",.p St.zero.enc),("now",.p (.int 0))]:List (ay×W)):=by simp[Tp.fs,Tp.jD]
 rw[fs]at q⊢;rw[gk];simp only[ff,Sf,Tc,Sh,SW];simp[D,b,q]
def fM{F:FK->List W->HH->Option (W×HH)}{o:Cm}{a b:E}{s:Sl}{h g:HH}{x y:D}{v:Bool}(h1:aL F G a s h=aa (.p x,g))(h2:aL F G b s g=aa (.p y,g2))(q:gB o x y=aa v):aL F G (.z o a b) s h=aa (.p (.bl v),g2):=by simp[h1,h2,rd,q]
def Qu(P:TrP T G)(k:Nat)(f:Wf t){h:HH}(A:eH pt0 h n t ro rb)(Z:W)(Y V U O M L J D B:Option W):
 ∃g,aL (runN T G (k+14)) G (.make "Tape" (.cons (.v 1) (.cons (.v 2) (.cons (.j (.int 3)) (.cons (.v 3) .nil))))) (s64 Z (.p (dQ t.p)) (.p (.aB (cV t.aG))) (.p (.int t.most)) n Y V U O M L J D B) h=aa (.o h.length,g) ∧
  eH (pt2 h.length (.o "Tape" ((Tp.jD t.p t.aG t.most).fs (h.length+1))) (.l [St.zero.enc])) g n t ro rb:=by
 have b:=vI P (k+12) t.p t.aG t.most h;refine⟨h++[.o "Tape" ((Tp.jD t.p t.aG t.most).fs (h.length+1)),.l [St.zero.enc]],?_,?_⟩
 ·have c:runN T G (k+14) (.m "Tape" "__init__") [.o h.length,.p (dQ t.p),.p (.aB (cV t.aG)),.p (.int 3),.p (.int t.most)] (h++[.o "Tape" []])=_:=b;simp[s64,c]
 ·refine A.keep (λi a _=>RU a) (λi d q=>?_);unfold pt2 at q
  by_cases e:i=h.length
  ·rw[bJ e]at q;cases q;subst e;exact⟨by simp,.inl (R0 _)⟩
  ·rw[bK e]at q
   by_cases e2:i=h.length+1
   ·rw[bJ e2]at q;cases q;subst e2;exact⟨by simp,.inl (by lia)⟩
   rw[bK e2]at q;exact fP q
def a64(P:TrP T G)(L:mZ T G)(k:Nat)(Y:Wf t){h:HH}{q:Nat}(A:eH (pt2 q (.o "Tape" ((Tp.jD t.p t.aG t.most).fs (q+1))) (.l [St.zero.enc])) h n t ro rb)(H F E C:W)(y x w u U M J B:Option W):
 ∃g,aL (runN T G (k+14)) G Nx (s64 H F E C n (aa (.o q)) y x w u U M J B) h=aa (.p (.bl ai),g)/\eH pt0 g n t ro rb:=by
 obtain⟨d,hd⟩:=fU (l:=t.ds) (i:=0) (by have:=Y.l0;exact List.length_pos_iff.mpr this);obtain⟨V,b,A2⟩:=Gc P L.lt.all Y A (k+1) hd;have m1:=Y.m1;have O:=Y.each 0 d hd;obtain⟨z1,z2⟩:=O.zero rfl;have R:=O.run;rw[z1,z2,Yn]at R;have en:d.en=d.e:=by unfold Nd.en;lia
 have I:=Gk Y.ok Y.ask R (by lia);have el:=R.le;have pa:(pt2 q (.o "Tape" ((Tp.jD t.p t.aG t.most).fs (q+1))) (.l [St.zero.enc])) q=aa (.o "Tape" ((Tp.jD t.p t.aG t.most).fs (q+1))):=bJ rfl;have pb:(pt2 q (.o "Tape" ((Tp.jD t.p t.aG t.most).fs (q+1))) (.l [St.zero.enc])) (q+1)=aa (.l [St.zero.enc]):=by unfold pt2;rw[bK (by lia),bJ rfl]
 have ta:TAt "Tape" V q (q+1) (Tp.jD t.p t.aG t.most):=by obtain⟨bs,A3⟩:=A2;have h1:=(A3.pt q _ pa).1;have h2:=(A3.pt (q+1) _ pb).1;exact⟨by unfold oat;rw[h1];rfl,by unfold lat;rw[h2];rfl⟩
 obtain⟨s,r2,t2,b2,Q,I2,s2,_⟩:=xG L.tp L.tm (k+5) ta I;have rg:gH .rng1 [.int ((d.e:Int)+1)]=aa (upto 0 (d.e+1)):=by
  rw[eV];have c:((-100000<=((d.e:Int)+1):Bool)&&(((d.e:Int)+1)<=100000:Bool))=ah:=by simp only[RX,bM];lia
  rw[bJ c];congr 2
 have e0:(ux d).map St.enc=(Sk (d.e+1)).filterMap λm=>aa (d.f m).enc:=by
  unfold ux;rw[en]
  induction Sk (d.e+1)with
  |nil=>rfl|cons a r ih=>rw[Sf,Sf,SC,ih]
 obtain ⟨g3,c1,⟨r3,t3,N,I3,s3⟩⟩:=rR (fz (evs (runN T G (k+14)) G .nil) (aL (runN T G (k+14)) G J7) [aa (.o q)]) (λ(m:Nat)=>D.int (0+(m:Int))) (λm=>aa (d.f m).enc) (λg=>∃ r' Z,Go "Tape" q V (q+1) (Tp.jD t.p t.aG t.most) g r' Z/\TI St.zero Z d.e 3/\Sm8 (Tp.jD t.p t.aG t.most) Z) (Sk (d.e+1)) (λm hm g ⟨r',Z,go,I',s'⟩=>by
  have ml:=List.mem_range.mp hm;obtain⟨g4,r4,t4,b4,K,I4,s4,_⟩:=CW L.tp (k+3) go.b I' m (by lia);refine⟨g4,?_,r4,t4,go.trans K,I4,s'.trans s4⟩;have fe:d.f m=itr St.zero t.p t.aG m:=by have:=O.own m (by lia);rw[z1,WS,z2]at this;exact this
  rw[s'.p,s'.aG]at b4;have S:runN T G (k+14) (.m "Tape" "at") [.o q,.p (.int m)] g=aa (.p (d.f m).enc,g4):=by rw[fe];exact b4
  have sl:([D.int ((0:Int)+(m:Int))].map fc++[aa (.o q)]:Sl)=[aa (.p (.int (m:Int))),aa (.o q)]:=by rw[WX];rfl
  unfold fz;rw[sl];simp[evs,J7,go.b.ob,Np,S]) s ⟨r2,t2,Q,I2,s2⟩
 rw[←e0]at c1;have ce:aL (runN T G (k+14)) G Nv (s64 H F E C n (aa (.o q)) y x w u U M J B) V=aa (.p (rW d),g3):=by
  refine kD (ws:=[.p (.int ((d.e:Int)+1))]) (h1:=s) ?_ ?_ rfl rfl c1 ?_
  ·have X:runN T G (k+14) (.m "Tape" "end") [.o q] V=aa (.p (.int d.e),s):=b2;simp[s64,ta.ob,GX,X]
  rw[show rds [W.p (D.int ((d.e:Int)+1))] s=aa [D.int ((d.e:Int)+1)] from rfl,SH,rg];rfl;rw[Se,xN];lia
 refine⟨g3,?_,?_⟩
 ·have b':runN T G (k+14) "_law_all" [.o n,.p (.int 0)] h=aa (.p (rW d),V):=b;have ca:aL (runN T G (k+14)) G (.call "_law_all" (.cons (.v 4) (.cons (.j (.int 0)) .nil))) (s64 H F E C n (aa (.o q)) y x w u U M J B) h=aa (.p (rW d),V):=by simp[s64,b']
  exact fM ca ce (J6 d)
 ·refine A2.keep (λi hi z=>N.fr i ?_ ?_ hi) (λi c z=>fP z);intro e;rw[e,pa]at z;exact fP z.symm;intro e;rw[e,pb]at z;exact fP z.symm
def NH(m:Nat):upto 0 m=cW (Sk m):=by unfold upto cW;apply Ub;intro i _;rw[WX]
def G0{a x:Nat}(h:rs[a]?=aa x):dI (.aB (cW rs)) (.int (a:Int))=aa (.int (x:Int)):=by rw[dJ,g8,cW,Sv,h];rfl
def Gm(P:TrP T G)(L:mZ T G)(k:Nat)(s:Wf t){h:HH}(A:eH Pt h n t ro rb)(i g e d:W)(Z Y V U O M J:Option W):∀(f a:Nat)(rs:List Nat),Bf t a rs->t.ds.length-a<=f →
 ∃D:List Nat,eX (aL (runN T G (k+14)) G C9) (evS (runN T G (k+14)) G Dc) (f+1) (s64 i g e d n Z (aa (.p (.aB (cW rs)))) (aa (.p (.int a))) Y V U O M J) h=aa (.nx (s64 i g e d n Z (aa (.p (.aB (cW D)))) (aa (.p (.int D.length))) Y V U O M J) h)/\Bf t D.length D:=by
 obtain⟨bs,v⟩:=A;have l1:=s.l1;have tst:∀(a:Nat)(rs:List Nat),aL (runN T G (k+14)) G C9 (s64 i g e d n Z (aa (.p (.aB (cW rs)))) (aa (.p (.int a))) Y V U O M J) h=aa (.p (.bl (decide (a<rs.length))),h):=λa rs=>by
  have:(cW rs).length=rs.length:=by simp[cW]
  simp[C9,s64,rd,rds,this]
 intro f
 induction f with
 |zero =>
  intro a rs B E;have q:=tst a rs;have z:=B.len;have le:=B.le;have j:a=rs.length:=by lia
  rw[bN (by lia)]at q;refine⟨rs,?_,by rw[←j];exact B⟩;rw[eX,q,j];rfl
 |succ f C =>
  intro a rs B E;have q:=tst a rs;have z:=B.len;have le:=B.le
  by_cases c:a<rs.length
  ·obtain⟨x,l⟩:=fU c;have w:=B.lt x (Sg l);have F:=lX P L.q s v (k+11) w;have u:=B.step s l;obtain⟨D,b,I⟩:=C (a+1) (rs++kids t x) u (by lia);refine⟨D,?_,I⟩;rw[bO c]at q;have y:=u.len;rw[Sz]at y;have ad:kH .add (.aB (cW rs)) (.aB (cW (kids t x)))=aa (.aB (cW (rs++kids t x))):=by rw[e9,bJ (by show _<=100000;simp[cW];lia)];simp[cW]
   have ix:=G0 l;have H:evS (runN T G (k+14)) G Dc (s64 i g e d n Z (aa (.p (.aB (cW rs)))) (aa (.p (.int a))) Y V U O M J) h=aa (.nx (s64 i g e d n Z (aa (.p (.aB (cW (rs++kids t x))))) (aa (.p (.int ((a+1:Nat):Int)))) Y V U O M J) h):=by have r:runN T G (k+14) (.m "Tree" "children") [.o n,.p (.int x)] h=aa (.p (.aB (cW (kids t x))),h):=F;simp[-dJ,-e9,Dc,s64,v.ob,ix,r,rd,ad]
   rw[eX,q,jo,mj,H,gJ,b]
  ·have j:a=rs.length:=by lia
   rw[bN c]at q;refine⟨rs,?_,by rw[←j];exact B⟩;rw[eX,q,j];rfl
def Df(rs:List Nat):dok 100 (.aB (cW rs))=ah:=o9 99 rs
def Qv(F:FK->List W->HH->Option (W×HH))(m:Wf t)(B:Bf t rs.length rs)(o:t.ds.length<=5)(d b a Z:W)(Y V U O M L J q:Option W)(h:HH):
 aL F G Ny (s64 d b a Z n Y (aa (.p (.aB (cW rs)))) V U O M L J q) h=aa (.p (.bl ai),h):=by
 have e:=B.perm m;have f:=e.length_eq;rw[T9]at f;have st:=xR e (List.pairwise_lt_range.imp λh=>Uu h) (by lia);rw[←f]at st;have g:gH .rng1 [.int (rs.length:Int)]=aa (cW (Sk rs.length)):=by
  rw[eV];have c:((-100000<=(rs.length:Int):Bool)&&((rs.length:Int)<=100000:Bool))=ah:=by simp only[RX,bM];lia
  rw[bJ c,←NH];congr 2
 have k:(cW rs).length=rs.length:=by simp[cW]
 have i:=ne_self (Df (Sk rs.length));have j:(cW (Sk rs.length)).length<=lim:=by show _<=100000;simp[cW];lia
 have e1:aL F G (.bi .sorted ai (.cons (.v 6) .nil)) (s64 d b a Z n Y (aa (.p (.aB (cW rs)))) V U O M L J q) h=aa (.p (.aB (cW (Sk rs.length))),h):=by simp[s64,rd,rds,st]
 have e2:aL F G (.lsr ai .rng1 (.cons (.bi .len ai (.cons (.v 6) .nil)) .nil)) (s64 d b a Z n Y (aa (.p (.aB (cW rs)))) V U O M L J q) h=aa (.p (.aB (cW (Sk rs.length))),h):=by
  have l:aL F G (.bi .len ai (.cons (.v 6) .nil)) (s64 d b a Z n Y (aa (.p (.aB (cW rs)))) V U O M L J q) h=aa (.p (.int rs.length),h):=by simp[s64,rd,rds,k]
  show bnd (bnd (aL F G (.bi .len ai (.cons (.v 6) .nil)) _ h) _) (kLs ai .rng1)=_;rw[l];show kLs ai .rng1 [.p (.int rs.length)] h=_;unfold kLs;rw[show rds [W.p (D.int (rs.length:Int))] h=aa [D.int (rs.length:Int)] from rfl,SH,g];show(if(cW (Sk rs.length)).length<=lim then _ else af)=_;rw[bJ j];rfl
 exact fM e1 e2 i
end
def z64(Z Y V U:W)(n:Nat)(O M:Option W)(rs:List Nat)(th:Th)(q:Nat)(L J D B:Option W):Sl :=
 s64 Z Y V U n O (aa (.p (.aB (cW rs)))) M (aa (.p th.enc)) (aa (.r q)) L J D B
def Qw(xs:List D)(a b:D):dI (.aB (xs++[a,b])) (.int (-2))=aa a:=by
 rw[dJ];show((place (xs++[a,b]).length (-2)).bind λj=>(xs++[a,b])[j]?)=aa a;have:place (xs++[a,b]).length (-2)=aa xs.length:=by unfold place;rw[bK (by decide),bJ (by simp;lia)];congr 1;simp;lia
 rw[this];simp
def G1(a b:Nat):eqv (.int (a:Int)) (.int (b:Int))=decide (a=b):=by
 by_cases z:a=b
 subst z;rw[jZ];simp
 ·have:¬(a:Int)=(b:Int):=by lia
  simp[z,this]
def Dg(x:Nat)(ks:List Nat):(cW ks).any (λy=>eqv y (.int (x:Int)))=decide (x∈ks):=by
 unfold cW;rw[List.any_map]
 by_cases z:x∈ks
 ·rw[bO z];exact List.any_eq_true.mpr ⟨x,z,by show eqv _ _=ah;rw[G1];simp⟩
 ·rw[bN z];refine List.any_eq_false.mpr λy q=>?_;show ¬eqv _ _=ah;rw[G1];intro e;exact z (by rw[←bP e];exact q)
def G2(x:Nat)(ks:List Nat):((cW ks).all λy=>ef y (.int (x:Int)))=ah:=List.all_eq_true.mpr λy _=>jI (lC _ _)
def G3(x:Nat)(ks:List Nat):gB .nmem (.int (x:Int)) (.aB (cW ks))=aa (!decide (x∈ks)):=by rw[gI,bJ (G2 x ks),Dg]
def NI(x:Nat)(ks:List Nat):gB .mem (.int (x:Int)) (.aB (cW ks))=aa (decide (x∈ks)):=by rw[iG,bJ (G2 x ks),Dg]
section
variable{T:FK->Option Fn}{G:ay->Option W}{Pt:Pts}{n:Nat}{ro rb:Nat}{t:Tr}
def Dh{F:FK->List W->HH->Option (W×HH)}{a b:E}{s:Sl}{h g:HH}{v:Bool}(h1:aL F G a s h=aa (.p (.bl ai),g))(h2:aL F G b s g=aa (.p (.bl v),g2)):aL F G (.or a b) s h=aa (.p (.bl v),g2):=by simp[h1,h2]
def Di{F:FK->List W->HH->Option (W×HH)}{a b:E}{s:Sl}{h g:HH}(h1:aL F G a s h=aa (.p (.bl ai),g)):aL F G (.and a b) s h=aa (.p (.bl ai),g):=by simp[h1]
def Dj{F:FK->List W->HH->Option (W×HH)}{a b:E}{s:Sl}{h g:HH}{v:Bool}(h1:aL F G a s h=aa (.p (.bl ah),g))(h2:aL F G b s g=aa (.p (.bl v),g2)):aL F G (.and a b) s h=aa (.p (.bl v),g2):=by simp[h1,h2]
def nB{F:FK->List W->HH->Option (W×HH)}{a b:E}{s:Sl}{h g:HH}{x y z:D}(h1:aL F G a s h=aa (.p x,g))(h2:aL F G b s g=aa (.p y,g2))(q:dI x y=aa z):aL F G (.y a b) s h=aa (.p z,g2):=by simp[-dJ,-gW,h1,h2,rd,q]
def p64(F:FK->List W->HH->Option (W×HH))(d:Wf t){i:Nat}{l:List Nat}(f:l.length<=50)(pl:Pth t i l)(V U O M:W)(L J:Option W)(rs:List Nat)(th:Th)(q:Nat)(D B:Option W)(h:HH):
 aL F G Nz (z64 V U O M n L J rs th q (aa (.p (.int i))) (aa (.p (.aB (cW l.reverse)))) D B) h=aa (.p (.bl ai),h):=by
 have b:dI (.aB (cW l.reverse)) (.int 0)=aa (.int 0):=by have:=G0 (rs:=l.reverse) (a:=0) (x:=0) (by rw[←List.head?_eq_getElem?,List.head?_reverse];exact pl.last);exact this
 have Z:dI (.aB (cW l.reverse)) (.int (-1))=aa (.int i):=by
  obtain⟨Y,rfl⟩:=pl.head;have e:cW (i::Y).reverse=cW Y.reverse++[.int i]:=by simp[cW]
  rw[e];exact nA _ _
 have st:=xR (xs:=l.reverse) (.refl _) (pl.rise d) (by rw[List.length_reverse];lia);have e1:aL F G (.z .ne (.y (.v 11) (.j (.int 0))) (.j (.int 0))) (z64 V U O M n L J rs th q (aa (.p (.int i))) (aa (.p (.aB (cW l.reverse)))) D B) h=aa (.p (.bl ai),h) :=
  fM (nB rfl rfl b) rfl (ne_self (lC _ _))
 have e2:aL F G (.z .ne (.v 11) (.bi .sorted ai (.cons (.v 11) .nil))) (z64 V U O M n L J rs th q (aa (.p (.int i))) (aa (.p (.aB (cW l.reverse)))) D B) h=aa (.p (.bl ai),h):=by refine fM rfl ?_ (ne_self (Df l.reverse));simp[z64,s64,rd,rds,st]
 have c:aL F G (.z .ne (.y (.v 11) (.neg (.j (.int 1)))) (.v 10)) (z64 V U O M n L J rs th q (aa (.p (.int i))) (aa (.p (.aB (cW l.reverse)))) D B) h=aa (.p (.bl ai),h) :=
  fM (nB rfl rfl Z) rfl (ne_self (lC _ _))
 exact Dh e1 (Dh e2 c)
def Qx(F:FK->List W->HH->Option (W×HH))(i:Nat)(Y V U O:W)(M L:Option W)(rs:List Nat)(th:Th)(q:Nat)(J D B:Option W)(h:HH):
 aL F G (.z .gt (.v 10) (.j (.int 0))) (z64 Y V U O n M L rs th q (aa (.p (.int i))) J D B) h=aa (.p (.bl (decide (0<i))),h):=by
 refine fM rfl rfl ?_;rw[kg];congr 1
 by_cases z:0<i
 rw[bO z,bO (by lia)];rw[bN z,bN (by lia)]
def q64(P:TrP T G)(L:mZ T G)(k:Nat)(a:Wf t){h:HH}{bs:List Bx}(A:jg Pt h n t ro rb bs){i:Nat}{d:Nd}{l:List Nat}(Z:t.ds[i]?=aa d)(pl:Pth t i l)(Y V U O:W)(M J:Option W)(rs:List Nat)(th:Th)(q:Nat)(D B:Option W):
 aL (runN T G (k+14)) G NB (z64 Y V U O n M J rs th q (aa (.p (.int i))) (aa (.p (.aB (cW l.reverse)))) D B) h=aa (.p (.bl ai),h) ∧
 aL (runN T G (k+14)) G NC (z64 Y V U O n M J rs th q (aa (.p (.int i))) (aa (.p (.aB (cW l.reverse)))) D B) h=aa (.p (.bl ai),h):=by
 have g:=Qx (n:=n) (G:=G) (runN T G (k+14)) i Y V U O M J rs th q (aa (.p (.aB (cW l.reverse)))) D B h;rcases T7 i with z|z
 ·rw[bN (by lia)]at g;exact⟨Di g,Di g⟩
 ·rw[bO z]at g;obtain⟨p,u,_⟩:=(a.each i d Z).par z;have f:dI (.aB (cW l.reverse)) (.int (-2))=aa (.int d.par):=by
   obtain⟨c,rfl⟩:=pl.two Z z;have e:cW (i::d.par::c).reverse=cW c.reverse++[.int d.par,.int i]:=by simp[cW]
   rw[e];exact Qw _ _ _
  have b:=vF P L.q a A (k+11) Z;have r:F9 i d=d.org:=bK (by lia);rw[r]at b;have w:=lX P L.q a A (k+11) (dD u);have s:aL (runN T G (k+14)) G (.y (.v 11) (.neg (.j (.int 2)))) (z64 Y V U O n M J rs th q (aa (.p (.int i))) (aa (.p (.aB (cW l.reverse)))) D B) h=aa (.p (.int d.par),h):=nB rfl rfl f;have o:aL (runN T G (k+14)) G (.aF (.v 4) "parent" (.cons (.v 10) .nil)) (z64 Y V U O n M J rs th q (aa (.p (.int i))) (aa (.p (.aB (cW l.reverse)))) D B) h=aa (.p d.org,h):=by simp[z64,s64,A.ob,b]
  have m:aL (runN T G (k+14)) G (.aF (.v 4) "children" (.cons (.y (.v 11) (.neg (.j (.int 2)))) .nil)) (z64 Y V U O n M J rs th q (aa (.p (.int i))) (aa (.p (.aB (cW l.reverse)))) D B) h=aa (.p (.aB (cW (kids t d.par))),h):=by simp[-dJ,z64,s64,A.ob,rd,f,w]
  have nm:=G3 i (kids t d.par);rw[bO (xP Z z)]at nm;exact⟨Dj g (fM (nB o rfl (show dI d.org (.int 0)=aa (.int d.par) from rfl)) s (ne_self (lC _ _))),Dj g (fM rfl m nm)⟩
def w64(P:TrP T G)(L:mZ T G)(k:Nat)(Y:Wf t){h:HH}(A:eH Pt h n t ro rb){i:Nat}{d:Nd}(B:t.ds[i]?=aa d)(r l j e:W)(c b:Option W)(rs:List Nat)(th:Th)(q:Nat)(M J D:Option W):
 ∃g,aL (runN T G (k+14)) G J8 (z64 r l j e n c b rs th q (aa (.p (.int i))) M J D) h=aa (.p (.int (dF t th i)),g)/\eH Pt g n t ro rb:=by
 obtain⟨bs,a⟩:=A;obtain⟨Z,v,⟨s,x⟩⟩:=gT P Y a (k+4) B;obtain⟨O,u,w⟩:=ny P Y x (k+2) B (R0 _);have o:=JX (G:=G) L.of (Y.at_ B (R0 _)).ok th (k+13) O;refine⟨O,?_,w⟩;rw[pH B];have V:runN T G (k+14) (.m "Tree" "end") [.o n,.p (.int i)] h=aa (.p (.int d.en),Z):=v;have U:runN T G (k+14) (.m "Tree" "at") [.o n,.p (.int i),.p (.int d.en)] Z=aa (.p (d.f d.en).enc,O):=u;simp[J8,z64,s64,a.ob,V,U,o]
def uy{t:Tr}{th:Th}{v:Int}{i:Nat}:i∈gZ t th v↔i<t.ds.length/\dF t th i=v:=by unfold gZ;rw[List.mem_filter,List.mem_range];simp
def n64(P:TrP T G)(L:mZ T G)(k:Nat)(l:Wf t){h:HH}(A:eH Pt h n t ro rb){i:Nat}{d:Nd}(a:t.ds[i]?=aa d)(Z Y V U:W)(O M:Option W)(rs:List Nat)(th:Th)(q:Nat)(D B:Option W):
 ∃g,aL (runN T G (k+14)) G ND (z64 Z Y V U n O M rs th q (aa (.p (.int i))) D (aa (.p (.int (dF t th i)))) B) h=aa (.p (.bl ai),g)/\eH Pt g n t ro rb:=by
 obtain⟨bs,H⟩:=id A;obtain⟨J,E,w⟩:=i9 P L.e l A (k+1) th (dF t th i);obtain⟨b,C,F⟩:=i9 P L.e l w (k+1) th ((dF t th i+1)%10007);obtain⟨y,r⟩:=id w;refine⟨b,?_,F⟩;have f:runN T G (k+14) (.m "Tree" "ends_with") [.o n,.p th.enc,.p (.int (dF t th i))] h=aa (.p (.aB (cW (gZ t th (dF t th i)))),J):=E;have c:runN T G (k+14) (.m "Tree" "ends_with") [.o n,.p th.enc,.p (.int ((dF t th i+1)%10007))] J=aa (.p (.aB (cW (gZ t th ((dF t th i+1)%10007)))),b):=C;have x:Wth (dF t th i):=by rw[pH a];exact Th.oW (l.at_ a (R0 _)).ok th
 obtain⟨K,I⟩:=x;have u:=G3 i (gZ t th (dF t th i));rw[bO (uy.mpr ⟨dD a,rfl⟩)]at u;have s:=NI i (gZ t th ((dF t th i+1)%10007));rw[bN (λz=>by have:=(uy.mp z).2;omega)]at s;have e1:aL (runN T G (k+14)) G (.aF (.v 4) "ends_with" (.cons (.v 8) (.cons (.v 12) .nil))) (z64 Z Y V U n O M rs th q (aa (.p (.int i))) D (aa (.p (.int (dF t th i)))) B) h=aa (.p (.aB (cW (gZ t th (dF t th i)))),J):=by simp[z64,s64,H.ob,f]
 have e2:aL (runN T G (k+14)) G (.aF (.v 4) "ends_with" (.cons (.v 8) (.cons (.bin .mod (.bin .add (.v 12) (.j (.int 1))) (.j (.int 10007))) .nil))) (z64 Z Y V U n O M rs th q (aa (.p (.int i))) D (aa (.p (.int (dF t th i)))) B) J=aa (.p (.aB (cW (gZ t th ((dF t th i+1)%10007)))),b):=by simp[z64,s64,r.ob,c]
 exact Dh (fM rfl e1 u) (fM rfl e2 s)
def h64(P:TrP T G)(L:mZ T G)(k:Nat)(M:Wf t){h:HH}(A:eH Pt h n t ro rb){i j:Nat}{d e:Nd}(w:t.ds[i]?=aa d)(u:t.ds[j]?=aa e)(f c b a:W)(Z Y:Option W)(rs:List Nat)(th:Th)(q:Nat)(D B:Option W):
 ∃g,aL (runN T G (k+14)) G NF (z64 f c b a n Z Y rs th q (aa (.p (.int i))) D B (aa (.p (.int j)))) h=aa (.p (.bl ai),g)/\eH Pt g n t ro rb:=by
 obtain⟨bs,A0⟩:=id A;obtain⟨r,F⟩:=M.pth i i d (R0 _) w;obtain⟨l,E⟩:=M.pth j j e (R0 _) u;obtain⟨V,R,X⟩:=vG P L.q L.s M A (k+3) w u F E;obtain⟨K,U⟩:=id X;obtain⟨C,Q,⟨I,O⟩⟩:=gT P M U (k+4) w;obtain⟨x,N,S⟩:=gT P M O (k+4) u;refine⟨x,?_,S⟩;have J:runN T G (k+14) (.m "Tree" "shared") [.o n,.p (.int i),.p (.int j)] h=aa (.p (.int (shN t (r.reverse++l.reverse) d.en e.en)),V):=R;have z:runN T G (k+14) (.m "Tree" "end") [.o n,.p (.int i)] V=aa (.p (.int d.en),C):=Q;have y:runN T G (k+14) (.m "Tree" "end") [.o n,.p (.int j)] C=aa (.p (.int e.en),x):=N;have H:=J4 t (r.reverse++l.reverse) d.en e.en;generalize shN t (r.reverse++l.reverse) d.en e.en=m at J H;have e1:aL (runN T G (k+14)) G (.aF (.v 4) "shared" (.cons (.v 10) (.cons (.v 13) .nil))) (z64 f c b a n Z Y rs th q (aa (.p (.int i))) D B (aa (.p (.int j)))) h=aa (.p (.int m),V):=by simp[z64,s64,A0.ob,J]
 have e2:aL (runN T G (k+14)) G (.bin .add (.bi .min2 ai (.cons (.aF (.v 4) "end" (.cons (.v 10) .nil)) (.cons (.aF (.v 4) "end" (.cons (.v 13) .nil)) .nil))) (.j (.int 1))) (z64 f c b a n Z Y rs th q (aa (.p (.int i))) D B (aa (.p (.int j)))) V=aa (.p (.int ((if(e.en:Int)<(d.en:Int)then(e.en:Int)else(d.en:Int))+1)),x):=by simp[z64,s64,U.ob,z,O.ob,y,rd,rds]
 refine fM e1 e2 ?_;rw[kg];congr 1;refine bN ?_;split<;>lia
end
section
variable{T:FK->Option Fn}{G:ay->Option W}{Pt:Pts}{n:Nat}{ro rb:Nat}{t:Tr}
theorem uz(F:Sl->HH->Option Fl)(v:Nat)(x:ay)(d:D)(l:List D)(s:Sl)(h:HH):gK F [(v,x)] (d::l) s h=kK (F (s.set v (aa (.p d))) h) (gK F [(v,x)] l):=rfl
theorem NJ(P:TrP T G)(L:mZ T G)(k:Nat)(f:Wf t){i:Nat}{d:Nd}(b:t.ds[i]?=aa d)(a Z Y V:W)(U O:Option W)(rs:List Nat)(th:Th)(q:Nat)(D B:Option W):∀(ys:List Nat)(J:Option W)(h:HH),(∀y∈ys,y<t.ds.length)->eH Pt h n t ro rb →
 ∃M g,gK (evS (runN T G (k+14)) G Gg) [(13,"_law_other")] (cW ys) (z64 a Z Y V n U O rs th q (aa (.p (.int i))) D B J) h=aa (.nx (z64 a Z Y V n U O rs th q (aa (.p (.int i))) D B M) g)/\eH Pt g n t ro rb
 |[],J,h,_,A=>⟨J,h,rfl,A⟩
 |y::ys,J,h,hy,A=>by obtain⟨e,l⟩:=fU (hy y (Sj ..));obtain⟨c,u,w⟩:=h64 P L k f A b l a Z Y V U O rs th q D B;obtain⟨M,m,s,v⟩:=NJ P L k f b a Z Y V U O rs th q D B ys (aa (.p (.int y))) c (λz j=>hy z (Sb _ j)) w;refine⟨M,m,?_,v⟩;have o:cW (y::ys)=.int (y:Int)::cW ys:=rfl;rw[o,uz];have r:evS (runN T G (k+14)) G Gg ((z64 a Z Y V n U O rs th q (aa (.p (.int i))) D B J).set 13 (aa (.p (.int y)))) h=aa (.nx (z64 a Z Y V n U O rs th q (aa (.p (.int i))) D B (aa (.p (.int y)))) c):=pI u;rw[r,gJ,s]
def Qz{h:HH}{q:Nat}{es:List Int}(b:h[q]?=aa (.l (cV es)))(c:es.length<=100)(v:Int)(F:FK->List W->HH->Option (W×HH))(Y V U O:W)(M L:Option W)(rs:List Nat)(th:Th)(J D B:Option W):
 evS F G (.ex (.me .append (.v 9) (.cons (.v 12) .nil))) (z64 Y V U O n M L rs th q J D (aa (.p (.int v))) B) h=aa (.nx (z64 Y V U O n M L rs th q J D (aa (.p (.int v))) B) (h.set q (.l (cV (es++[v]))))):=by
 have Z:lat h q=aa (cV es):=by unfold lat;rw[b];rfl
 have e:cV (es++[v])=cV es++[.int v]:=by simp[cV]
 have a:meW .append (.r q) [.p (.int v)] h=aa (.p .aD,h.set q (.l (cV (es++[v])))):=by rw[iE,Z];show(if(cV es).length<lim then _ else af)=_;rw[bJ (show(cV es).length<lim from by show _<100000;simp[cV];lia),e]
 have ok:kO (.r q) h=ah:=by rw[Io,Z];rfl
 simp[-iE,z64,s64,kMe,ok,a]
def b64(P:TrP T G)(L:mZ T G)(k:Nat)(a:Wf t)(l5:t.ds.length<=5){i:Nat}(hi:i<t.ds.length)(Y V U O:W)(J D:Option W)(m:∀y∈rs,y<t.ds.length)(N:rs.length<=100)(th:Th){q:Nat}{es:List Int}(Q:es.length<=100)(b M B:Option W){h:HH}(A:eH (pt1 q (.l (cV es))) h n t ro rb):
 ∃j f Z g,evS (runN T G (k+14)) G Dd (z64 Y V U O n J D rs th q (aa (.p (.int i))) b M B) h=aa (.nx (z64 Y V U O n J D rs th q (aa (.p (.int i))) j f Z) g)/\eH (pt1 q (.l (cV (es++[dF t th i])))) g n t ro rb:=by
 obtain⟨d,c⟩:=fU hi;obtain⟨l,e⟩:=a.pth i i d (R0 _) c;have ll:=e.len a;obtain⟨bs,o⟩:=id A;have K:=pG P L.q a o (k+11) hi e;have I:aL (runN T G (k+14)) G (.aF (.v 4) "path" (.cons (.v 10) .nil)) (z64 Y V U O n J D rs th q (aa (.p (.int i))) b M B) h=aa (.p (.aB (cW l.reverse)),h):=by simp[z64,s64,o.ob,K]
 have H:=p64 (n:=n) (G:=G) (runN T G (k+14)) a (by lia) e Y V U O J D rs th q M B h;obtain⟨F,E⟩:=q64 P L k a o c e Y V U O J D rs th q M B;obtain⟨g1,C,A1⟩:=w64 P L k a A c Y V U O J D rs th q (aa (.p (.aB (cW l.reverse)))) M B;obtain⟨R,z,s⟩:=n64 P L k a A1 c Y V U O J D rs th q (aa (.p (.aB (cW l.reverse)))) B;have x:=Qz (n:=n) (G:=G) (s.cell (Pt:=pt0)) Q (dF t th i) (runN T G (k+14)) Y V U O J D rs th (aa (.p (.int i))) (aa (.p (.aB (cW l.reverse)))) B;have X:=s.set (.l (cV (es++[dF t th i])));obtain⟨Z,r,w,S⟩:=NJ P L k a c Y V U O J D rs th q (aa (.p (.aB (cW l.reverse)))) (aa (.p (.int (dF t th i)))) rs B _ m X;refine⟨aa (.p (.aB (cW l.reverse))),aa (.p (.int (dF t th i))),Z,r,?_,S⟩;have u:evS (runN T G (k+14)) G (.for [(13,"_law_other")] .seq (.cons (.v 6) .nil) Gg) (z64 Y V U O n J D rs th q (aa (.p (.int i))) (aa (.p (.aB (cW l.reverse)))) (aa (.p (.int (dF t th i)))) B) (R.set q (.l (cV (es++[dF t th i]))))=aa (.nx (z64 Y V U O n J D rs th q (aa (.p (.int i))) (aa (.p (.aB (cW l.reverse)))) (aa (.p (.int (dF t th i)))) Z) r):=w;exact(gi I).trans ((jX (pI H)).trans ((jX (pI F)).trans ((jX (pI E)).trans ((gi C).trans ((jX (pI z)).trans ((jX x).trans u))))))
theorem NK(P:TrP T G)(L:mZ T G)(k:Nat)(v:Wf t)(s:t.ds.length<=5)(d c b a:W)(Z Y:Option W){rs:List Nat}(e:∀y∈rs,y<t.ds.length)(r:rs.length<=50)(th:Th){q:Nat}:∀(ys:List Nat)(es:List Int)(M J D B:Option W)(h:HH),(∀y∈ys,y<t.ds.length)->es.length+ys.length<=100->eH (pt1 q (.l (cV es))) h n t ro rb →
 ∃o V U O g,gK (evS (runN T G (k+14)) G Dd) [(10,"_law_run")] (cW ys) (z64 d c b a n Z Y rs th q M J D B) h=aa (.nx (z64 d c b a n Z Y rs th q o V U O) g)/\eH (pt1 q (.l (cV (es++ys.map (dF t th))))) g n t ro rb
 |[],es,M,J,D,B,h,_,_,A=>⟨M,J,D,B,h,rfl,by rw[Tc,TJ];exact A⟩
 |y::ys,es,M,J,D,B,h,hy,hl,A=>by rw[Sh]at hl;obtain⟨V,U,O,u,I,K⟩:=b64 P L k v s (hy y (Sj ..)) d c b a Z Y e (by lia) th (by lia) J D B A;obtain⟨m,j,i,f,C,H,w⟩:=NK P L k v s d c b a Z Y e r th ys (es++[dF t th y]) (aa (.p (.int y))) V U O u (λz x=>hy z (Sb _ x)) (by rw[Sz,UH];lia) K;refine⟨m,j,i,f,C,?_,by rw[Tg]at w;exact w⟩;have E:cW (y::ys)=.int (y:Int)::cW ys:=rfl;rw[E,uz];have F:evS (runN T G (k+14)) G Dd ((z64 d c b a n Z Y rs th q M J D B).set 10 (aa (.p (.int y)))) h=aa (.nx (z64 d c b a n Z Y rs th q (aa (.p (.int y))) V U O) u):=I;rw[F,gJ,H]
def Dl{xs ys:List Nat}(h:xs.Perm ys):xs.sum=ys.sum:=by
 induction h with
 |nil=>rfl|cons x _ q=>rw[Tn,Tn,q]|swap x y l=>rw[Tn,Tn,Tn,Tn];lia|trans _ _ a b=>exact a.trans b
theorem uA:∀l:List Nat,(rY l).sum=((l.sum:Nat):Int)
 |[]=>rfl
 |x::l=>by have:=uA l;unfold rY at this⊢;rw[Sf,Tn,this,Tn];lia
def r64(P:TrP T G)(L:mZ T G)(k:Nat)(Wt:Wf t)(l5:t.ds.length<=5)(c b Z Y:W)(V U:Option W)(pm:rs.Perm (Sk t.ds.length))(th:Th){q:Nat}(O M J B:Option W){h:HH}(A:eH (pt1 q (.l (cV (rs.map (dF t th))))) h n t ro rb):
 ∃g,aL (runN T G (k+14)) G NG (z64 c b Z Y n V U rs th q O M J B) h=aa (.p (.bl ah),g):=by
 have K:=pm.length_eq;rw[T9]at K;have N:lat h q=aa (cV (rs.map (dF t th))):=by unfold lat;rw[A.cell (Pt:=pt0)];rfl
 obtain⟨z,C⟩:=Ka (rs.map (dF t th));have y:=sortI_perm (ded (rs.map (dF t th)));have d:biD .sset [.aB (cV (rs.map (dF t th)))]=aa (.aB (cV (sortI (ded (rs.map (dF t th)))))):=by rw[sX,kG,SH,bJ (by rw[Se];lia)];rfl
 have dl:(sortI (ded (rs.map (dF t th)))).length<=5:=by rw[y.length_eq];have:=Wg z (l₂:=rs.map (dF t th)) λx j=>(C x).mp j;rw[Se]at this;lia
 have f:((sortI (ded (rs.map (dF t th)))).map λv=>mL t th v).sum=rs.length:=by rw[Dl (y.map _)];have:(ded (rs.map (dF t th))).map (λv=>mL t th v)=(ded (rs.map (dF t th))).map λv=>(rs.map (dF t th)).count v:=Ub λv _=>vH th pm v;rw[this,qG _ z _ (λx j=>(C x).mpr j),Se]
 generalize sortI (ded (rs.map (dF t th)))=vs at d dl f;obtain ⟨g,s,_⟩:=rR (fz (evs (runN T G (k+14)) G .nil) (aL (runN T G (k+14)) G J9) [aa (.o n),aa (.p th.enc)]) (λ(v:Int)=>D.int v) (λv=>aa (D.int (mL t th v:Int))) (λg=>eH (pt1 q (.l (cV (rs.map (dF t th))))) g n t ro rb) vs (λv hv g F=>by
  obtain⟨bs,w⟩:=id F;obtain⟨E,b1,A1⟩:=i9 P L.e Wt F (k+1) th v;refine⟨E,?_,A1⟩;have u:runN T G (k+14) (.m "Tree" "ends_with") [.o n,.p th.enc,.p (.int v)] g=aa (.p (.aB (cW (gZ t th v))),E):=b1;have i:(cW (gZ t th v)).length=mL t th v:=by unfold mL;simp[cW]
  have I:([D.int v].map fc++[aa (.o n),aa (.p th.enc)]:Sl)=[aa (.p (.int v)),aa (.o n),aa (.p th.enc)]:=rfl;unfold fz;rw[I];simp[evs,J9,w.ob,u,rd,rds,i]) h A
 have S:(vs.filterMap λv=>aa (D.int (mL t th v:Int)))=cW (vs.map λv=>mL t th v):=by
  unfold cW;rw[UG];clear s d dl f
  induction vs with
  |nil=>rfl|cons a r Q=>rw[SC,Sf,Q];rfl
 rw[S]at s;have X:aL (runN T G (k+14)) G zC (z64 c b Z Y n V U rs th q O M J B) h=aa (.p (.aB (cW (vs.map λv=>mL t th v))),g):=by refine kD (ws:=[.p (.aB (cV vs))]) (h1:=h) ?_ ?_ rfl rfl s ?_;simp[z64,s64,rds,rd,N,d];rfl;simp[cW];lia
 have H:biD .sum [.aB (cW (vs.map λv=>mL t th v))]=aa (.int (rs.length:Int)):=by rw[pJ,wj,kG,←f];show aa (D.int (rY (vs.map λv=>mL t th v)).sum)=_;rw[uA]
 have e1:aL (runN T G (k+14)) G (.bi .sum ai (.cons zC .nil)) (z64 c b Z Y n V U rs th q O M J B) h=aa (.p (.int (rs.length:Int)),g):=by
  have R:evs (runN T G (k+14)) G (.cons zC .nil) (z64 c b Z Y n V U rs th q O M J B) h=aa ([.p (.aB (cW (vs.map λv=>mL t th v)))],g):=by show bnd (aL _ G zC _ h) _=_;rw[X];rfl
  show bnd (evs _ G (.cons zC .nil) _ h) _=_;rw[R,d9];simp[rds,rd,H]
 have i:(cW rs).length=rs.length:=by simp[cW]
 have e2:aL (runN T G (k+14)) G (.bi .len ai (.cons (.v 6) .nil)) (z64 c b Z Y n V U rs th q O M J B) g=aa (.p (.int (rs.length:Int)),g):=by simp[z64,s64,rd,rds,i]
 refine⟨g,fM e1 e2 ?_⟩;rw[we,bJ (jI (lC _ _)),jZ]
def zE(P:TrP T G)(L:mZ T G)(ns:List Int)(Y:ns.length<=1000)(k:Nat):∃h',runN T G (k+15) "law" [.p (.aB (cV ns))] []=aa (.p (.bl ah),h'):=by
 obtain⟨pg,I,y⟩:=um (G:=G) L.lt.lw L.program ns Y 20;obtain⟨aG,C,_,ra⟩:=zl (G:=G) L.lt.lw ns Y 450;obtain⟨most,hm,dm⟩:=iC (G:=G) L.lt.lw ns Y 440 17 (by lia);obtain⟨D,t,b1,M,A1,rfl,rfl,rfl,Z⟩:=rX (Pt:=pt0) P L.lt ns Y 600 k I.ok C (most:=most) (by lia) [] (λi c z=>fP z);obtain⟨h2,b2,A2⟩:=Qu P k M A1 (.p (.aB (cV ns))) af af af af af af af af af;obtain⟨J,X,f⟩:=a64 P L k M A2 (.p (.aB (cV ns))) (.p (dQ t.p)) (.p (.aB (cV t.aG))) (.p (.int t.most)) af af af af af af af af;obtain⟨q,S,B⟩:=Gm P L k M f (.p (.aB (cV ns))) (.p (dQ t.p)) (.p (.aB (cV t.aG))) (.p (.int t.most)) (aa (.o D.length)) af af af af af af 99999 0 [0] (Bf.zero M) (by lia);have b:=B.perm M;have A:=b.length_eq;rw[T9]at A;have R:=Qv (n:=0) (G:=G) (runN T G (k+14)) M B Z (.p (.aB (cV ns))) (.p (dQ t.p)) (.p (.aB (cV t.aG))) (.p (.int t.most)) (aa (.o D.length)) (aa (.p (.int q.length))) af af af af af af J;obtain⟨th,rt⟩:=qF (G:=G) L.lt.lw L.lt.thing ns Y 702;have A4:=f.new (Pt:=pt0) (.l (cV []));obtain⟨W,V,U,O,F,Q,e⟩:=NK P L k M Z (.p (.aB (cV ns))) (.p (dQ t.p)) (.p (.aB (cV t.aG))) (.p (.int t.most)) (aa (.o D.length)) (aa (.p (.int q.length))) B.lt (by lia) th q [] af af af af _ B.lt (by simp;lia) A4;rw[UF]at e;obtain⟨d,N⟩:=r64 P L k M Z (.p (.aB (cV ns))) (.p (dQ t.p)) (.p (.aB (cV t.aG))) (.p (.int t.most)) (aa (.o D.length)) (aa (.p (.int q.length))) b th W V U O e;have w:∀x,aL (runN T G (k+14)) G (.call "_law_program" (.cons (.v 0) (.cons (.j (.int 20)) .nil))) (aa (.p (.aB (cV ns)))::x) []=aa (.p (dQ t.p),[]):=λx=>by have:=y (k+7) [];simp[this]
 have u:∀x,aL (runN T G (k+14)) G (.call "_law_asked" (.cons (.v 0) (.cons (.j (.int 450)) .nil))) (aa (.p (.aB (cV ns)))::x) []=aa (.p (.aB (cV t.aG)),[]):=λx=>by have:=ra (k+11) [];simp[this]
 have s:∀x,aL (runN T G (k+14)) G (.call "_law_drawn" (.cons (.v 0) (.cons (.j (.int 440)) (.cons (.j (.int 17)) .nil)))) (aa (.p (.aB (cV ns)))::x) []=aa (.p (.int t.most),[]):=λx=>by have:=dm (k+12) [];simp[this]
 have r:∀x,aL (runN T G (k+14)) G (.call "_law_tree" (.cons (.v 0) (.cons (.j (.int 600)) (.cons (.v 1) (.cons (.v 2) (.cons (.v 3) .nil)))))) (aa (.p (.aB (cV ns)))::aa (.p (dQ t.p))::aa (.p (.aB (cV t.aG)))::aa (.p (.int t.most))::x) []=aa (.o 0,D):=λx=>by have a:runN T G (k+14) "_law_tree" [.p (.aB (cV ns)),.p (.int 600),.p (dQ t.p),.p (.aB (cV t.aG)),.p (.int t.most)] []=aa (.o 0,D):=b1;simp[a]
 have m:evS (runN T G (k+14)) G (.j C9 Dc) (s64 (.p (.aB (cV ns))) (.p (dQ t.p)) (.p (.aB (cV t.aG))) (.p (.int t.most)) 0 (aa (.o D.length)) (aa (.p (.aB (cW [0])))) (aa (.p (.int 0))) af af af af af af) J=aa (.nx (s64 (.p (.aB (cV ns))) (.p (dQ t.p)) (.p (.aB (cV t.aG))) (.p (.int t.most)) 0 (aa (.o D.length)) (aa (.p (.aB (cW q)))) (aa (.p (.int q.length))) af af af af af af) J):=S;have h:aL (runN T G (k+14)) G (.call "_law_thing" (.cons (.v 0) (.cons (.j (.int 702)) .nil))) (s64 (.p (.aB (cV ns))) (.p (dQ t.p)) (.p (.aB (cV t.aG))) (.p (.int t.most)) 0 (aa (.o D.length)) (aa (.p (.aB (cW q)))) (aa (.p (.int q.length))) af af af af af af) J=aa (.p th.enc,J):=by have:=rt (k+11) J;simp[s64,this]
 have g:evS (runN T G (k+14)) G (.for [(10,"_law_run")] .seq (.cons (.v 6) .nil) Dd) (z64 (.p (.aB (cV ns))) (.p (dQ t.p)) (.p (.aB (cV t.aG))) (.p (.int t.most)) 0 (aa (.o D.length)) (aa (.p (.int q.length))) q th J.length af af af af) (J++[.l (cV [])])=aa (.nx (z64 (.p (.aB (cV ns))) (.p (dQ t.p)) (.p (.aB (cV t.aG))) (.p (.int t.most)) 0 (aa (.o D.length)) (aa (.p (.int q.length))) q th J.length W V U O) F):=Q;have K:evS (runN T G (k+14)) G jh.body (ff jh.ns.length [.p (.aB (cV ns))]) []=aa (.rt (.p (.bl ah)) d) :=
  (gi (w _)).trans ((gi (u _)).trans ((gi (s _)).trans ((gi (r _)).trans ((gi b2).trans ((jX (pI X)).trans ((gi rfl).trans ((gi rfl).trans ((jX m).trans ((jX (pI R)).trans ((gi h).trans ((gi rfl).trans ((jX g).trans (kU N)))))))))))))
 obtain⟨E,H,_⟩:=mJ [] (.bl ah) d;refine⟨E,?_⟩;rw[run_eq L.law rfl,K,kj,H]
end
end BT
end
section
namespace BF
open PySem PySem.Spec PyProof.Rows L2 BS
variable{K:RQ}
def vJ(P:So)(w:SQ)(K:RQ)(mg:ay->Option aA)(x:ay)(z:aN):Prop:=∃u v,mg x=aa u/\RelV v u/\∀m H,RW P w K m H v z
def Dm(X:K.In h)(G:h.Ns Ss mg)(a:Te K Ss x=aa (aa (.int n t))):vJ P w K mg x (.p (.int n)) :=
 ⟨_,.int n,UX X G a,⟨t,rfl⟩,λ_ _=>.p (.int n)⟩
inductive gA:List ay->List aA->Prop
 |nil:gA [] []
 |cons{x:ay}{xs:List ay}{t:Tok}{vs:List aA}(h:PyData.strOk x=ah)(r:gA xs vs):gA (x::xs) (.str x t::vs)
theorem gA.vals:∀{xs:List ay}{vs:List aA},gA xs vs->dg (xs.map V.str) vs
 |_,_,.nil=>.nil|_,_,.cons _ r=>.cons ⟨_,rfl⟩ r.vals
theorem gA.rds{K:RQ}:∀{xs:List ay}{vs:List aA},gA xs vs->RDs K m H (xs.map V.str) (xs.map aM.str)
 |_,_,.nil=>.nil|_,_,.cons h r=>.cons (.str _ h) r.rds
theorem gA.len:∀{xs:List ay}{vs:List aA},gA xs vs->vs.length=xs.length
 |_,_,.nil=>rfl
 |_,_,.cons _ r=>by simp[r.len]
def Dn(X:K.In h)(G:h.Ns Ss mg)(a:Te K Ss x=aa (aa (.ref f)))
(l:K.lookup f=aa ⟨.type "tuple",af,.seq its n,sl⟩)(q:xs.length<=1000)(r:gA xs its.toList):vJ P w K mg x (.p (.aC (xs.map aM.str))):=by
 refine⟨_,.ref f,UX X G a,rfl,λm H=>.p (.aC (.inr ⟨_,its,n,⟨l,rfl,rfl,?_,r.vals⟩,rfl⟩) r.rds)⟩;have:=r.len;have e:its.size=xs.length:=by rw[←this];simp
 rw[e];exact Uu (yt q)
inductive i6(w:SQ):List (ay×Int)->List W7->Prop
 |nil:i6 w [] []
 |cons{x:ay}{n:Int}{kvs:List (ay×Int)}{t u:Tok}{es:List W7}(r:i6 w kvs es):i6 w ((x,n)::kvs) (⟨PyData.keyHash w.params x,.str x t,.int n u⟩::es)
theorem i6.ex:∀{kvs:List (ay×Int)}{es:List W7},i6 w kvs es->∃vs:List (Key×aA),KV ((kvs.map λq=>(q.1,V.int q.2)).map λq=>((Sum.inr q.1:Key),q.2)) vs/\Pairs (dH P w) es vs/\vs.map (·.1)=kvs.map (λq=>(Sum.inr q.1:Key))/\(∀e∈es,∃k,(dH P w).is k e.key=ah/\e.hash=(dH P w).hash k)
 |_,_,.nil=>⟨[],.nil,.nil,rfl,λe B=>nomatch B⟩
 |_,_,@i6.cons _ x n kvs t u es r=>by
  obtain⟨vs,M,L,J,D⟩:=r.ex (P:=P);have is:(dH P w).is (Sum.inr x) (.str x t)=ah:=by show Wq x (.str x t)=ah;simp[Wq]
  refine⟨(Sum.inr x,.int n u)::vs,.cons ⟨rfl,u,rfl⟩ M,.cons is rfl L,by simp[J],λe B=>?_⟩;rcases List.mem_cons.mp B with rfl|B
  exact⟨Sum.inr x,is,rfl⟩;exact D e B
def zF{P:So}{w:SQ}{h:aq}{mg:ay->Option aA}(X:K.In h)(G:h.Ns Ss mg){x:ay}{f:az}{es:Array W7}{n:Nat}{kvs:List (ay×Int)}(a:Te K Ss x=aa (aa (.ref f)))
(l:K.lookup f=aa {cls:=.type "dict",data:=.dict es n})(W:(f==Vj)=ai)(r:i6 w kvs es.toList)(B:(kvs.map (·.1)).Nodup):vJ P w K mg x (.k (.t (kvs.map λq=>(q.1,aM.int q.2)))):=by
 obtain⟨O,M,L,J,D⟩:=r.ex (P:=P);refine⟨_,.ref f,UX X G a,rfl,λm H=>.k (es:=kvs.map λq=>(q.1,V.int q.2)) ⟨W,O,M,λb Z=>⟨_,es,n,Z _ _ l,⟨rfl,rfl,rfl⟩,rfl,λe Y=>D e (by simpa using Y),L,?_⟩⟩ ?_⟩
 ·rw[J];have e:(kvs.map λq=>(Sum.inr q.1:Key))=(kvs.map (·.1)).map Sum.inr:=by simp
  rw[e];exact List.pairwise_map.mpr (B.imp λh z=>h (Sum.inr.inj z))
 ·clear r B M L J D l
  induction kvs with
  |nil=>exact .nil|cons q kvs U=>exact .cons (λ_ _=>.int _) U
noncomputable def look{κ q:Type}[DecidableEq κ](l:List (κ×q))(x:κ):Option q:=match l with
 |[]=>af
 |(y,a)::r=>if y=x then aa a else look r x
theorem j5{κ q:Type}[DecidableEq κ]{Q:κ->q->Prop}:∀{l:List (κ×q)} (_:∀p∈l,Q p.1 p.2) {x:κ}{a:q},look l x=aa a->Q x a
 |[],_,_,_,e=>by exact bI e
 |(y,b)::r,h,x,a,e=>by
  rw[look]at e;split at e
  ·rename_i z;cases e;subst z;exact h (y,b) Sj
  exact j5 (λp B=>h p (Sb _ B)) e
theorem gf{K:RQ}:∀ns:List Int,RDs K m H (ns.map V.int) (BT.cV ns)
 |[]=>.nil|n::r=>.cons (.int n) (gf r)
def Do(tb:TB K H)(B:LL K H a (ns.map V.int))(e:∃h',g [.p (.aB (BT.cV ns))] []=aa (.p (.bl ah),h')):spF P w K g [.ref a] H (λv _=>v=.bl ah) λ_ _ _=>False:=by obtain⟨h',e⟩:=e;refine⟨[],_,[],_,h',⟨We,rfl,λi a D z=>by simp at z,tb⟩,.cons (.p (.aB (B.elim (λq=>.inl ⟨q,by simp⟩) .inr) (gf ns))) .nil,e,λv L J _ _ r=>mz r⟩
end BF
end
section
namespace BG
open PySem PySem.Spec PySem.Calls PyProof.Rows L2 BS BF
variable{K:RQ}{st:WJ}
def Gn(H:∀p∈K,h.get? p.1=aa p.2):K.In h:=by
 intro a o e;obtain⟨p,D,B⟩:∃p∈K,p.1=a/\p.2=o:=by
  clear H
  induction K with
  |nil=>exact bI e
  |cons q r J =>
   rw[Uk]at e;split at e
   ·rename_i c;cases e;exact⟨q,Sj,(bQ c).symm,rfl⟩
   ·obtain⟨p,D,B⟩:=J e;exact⟨p,Sb _ D,B⟩
 rw[←B.1,←B.2];exact H p D
inductive NL(K:RQ)(x qual:ay)(st:WJ)(f:az):Prop
 |mk(fd:Uv)(F:Fun K x qual st f fd)(kV doc pm:aA)(an:Option az)(cdv ct:aA)(e:fd=Ue x qual (fX st) (dS st) (c6 st) .none kV doc pm an cdv ct):NL K x qual st f
def Dp(e:DG K f=aa (vL x qual st)):NL K x qual st f:=by
 unfold DG at e;split at e
 ·rename_i Z Y O U l;have q:=Sa e;unfold vL at q;obtain⟨nm,L,W,d,V,a,cl,b,B,D,pm,an,J,ct,c⟩:=O;simp only[FS.mk.injEq]at q;obtain⟨rfl,rfl,rfl,rfl,rfl,rfl,rfl,rfl,rfl,M⟩:=q;have F:=HQ (K:=K) (x:=nm) (qual:=L) (st:=st) (f:=f) (kV:=B) (doc:=D) (pm:=pm) (an:=an) (cdv:=J) (ct:=ct) l M (by simp only[TY,l]);exact⟨_,F,B,D,pm,an,J,ct,rfl⟩
 exact bI e
def nth{q:Type}{l:List q}{a:q}(i:Nat)(h:l[i]?=aa a):a∈l:=Sg h
noncomputable def uB(ns:List ay):Bool:=ns.all λn=>!(n.cps[0]?==aa 60)
def NN(y:ay):(BT.jN y).cps[0]?=aa 60:=by show(((#[60]:Array Nat)++y.cps)++#[62])[0]?=aa 60;rw[←Yb];simp
def Dq(h:uB ns=ah)(y:ay):ns.contains (BT.jN y)=ai:=by
 cases e:ns.contains (BT.jN y)with
 |false=>rfl
 |true =>
  have:=List.all_eq_true.mp h _ (List.contains_iff_mem.mp e);rw[NN]at this;exact aS this
def Dr(h:uB fn.ns=ah):oU K q fd fn:=λy B=>by rw[Dq h y]at B;exact aS B
section
variable{K:RQ}
def rZ(e:refOf o=aa f):o=aa (aa (.ref f)):=by unfold refOf at e;split at e;cases e;rfl;exact bI e
def Kc(X:K.In h)(G:h.Ns Ss mg)(e:fN K (.fn x f st)=fO w (.fn x f st))
(sc:fY fn.ns fn.ps (c6 st))(L:∀(kV doc pm:aA)(an:Option az)(cdv ct:aA)(us:List aA),us.length=fn.ps.length->YJ (Ue x x (fX st) (dS st) (c6 st) .none kV doc pm an cdv ct) ⟨us,[]⟩=pure (fn.ps.zip us))
(M:CSs (c6 st) fn.ns fn.body (dS st))(tg:∀fd,Te K Ss x=aa (aa (.ref f))->(∃B q D,K.lookup f=aa ⟨B,q,.func fd,D⟩)->oU K x fd fn):Def K mg x fn:=by
 simp only[fN,fO,Ov.fn.injEq]at e;obtain⟨fd,F,kV,doc,pm,an,cdv,ct,rfl⟩:=Dp e.2;refine⟨f,_,st,UX X G (rZ e.1),F,sc,F.binds L,M,tg _ (rZ e.1) ?_⟩;obtain⟨B,q,kV,doc,pm,an,cdv,ct,osl,e1,J,_⟩:=F.ex;exact⟨B,q,osl,J⟩
def Ds(e:fN K (.cls c C)=fO w (.cls c C)):oz K c C:=by simp only[fN,fO,Ov.b.injEq,K5,RX,bM]at e;obtain⟨⟨⟨⟨⟨⟨V,U⟩,O⟩,M⟩,L⟩,J⟩,D⟩:=e;refine⟨V,⟨U,O,M,L⟩,λf B=>?_,D⟩;have q:f∈attrs:=List.contains_iff_mem.mp B;exact bP (p:=SD K (.ref C) f=aa af) (List.all_eq_true.mp J f q)
def Gp(X:K.In h)(G:h.Ns Ss mg)(M:fN K (.cls c C)=fO w (.cls c C))(D:fN K (.mk C)=fO w (.mk C))(e:fN K (.me C m x qual f st)=fO w (.me C m x qual f st))
(sc:fY fn.ns fn.ps (c6 st))(L:∀(kV doc pm:aA)(an:Option az)(cdv ct:aA)(us:List aA),us.length=fn.ps.length->YJ (Ue x qual (fX st) (dS st) (c6 st) .none kV doc pm an cdv ct) ⟨us,[]⟩=pure (fn.ps.zip us))
(O:CSs (c6 st) fn.ns fn.body (dS st))(tg:uB fn.ns=ah):Co K mg c m fn:=by
 have J:=Ds M;simp only[fN,fO,Ov.fn.injEq]at e;obtain⟨e1,e2⟩:=e;obtain⟨U,F,kV,doc,pm,an,cdv,ct,rfl⟩:=Dp e2;have B:meB K C m f=ah:=by
  cases q:meB K C m f with
  |true=>rfl|false=>rw[q]at e1;exact bI e1
 simp only[meB,RX,bM]at B;simp only[fN,fO,Ov.b.injEq,mkB,RX]at D;refine⟨C,f,_,x,qual,st,J,UX X G J.cn,⟨B.1,B.2,F.kp⟩,λz=>?_,F,sc,F.binds L,O,Dr tg⟩;subst z;exact⟨D.1,B.1,B.2,D.2⟩
def none_of(X:K.In h)(G:h.Ns Ss mg)(e:fN K (.no x)=fO w (.no x)):mg x=af:=by simp only[fN,fO,Ov.b.injEq,bM]at e;exact PySem.W.mg_none_of X G e
def Dt(h:intOf v=aa x):∃t,v=.int x t:=by cases v<;>simp[intOf]at h;exact⟨_,by rw[h]⟩
def Du(h:strOf v=aa x):∃t,v=.str x t:=by cases v<;>simp[strOf]at h;exact⟨_,by rw[h]⟩
def fK(X:K.In h)(G:h.Ns Ss mg)(e:fN K (.int x n)=fO w (.int x n)):vJ P w K mg x (.p (.int n)):=by
 simp only[fN,fO,Ov.int.injEq]at e;split at e
 ·rename_i v q;obtain⟨t,rfl⟩:=Dt e;exact Dm X G q
 exact bI e
theorem xT:∀{xs:List ay}{vs:List aA},xs.all PyData.strOk=ah->vs.map strOf=xs.map aa->gA xs vs
 |[],[],_,_=>.nil
 |[],_::_,_,h=>by simp at h
 |_::_,[],_,h=>by simp at h
 |x::xs,v::vs,k,h=>by simp only[Sf,Vg]at h;simp only[List.all_cons,RX]at k;obtain⟨t,rfl⟩:=Du h.1;exact .cons k.1 (xT k.2 h.2)
theorem xU:∀{kvs:List (ay×Int)}{es:List W7},es.map (λe=>(e.hash,strOf e.key,intOf e.val))=kvs.map (λq=>(PyData.keyHash w.params q.1,aa q.1,aa q.2))->i6 w kvs es
 |[],[],_=>.nil
 |[],_::_,h=>by simp at h
 |_::_,[],h=>by simp at h
 |(x,n)::kvs,⟨ha,k,v⟩::es,h=>by simp only[Sf,Vg,Xq]at h;obtain⟨⟨rfl,J,D⟩,B⟩:=h;obtain⟨t,rfl⟩:=Du J;obtain⟨u,rfl⟩:=Dt D;exact .cons (xU B)
def Dv(X:K.In h)(G:h.Ns Ss mg)(e:fN K (.aC x f xs)=fO w (.aC x f xs))(L:xs.length<=1000)(J:xs.all PyData.strOk=ah):vJ P w K mg x (.p (.aC (xs.map aM.str))):=by simp only[fN,fO,Ov.seq.injEq]at e;obtain⟨e1,e2,q⟩:=e;obtain⟨o,l,B⟩:=Option.map_eq_some_iff.mp e2;rw[l]at q;obtain⟨cl,U,O,D⟩:=o;simp only[shp,Xq]at B;obtain⟨rfl,rfl,M⟩:=B;have:D=#[]:=WG M;subst this;simp only[SH,zJ]at q;cases O<;>simp only[Vt,reduceCtorEq]at q;exact Dn X G (rZ e1) l L (xT J q)
def Dw(X:K.In h)(G:h.Ns Ss mg){x:ay}{f:az}{kvs:List (ay×Int)}(e:fN K (.dct x f kvs)=fO w (.dct x f kvs))(M:(f==Vj)=ai)(L:(kvs.map (·.1)).Nodup):vJ P w K mg x (.k (.t (kvs.map λq=>(q.1,aM.int q.2)))):=by simp only[fN,fO,Ov.dct.injEq]at e;obtain⟨e1,e2,B⟩:=e;obtain⟨o,l,D⟩:=Option.map_eq_some_iff.mp e2;rw[l]at B;obtain⟨cl,V,U,J⟩:=o;simp only[shp,Xq]at D;obtain⟨rfl,rfl,O⟩:=D;have:J=#[]:=WG O;subst this;simp only[SH,Gv]at B;cases U<;>simp only[Vt,reduceCtorEq]at B;exact zF X G (rZ e1) l M (xU B) L
end
def zG{q:Type}{us:List q}{n:Nat}(h:us.length=n+1):∃a r,us=a::r/\r.length=n:=by
 cases us with
 |nil=>simp at h|cons a r=>exact⟨a,r,rfl,by simpa using h⟩
def len0{q:Type}{us:List q}(h:us.length=0):us=[]:=WW h
def NO{B:Type}{us:List B}(h:us.length=1):∃q,us=[q]:=by obtain⟨q,r,rfl,g⟩:=zG h;exact⟨q,by rw[len0 g]⟩
def NP{D:Type}{us:List D}(h:us.length=2):∃B q,us=[B,q]:=by obtain⟨B,r,rfl,g⟩:=zG h;obtain⟨q,rfl⟩:=NO g;exact⟨B,q,rfl⟩
def NQ{J:Type}{us:List J}(h:us.length=3):∃D B q,us=[D,B,q]:=by obtain⟨D,r,rfl,g⟩:=zG h;obtain⟨B,q,rfl⟩:=NP g;exact⟨D,B,q,rfl⟩
def NR{L:Type}{us:List L}(h:us.length=4):∃J D B q,us=[J,D,B,q]:=by obtain⟨J,r,rfl,g⟩:=zG h;obtain⟨D,B,q,rfl⟩:=NQ g;exact⟨J,D,B,q,rfl⟩
def NS{M:Type}{us:List M}(h:us.length=5):∃L J D B q,us=[L,J,D,B,q]:=by obtain⟨L,r,rfl,g⟩:=zG h;obtain⟨J,D,B,q,rfl⟩:=NR g;exact⟨L,J,D,B,q,rfl⟩
def QA{O:Type}{us:List O}(h:us.length=6):∃M L J D B q,us=[M,L,J,D,B,q]:=by obtain⟨M,r,rfl,g⟩:=zG h;obtain⟨L,J,D,B,q,rfl⟩:=NS g;exact⟨M,L,J,D,B,q,rfl⟩
noncomputable abbrev BdT(x qual:ay)(st:WJ)(fn:bz):Prop:=∀(kV B J:aA)(L:Option az)(D ct:aA)(q:List aA),q.length=fn.ps.length->YJ (Ue x qual (fX st) (dS st) (c6 st) .none kV B J L D ct) ⟨q,[]⟩=pure (fn.ps.zip q)
structure CkB(x qual:ay)(s:WJ)(f:bz):Prop where
 ck:CSs (c6 s) f.ns f.body (dS s):=by repeat' (first|rfl|constructor|decide +kernel)
 sc:fY f.ns f.ps (c6 s):=by constructor<;>first|rfl|decide +kernel
 bd:BdT x qual s f:=by intro _ _ _ _ _ _ us hl;first|(obtain⟨a0,a1,rfl⟩:=NP hl;rfl)|(obtain⟨a0,rfl⟩:=NO hl;rfl)|(obtain⟨a0,a1,a2,rfl⟩:=NQ hl;rfl)|(obtain⟨a0,a1,a2,a3,rfl⟩:=NR hl;rfl)|(obtain rfl:=len0 hl;rfl)|(obtain⟨a0,a1,a2,a3,a4,rfl⟩:=NS hl;rfl)|(obtain⟨a0,a1,a2,a3,a4,a5,rfl⟩:=QA hl;rfl)
def hn{w:SQ}{B:List Qy}(D:∀q∈B,fN K q=fO w q)(i:Nat){a:Qy}(h:B[i]?=aa a):fN K a=fO w a:=D _ (nth i h)
def uC(K:RQ)(mg:ay->Option aA)(p:BT.FK×bz):Prop:=(∀x,p.1=.f x->Def K mg x p.2)/\(∀c m,p.1=.m c m->Co K mg c m p.2)/\∀L,p.1=.l L->False
def dd(d:Def K mg x fn):uC K mg (.f x,fn):=⟨λy e=>by cases e;exact d,λc m e=>(by cases e),λL e=>by cases e⟩
def dm(d:Co K mg c m fn):uC K mg (.m c m,fn):=⟨λy e=>(by cases e),λc m e=>by cases e;exact d,λL e=>by cases e⟩
def cZ{q:Type}{Q:q->Prop}{a:q}{l:List q}(h:Q a)(t:∀p∈l,Q p):∀p∈a::l,Q p:=List.forall_mem_cons.mpr ⟨h,t⟩
def Dy{q:Type}{Q:q->Prop}:∀p∈([]:List q),Q p:=λ_ h=>bL h VR
section
variable{K:RQ}
def dd0(X:K.In h)(G:h.Ns Ss mg)(e:fN K (.fn x f st)=fO w (.fn x f st))(c:CkB x x st fn)(tg:uB fn.ns=ah:=by decide +kernel):uC K mg (.f x,fn) :=
 dd (Kc X G e c.sc c.bd c.ck λ_ _ _=>Dr tg)
def dm0(X:K.In h)(G:h.Ns Ss mg)(B:fN K (.cls c C)=fO w (.cls c C))(q:fN K (.mk C)=fO w (.mk C))(e:fN K (.me C m x qual f st)=fO w (.me C m x qual f st))(k:CkB x qual st fn)(tg:uB fn.ns=ah:=by decide +kernel):uC K mg (.m c m,fn) :=
 dm (Gp X G B q e k.sc k.bd k.ck tg)
end
structure Ke(K:RQ)(tl:List (ay×az×az)):Prop where
 all:∀z∈BT.iR,(∃c P,(z,c,P)∈tl/\Ud K z=aa (c,P))\/Ud K z=af
 hd:∀q∈tl,Wx K q.2.1 q.2.2=ah
def dY(e:fN K (.no x)=fO w (.no x)):Ud K x=af:=by simp only[fN,fO,Ov.b.injEq,bM]at e;unfold Ud;rw[e]
def vK(e:K.lookup b=aa o):b∈K.map (·.1):=List.mem_map.mpr ⟨(b,o),PySem.W.mem_of_lookupK e,rfl⟩
def zH 
(A:K.In s₁.heap)(I:s₁.heap.Ns Ss mg)(R:s₁.heap.Ns U8 mb)(Q:∀x:ay,x≠"__name__"->mb x=VM x)(f:s₁.heap.NoLimit)(hg:s₁.gens=#[])
(g:s₁.heap.get? a=aa {cls:=.type "list",data:=.seq vs.toArray})(hi:VG vs ns)(hl:ns.length<=aj)(hr:fW k YI)
(hT:Ke K tl)(M:∀p∈tl,s₁.heap.get? p.2.2=aa (VZ #[]))(S:∀p∈tl,K.lookup p.2.2=af)
(F:∀base:aq,jj P w K mg base CX0 k fa fd [x] sp)(W:∀(s:RV)(u:aA),K.In s.heap->BindsTo s fd ⟨[u],[]⟩ [(x,u)])
(G:∀H:Hp,TB K H->LL K H a (ns.map V.int)->sp [.ref a] H (λv _=>v=.bl ah) λ_ _ _=>False):
 ak (Su P w) YI (.call (.ref fa) ⟨[.ref a],[]⟩) (λr s'=>r=.ok (.ret (.bool ah))/\OldK s₁.heap s'.heap/\s'.os=s₁.os/\Yc s'.gens) s₁:=by
 have rv:=j9 hi;have Z:=hi.length;have C:∀p∈tl,p.2.2≠a:=λp D z=>by have:=M p D;rw[z,g]at this;cases this
 let t:HO:=.frz {cls:=.type "list",data:=.seq vs.toArray} (.aB (ns.map V.int))
 let H:Hp:=λb=>if ∃p∈tl,p.2.2=b then aa (.tbl #[])else if b=a/\K.lookup a=af then aa t else af
 have Ht:∀p∈tl,H p.2.2=aa (.tbl #[]):=λp D=>bJ ⟨p,D,rfl⟩;have J:∀b u,H b=aa u->(∃p∈tl,p.2.2=b/\u=.tbl #[])\/(b=a/\K.lookup a=af/\u=t):=λb u e=>by
  by_cases X:∃p∈tl,p.2.2=b
  ·have Y:aa (HO.tbl #[])=aa u:=(bJ X).symm.trans e;obtain⟨p,D,L⟩:=X;exact .inl ⟨p,D,L,(Sa Y).symm⟩
  ·have Y:(if b=a/\K.lookup a=af then aa t else af)=aa u:=(bK X).symm.trans e
   by_cases y:b=a/\K.lookup a=af
   ·rw[bJ y]at Y;exact .inr ⟨y.1,y.2,(Sa Y).symm⟩
   rw[bK y]at Y;exact bI Y
 have E:∀{b:az}{o:ao}{i:Array W7}{j:Nat},s₁.heap.get? b=aa o->o.data=.dict i j->H b=af:=λ{b o i j} e d=>by
  cases q:H b with
  |none=>rfl
  |some u =>
   rcases J b u q with⟨p,D,L,_⟩|⟨L,_⟩
   ·have z:=M p D;rw[L,e]at z;cases z;cases d
   ·rw[L,g]at e;cases e;have d':Data.seq vs.toArray _=Data.dict i j:=d;cases d'
 have U:∀ {b:az}{m:ay->Option aA},s₁.heap.Ns b m->(r9 s₁.heap H).Ns b m:=λ{b m} ⟨o,i,j,e,d,r⟩=>⟨o,i,j,sf e (E e d),d,r⟩;have T:K.In (r9 s₁.heap H):=λb o e=>sf (A b o e) (by
  cases q:H b with
  |none=>rfl
  |some u =>
   rcases J b u q with⟨p,D,L,_⟩|⟨L,h3,_⟩
   rw[←L,S p D]at e;exact bI e
   ·rw[L,h3] at e;exact bI e)
 have hM:Mod K mg (r9 s₁.heap H):=⟨T,U I,⟨mb,U R,Q⟩,let ⟨mc,h1,L⟩:=f;⟨mc,U h1,L⟩⟩;have aJ:HOk P w H s₁.heap:=λb u e=>by
  rcases J b u e with⟨p,D,L,rfl⟩|⟨L,_,rfl⟩
  subst L;exact M p D;subst L;exact⟨g,by rw[Se];exact hl,vs,_,rv,g⟩
 have e0:sD P w K mg (r9 s₁.heap H) YI [] s₁ H:=⟨rfl,hM,λb o e=>DH e,Nat.le_of_eq (yd _ _),trivial,λb R=>bL (show b∈([]:List az) from R) (by simp),aJ,.of_eq hg⟩;have tb:TB K H:=λz hz c Pt e=>by
  rcases hT.all z hz with⟨c3,P3,m3,l⟩|l
  ·rw[e]at l;cases l;exact⟨#[],Ht _ m3,trivial,λpos v q=>by cases q⟩
  rw[e]at l;cases l
 have hS:LL K H a (ns.map V.int):=by
  cases N:K.lookup a with
  |some o =>
   have e:=A a o N;rw[g]at e;cases e;exact .inr ⟨vs,_,N,by rw[Z];exact hl,rv⟩
  |none =>
   refine .inl (.inr ⟨{cls:=.type "list",data:=.seq vs.toArray},?_⟩);have e1:H a=(if a=a/\K.lookup a=af then aa t else af):=bK λ⟨p,D,z⟩=>C p D z;rw[e1,bJ ⟨rfl,N⟩]
 refine codeAny_mono ((F _).run YI [] s₁ H ⟨[.ref a],[]⟩ [.ref a] [.ref a] _ _ hr e0 (W s₁ (.ref a) A) (.cons rfl .nil) (G H tb hS)) λr s' h=>?_;cases r with
 |error e=>exact Ui h
 |ok fl =>
  cases fl with
  |ret u =>
   obtain⟨v,H',os,n,un,O,r',q⟩:=h;have q':v=.bl ah:=q;subst q';obtain rfl:u=VE ah:=r';have kp:∀b o,s₁.heap.get? b=aa o->(s'.heap.get? b=aa o)\/∃p∈tl,p.2.2=b/\∃B,s'.heap.get? b=aa (VZ (#[]++B)):=λb o e=>by
    cases q:H b with
    |none=>exact .inl (un.keep b o e q (by intro z;exact bL (show b∈([]:List az) from z) (by simp)) (by simp))
    |some u =>
     rcases J b u q with⟨p,D,L,rfl⟩|⟨L,h3,rfl⟩
     ·obtain⟨B,z⟩:=un.tbls b _ q;exact .inr ⟨p,D,L,B,O b _ z⟩
     ·have z2:=un.frzs b _ _ q;obtain⟨e1,_⟩:=aJ b _ q;obtain⟨e2,_⟩:=O b _ z2;rw[e]at e1;cases e1;exact .inl e2
   refine⟨rfl,⟨λb o e=>?_,λb o e=>?_⟩,os,n⟩
   ·rcases kp b o e with z|⟨p,D,rfl,B,z⟩
    exact .inl z
    ·have e2:=M p D;rw[e]at e2;cases e2;have tA:=(X8 A (hT.hd p D)).tab e;exact .inr (.inl ⟨tA.isCodeTable,rfl,#[],B,rfl,z⟩)
   ·rcases kp b o e with z|⟨p,D,rfl,B,z⟩
    exact⟨o,z⟩;exact⟨_,z⟩
  |_=>exact Ui h
def Dz{l:PySem.W.OpenLaw}{n k:Nat}{q:So}{loose:List ay}{XP:(ay->Option aA)->aq->Prop}{d:DefRec}{as:List az}{V:List Qy}{ts:List az}{tl:List (ay×az×az)}{T:BT.FK->Option bz}{G:ay->Option aN}{fn:bz}{x:ay}
(hn:l.most=aa n)(j:n<=aj)(t:d.params.defaults=[])(N:fW (2*k) YI)(D:fn.ps=[x])(y:T (.f d.name)=aa fn)(Z:ts=tl.map (·.2.2))(c:tl.all (λp=>!as.contains p.2.2)=ah)
(FT:∀(w:SQ)(K:RQ),(∀q∈V,fN K q=fO w q)->Ke K tl)
(F:∀(P:So)(w:SQ)(mg:ay->Option aA)(K:RQ) (h:aq),K.In h->h.Ns Ss mg->(∀q∈V,fN K q=fO w q)->Txt P w K mg T G)
(M:∀ns:List Int,ns.length<=n->∃h',aU T G k (.f d.name) [.p (.aB (BT.cV ns))] []=aa (.p (.bl ah),h')):
 PySem.W.WalkO q loose XP (sees as V ts).says l.row.toRowW d [] (λf vs=>YN f vs):=by
 refine Att.sI hn t λw v L mg mb fa o pm cd doc a vs ns U Y ho hd R r O J B Q=>?_;obtain⟨K,I,E,k2,C⟩:=Y;have A:=Gn E;have X:=F l.prog w mg K L.heap A U.T.g k2;obtain⟨f,fd,st,z,h2,h3,h4,h5,h6⟩:=(X.defs _ fn y).ex;rw[r]at z;cases z;refine zH (sp:=spF l.prog w K (aU T G k (.f d.name))) (x:=x) (k:=2*k) (fd:=fd) (tl:=tl) A U.T.g U.T.b U.T.builtins U.T.nolimit Q O J (SK B j) N (FT w K k2) (λp i=>C _ (by rw[Z];exact List.mem_map_of_mem i)) (λp i=>?_) (λbase=>?_) (λs u hK=>?_) (λH tb S=>Do tb S (M ns B))
 ·cases e:K.lookup p.2.2 with
  |none=>rfl
  |some o =>
   have m:=vK e;rw[I]at m;have:=List.all_eq_true.mp c p i;rw[List.contains_iff_mem.mpr m]at this;exact aS this
 ·have:=JE (base:=base) X k (.f d.name) fn y _ fd d.name d.name st h2 h3 h5 h6;rw[D]at this;exact this
 ·have:=h4 s [u] hK (by rw[D];rfl);rw[D]at this;exact this
end BG
end
section
namespace BL
open PySem PySem.Spec PyProof.Rows L2 BS BF BG
def QB:CkB "is_whole" "is_whole" (top 11) BT.iX:={}
def QC:CkB "is_name" "is_name" (top 12) BT.iI:={}
def QD:CkB "is_cell" "is_cell" (top 13) BT.jA:={}
def QE:CkB "inner_sums" "inner_sums" (top 14) BT.fD:={}
def QF:CkB "begun" "begun" (top 23) BT.lQ:={}
def QG:CkB "check_thing" "check_thing" (top 24) BT.fq:={}
def QH:CkB "worth_in" "worth_in" (top 25) BT.gO:={}
def QI:CkB "laid_out" "laid_out" (top 26) BT.iT:={}
def QJ:CkB "of_two" "of_two" (top 27) BT.kB:={}
def QK:CkB "worth_of" "worth_of" (top 28) BT.fj:={}
def QL:CkB "reckoned" "reckoned" (top 29) BT.iU:={}
def QM:CkB "cell_by" "cell_by" (top 30) BT.jw:={}
def QN:CkB "is_over" "is_over" (top 31) BT.iJ:={}
def QO:CkB "place_behind" "place_behind" (top 32) BT.fL:={}
def QS:CkB "with_worth" "with_worth" (top 33) BT.gF:={}
def QT:CkB "with_name" "with_name" (top 34) BT.g7:={}
def QU:CkB "with_thing" "with_thing" (top 35) BT.fG:={}
def QV:CkB "brought" "brought" (top 36) BT.iK:={}
def QW:CkB "stepped" "stepped" (top 37) BT.jx:={}
def QX:CkB "_law_cell" "_law_cell" (top 45) BT.gP:={}
def QY:CkB "_law_drawn" "_law_drawn" (top 46) BT.g9:={}
def QZ:CkB "_law_sum" "_law_sum" (top 47) BT.fR:={}
def Q0:CkB "_law_row" "_law_row" (top 48) BT.jy:={}
def Q2:CkB "_law_program" "_law_program" (top 49) BT.fk:={}
def Q3:CkB "_law_asked" "_law_asked" (top 50) BT.ig:={}
def Q4:CkB "_law_thing" "_law_thing" (top 51) BT.gn:={}
def Q5:CkB "_law_of" "_law_of" (top 52) BT.kE:={}
def Q6:CkB "_law_tree" "_law_tree" (top 53) BT.iZ:={}
def Q7:CkB "_law_all" "_law_all" (top 54) BT.jC:={}
def Q8:CkB "law" "law" (top 55) BT.jh:={}
def Kf:CkB "__init__" "Tape.__init__" (dR 40 0) BT.gk:={}
def DA:CkB "at" "Tape.at" (dR 40 1) BT.iN:={}
def DB:CkB "end" "Tape.end" (dR 40 2) BT.gQ:={}
def xV:CkB "behind" "Tape.behind" (dR 40 10) BT.fm:={}
def xW:CkB "is_last" "Tape.is_last" (dR 40 11) BT.d8:={}
def xX:CkB "keep" "Tape.keep" (dR 40 12) BT.fu:={}
def xY:CkB "reach" "Tape.reach" (dR 40 13) BT.fE:={}
def xZ:CkB "has" "Tape.has" (dR 40 14) BT.gR:={}
def ya:CkB "check" "Tape.check" (dR 40 15) BT.fF:={}
def Kg:CkB "__init__" "Branch.__init__" (dR 42 0) BT.gq:={}
def Kl:CkB "__init__" "Tree.__init__" (dR 43 0) BT.iw:={}
def Km:CkB "part" "Tree.part" (dR 43 1) BT.iy:={}
def Kn:CkB "at" "Tree.at" (dR 43 2) BT.jB:={}
def Ko:CkB "end" "Tree.end" (dR 43 3) BT.iY:={}
def Kp:CkB "parent" "Tree.parent" (dR 43 4) BT.gr:={}
def Kq:CkB "path" "Tree.path" (dR 43 5) BT.iz:={}
def Kr:CkB "children" "Tree.children" (dR 43 6) BT.gD:={}
def Ks:CkB "shared" "Tree.shared" (dR 43 7) BT.iO:={}
def Ku:CkB "ends_with" "Tree.ends_with" (dR 43 9) BT.gy:={}
def Gq:CkB "check_run" "Tree.check_run" (dR 43 10) BT.eY:={}
def Gs:CkB "first" "Tree.first" (dR 43 11) BT.fH:={}
def Gu:CkB "holder" "Tree.holder" (dR 43 12) BT.gu:={}
def tab:List (BT.FK×bz):=[(.f "is_whole",BT.iX),(.f "is_name",BT.iI),(.f "is_cell",BT.jA),(.f "inner_sums",BT.fD),(.f "begun",BT.lQ),(.f "check_thing",BT.fq),(.f "worth_in",BT.gO),(.f "laid_out",BT.iT),(.f "of_two",BT.kB),(.f "worth_of",BT.fj),(.f "reckoned",BT.iU),(.f "cell_by",BT.jw),(.f "is_over",BT.iJ),(.f "place_behind",BT.fL),(.f "with_worth",BT.gF),(.f "with_name",BT.g7),(.f "with_thing",BT.fG),(.f "brought",BT.iK),(.f "stepped",BT.jx),(.f "_law_cell",BT.gP),(.f "_law_drawn",BT.g9),(.f "_law_sum",BT.fR),(.f "_law_row",BT.jy),(.f "_law_program",BT.fk),(.f "_law_asked",BT.ig),(.f "_law_thing",BT.gn),(.f "_law_of",BT.kE),(.f "_law_tree",BT.iZ),(.f "_law_all",BT.jC),(.f "law",BT.jh),(.m "Tape" "__init__",BT.gk),(.m "Tape" "at",BT.iN),(.m "Tape" "end",BT.gQ),(.m "Tape" "behind",BT.fm),(.m "Tape" "is_last",BT.d8),(.m "Tape" "keep",BT.fu),(.m "Tape" "reach",BT.fE),(.m "Tape" "has",BT.gR),(.m "Tape" "check",BT.fF),(.m "Branch" "at",BT.iN),(.m "Branch" "end",BT.gQ),(.m "Branch" "behind",BT.fm),(.m "Branch" "is_last",BT.d8),(.m "Branch" "keep",BT.fu),(.m "Branch" "reach",BT.fE),(.m "Branch" "has",BT.gR),(.m "Branch" "check",BT.fF),(.m "Branch" "__init__",BT.gq),(.m "Tree" "__init__",BT.iw),(.m "Tree" "part",BT.iy),(.m "Tree" "at",BT.jB),(.m "Tree" "end",BT.iY),(.m "Tree" "parent",BT.gr),(.m "Tree" "path",BT.iz),(.m "Tree" "children",BT.gD),(.m "Tree" "shared",BT.iO),(.m "Tree" "ends_with",BT.gy),(.m "Tree" "check_run",BT.eY),(.m "Tree" "first",BT.fH),(.m "Tree" "holder",BT.gu)]
noncomputable def aE:List (ay×aN):=[("CELL_COUNT",.p (.int 4)),("WORTH_COUNT",.p (.int 10007)),("ROW",.p (.int 0)),("NAMES",.p (.int 1)),("CELLS",.p (.int 2)),("CALLS",.p (.int 3)),("ASKED",.p (.int 4)),("SAID",.p (.int 5)),("MOST_CALLS",.p (.int 6)),("MOST_MARKS",.p (.int 8)),("LETTERS",.p (.aC ((["a","b","c","d","e","f"]:List ay).map aM.str))),("INNER_COUNTS",.k (.t (([("num",0),("name",0),("cell",1),("add",2),("sub",2),("mul",2),("less",2)]:List (ay×Int)).map λq=>(q.1,aM.int q.2))))]
noncomputable abbrev T:BT.FK->Option bz:=look tab
noncomputable abbrev G:ay->Option aN:=look aE
def prg:BT.Prg T G:=⟨rfl,rfl,rfl,rfl,rfl,rfl,rfl,rfl,rfl,rfl,rfl,rfl,rfl,rfl,rfl,rfl,rfl,rfl,rfl,rfl,rfl,rfl,rfl,rfl,rfl,rfl⟩
def tpp:BT.TpP "Branch" T G:=⟨prg,rfl,rfl,rfl,rfl,rfl,rfl,rfl,rfl,rfl⟩
def trp:BT.TrP T G:=⟨tpp,⟨rfl⟩,rfl,rfl,rfl,rfl,rfl,rfl,rfl,rfl,rfl,⟨rfl,rfl⟩,⟨rfl⟩⟩
def tpt:BT.TpP "Tape" T G:=⟨prg,rfl,rfl,rfl,rfl,rfl,rfl,rfl,rfl,rfl⟩
def lws:BT.mZ T G:=⟨⟨⟨rfl,rfl,rfl,rfl,rfl⟩,rfl,rfl,rfl⟩,rfl,rfl,rfl,⟨rfl,rfl,rfl⟩,⟨rfl⟩,⟨rfl⟩,tpt,⟨rfl⟩⟩
def run(ns:List Int)(h:ns.length<=1000):∃h',aU T G 40 "law" [.p (.aB (BT.cV ns))] []=aa (.p (.bl ah),h'):=BT.zE trp lws ns h 25
def NT(w:SQ)(K:RQ)(B:∀q∈qys,fN K q=fO w q):Ke K tl:=by
 refine⟨λz D=>?_,λp J=>?_⟩
 ·simp only[BT.iR,XR,VR,or_false]at D;rcases D with rfl|rfl|rfl|rfl|rfl|rfl|rfl|rfl|rfl|rfl|rfl|rfl|rfl|rfl|rfl
  exact .inr (dY (w:=w) (hn B 63 rfl));exact .inr (dY (w:=w) (hn B 64 rfl));exact .inr (dY (w:=w) (hn B 65 rfl));exact .inr (dY (w:=w) (hn B 66 rfl));exact .inr (dY (w:=w) (hn B 67 rfl));exact .inr (dY (w:=w) (hn B 68 rfl));exact .inr (dY (w:=w) (hn B 69 rfl));exact .inr (dY (w:=w) (hn B 70 rfl));exact .inr (dY (w:=w) (hn B 71 rfl));exact .inr (dY (w:=w) (hn B 72 rfl));exact .inr (dY (w:=w) (hn B 73 rfl));exact .inr (dY (w:=w) (hn B 74 rfl));exact .inr (dY (w:=w) (hn B 75 rfl));exact .inr (dY (w:=w) (hn B 76 rfl));exact .inr (dY (w:=w) (hn B 77 rfl))
 simp[tl]at J
def txt(P:So)(w:SQ)(mg:ay->Option aA)(K:RQ)(h:aq)(X:K.In h)(D:h.Ns Ss mg)(B:∀q∈qys,fN K q=fO w q):Txt P w K mg T G:=by have M:=NT w K B;have all:∀p∈tab,uC K mg p:=cZ (dd0 X D (hn B 0 rfl) QB) <|cZ (dd0 X D (hn B 1 rfl) QC) <|cZ (dd0 X D (hn B 2 rfl) QD) <|cZ (dd0 X D (hn B 3 rfl) QE) <|cZ (dd0 X D (hn B 4 rfl) QF) <|cZ (dd0 X D (hn B 5 rfl) QG) <|cZ (dd0 X D (hn B 6 rfl) QH) <|cZ (dd0 X D (hn B 7 rfl) QI) <|cZ (dd0 X D (hn B 8 rfl) QJ) <|cZ (dd0 X D (hn B 9 rfl) QK) <|cZ (dd0 X D (hn B 10 rfl) QL) <|cZ (dd0 X D (hn B 11 rfl) QM) <|cZ (dd0 X D (hn B 12 rfl) QN) <|cZ (dd0 X D (hn B 13 rfl) QO) <|cZ (dd0 X D (hn B 14 rfl) QS) <|cZ (dd0 X D (hn B 15 rfl) QT) <|cZ (dd0 X D (hn B 16 rfl) QU) <|cZ (dd0 X D (hn B 17 rfl) QV) <|cZ (dd0 X D (hn B 18 rfl) QW) <|cZ (dd0 X D (hn B 19 rfl) QX) <|cZ (dd0 X D (hn B 20 rfl) QY) <|cZ (dd0 X D (hn B 21 rfl) QZ) <|cZ (dd0 X D (hn B 22 rfl) Q0) <|cZ (dd0 X D (hn B 23 rfl) Q2) <|cZ (dd0 X D (hn B 24 rfl) Q3) <|cZ (dd0 X D (hn B 25 rfl) Q4) <|cZ (dd0 X D (hn B 26 rfl) Q5) <|cZ (dd0 X D (hn B 27 rfl) Q6) <|cZ (dd0 X D (hn B 28 rfl) Q7) <|cZ (dd0 X D (hn B 29 rfl) Q8) <|cZ (dm0 X D (hn B 78 rfl) (hn B 79 rfl) (hn B 84 rfl) Kf) <|cZ (dm0 X D (hn B 78 rfl) (hn B 79 rfl) (hn B 85 rfl) DA) <|cZ (dm0 X D (hn B 78 rfl) (hn B 79 rfl) (hn B 86 rfl) DB) <|cZ (dm0 X D (hn B 78 rfl) (hn B 79 rfl) (hn B 87 rfl) xV) <|cZ (dm0 X D (hn B 78 rfl) (hn B 79 rfl) (hn B 88 rfl) xW) <|cZ (dm0 X D (hn B 78 rfl) (hn B 79 rfl) (hn B 89 rfl) xX) <|cZ (dm0 X D (hn B 78 rfl) (hn B 79 rfl) (hn B 90 rfl) xY) <|cZ (dm0 X D (hn B 78 rfl) (hn B 79 rfl) (hn B 91 rfl) xZ) <|cZ (dm0 X D (hn B 78 rfl) (hn B 79 rfl) (hn B 92 rfl) ya) <|cZ (dm0 X D (hn B 80 rfl) (hn B 81 rfl) (hn B 93 rfl) DA) <|cZ (dm0 X D (hn B 80 rfl) (hn B 81 rfl) (hn B 94 rfl) DB) <|cZ (dm0 X D (hn B 80 rfl) (hn B 81 rfl) (hn B 95 rfl) xV) <|cZ (dm0 X D (hn B 80 rfl) (hn B 81 rfl) (hn B 96 rfl) xW) <|cZ (dm0 X D (hn B 80 rfl) (hn B 81 rfl) (hn B 97 rfl) xX) <|cZ (dm0 X D (hn B 80 rfl) (hn B 81 rfl) (hn B 98 rfl) xY) <|cZ (dm0 X D (hn B 80 rfl) (hn B 81 rfl) (hn B 99 rfl) xZ) <|cZ (dm0 X D (hn B 80 rfl) (hn B 81 rfl) (hn B 100 rfl) ya) <|cZ (dm0 X D (hn B 80 rfl) (hn B 81 rfl) (hn B 101 rfl) Kg) <|cZ (dm0 X D (hn B 82 rfl) (hn B 83 rfl) (hn B 102 rfl) Kl) <|cZ (dm0 X D (hn B 82 rfl) (hn B 83 rfl) (hn B 103 rfl) Km) <|cZ (dm0 X D (hn B 82 rfl) (hn B 83 rfl) (hn B 104 rfl) Kn) <|cZ (dm0 X D (hn B 82 rfl) (hn B 83 rfl) (hn B 105 rfl) Ko) <|cZ (dm0 X D (hn B 82 rfl) (hn B 83 rfl) (hn B 106 rfl) Kp) <|cZ (dm0 X D (hn B 82 rfl) (hn B 83 rfl) (hn B 107 rfl) Kq) <|cZ (dm0 X D (hn B 82 rfl) (hn B 83 rfl) (hn B 108 rfl) Kr) <|cZ (dm0 X D (hn B 82 rfl) (hn B 83 rfl) (hn B 109 rfl) Ks) <|cZ (dm0 X D (hn B 82 rfl) (hn B 83 rfl) (hn B 110 rfl) Ku) <|cZ (dm0 X D (hn B 82 rfl) (hn B 83 rfl) (hn B 111 rfl) Gq) <|cZ (dm0 X D (hn B 82 rfl) (hn B 83 rfl) (hn B 112 rfl) Gs) <|cZ (dm0 X D (hn B 82 rfl) (hn B 83 rfl) (hn B 113 rfl) Gu) <|Dy;refine⟨λx fn e=>?_,λc m fn e=>?_,λL fn e=>?_,λx z e=>?_,?_⟩;exact j5 (Q:=λk fn=>∀x,k=.f x->Def K mg x fn) (l:=tab) (λp J=>(all p J).1) e x rfl;exact j5 (Q:=λk fn=>∀c m,k=.m c m->Co K mg c m fn) (l:=tab) (λp J=>(all p J).2.1) e c m rfl;exact j5 (Q:=λk fn=>∀L,k=.l L->False) (l:=tab) (λp J=>(all p J).2.2) e L rfl;exact j5 (Q:=λx z=>vJ P w K mg x z) (l:=aE) (cZ (fK X D (hn B 30 rfl)) <|cZ (fK X D (hn B 31 rfl)) <|cZ (fK X D (hn B 32 rfl)) <|cZ (fK X D (hn B 33 rfl)) <|cZ (fK X D (hn B 34 rfl)) <|cZ (fK X D (hn B 35 rfl)) <|cZ (fK X D (hn B 36 rfl)) <|cZ (fK X D (hn B 37 rfl)) <|cZ (fK X D (hn B 38 rfl)) <|cZ (fK X D (hn B 39 rfl)) <|cZ (Dv X D (hn B 40 rfl) (by decide) (by decide +kernel)) <|cZ (Dw X D (hn B 41 rfl) (by decide) (by decide +kernel)) <|Dy) e;exact cZ (none_of X D (hn B 42 rfl)) <|cZ (none_of X D (hn B 43 rfl)) <|cZ (none_of X D (hn B 44 rfl)) <|cZ (none_of X D (hn B 45 rfl)) <|cZ (none_of X D (hn B 46 rfl)) <|cZ (none_of X D (hn B 47 rfl)) <|cZ (none_of X D (hn B 48 rfl)) <|cZ (none_of X D (hn B 49 rfl)) <|cZ (none_of X D (hn B 50 rfl)) <|cZ (none_of X D (hn B 51 rfl)) <|cZ (none_of X D (hn B 52 rfl)) <|cZ (none_of X D (hn B 53 rfl)) <|cZ (none_of X D (hn B 54 rfl)) <|cZ (none_of X D (hn B 55 rfl)) <|cZ (none_of X D (hn B 56 rfl)) <|cZ (none_of X D (hn B 57 rfl)) <|cZ (none_of X D (hn B 58 rfl)) <|cZ (none_of X D (hn B 59 rfl)) <|cZ (none_of X D (hn B 60 rfl)) <|cZ (none_of X D (hn B 61 rfl)) <|cZ (none_of X D (hn B 62 rfl)) <|Dy
noncomputable abbrev lw:DefRec:=⟨"law",fX (top 55),dS (top 55),c6 (top 55),OR (top 55)⟩
def df:PySem.W.defOf qg "law"=aa (lw,[]):=by kernel_rfl
def th:pg.theDef "law"=aa (lw.params,lw.body,lw.scope):=by kernel_rfl
def walk:PySem.W.WalkO qg loo (PySem.W.XL qg []) (sees adr qys tas).says PySem.Challenge.rw_backtape_k64_whole_trees.row.toRowW lw [] (λf vs=>YN f vs) :=
 Dz (l:=PySem.Challenge.rw_backtape_k64_whole_trees) (n:=63) (k:=40) (x:="_law_script") (d:=lw) (T:=T) (G:=G) (ts:=tas) (fn:=BT.jh) rfl (by decide) rfl ⟨rfl,by decide,by decide⟩ rfl rfl (tl:=tl) rfl (by decide +kernel) NT txt λq B=>run q (by lia)
end BL
open PySem PySem.W PyProof.Rows
set_option maxRecDepth 100000 in
set_option maxHeartbeats 0 in
theorem PySem.Challenge.cw_backtape_k64_whole_trees_holds : PySem.Challenge.rw_backtape_k64_whole_trees.Holds := by
 w_on;refine PySem.W.holds_law (by decide +kernel) λsaid=>?_
 refine PySem.W.holds_open (q:=BL.qg) (loose:=BL.loo) (XP:=XL BL.qg []) (YP:=(BG.sees BL.adr BL.qys BL.tas).says) (d:=BL.lw) (kwd:=[]) BL.left (BG.sees BL.adr BL.qys BL.tas).of (BG.sees BL.adr BL.qys BL.tas).keeps (λs e=>xl_of s (Bool.and_eq_true_iff.mp e).1) XL.keeps BL.df BL.th (by kernel_rfl) (λs e=>recFacts_of (Bool.and_eq_true_iff.mp e).2) rfl (by first|assumption|decide +kernel) (by decide +kernel) ⟨rfl,rfl,rfl,rfl,rfl,by decide +kernel⟩ ?hw BL.walk
 (case hw=>w_witness2)
#print axioms PySem.Challenge.cw_backtape_k64_whole_trees_holds
end
end
